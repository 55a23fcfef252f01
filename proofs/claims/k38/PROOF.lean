import PyProof.Rows.All
import Wide.All
import OpenK.AllK
import Wide.FinOn
import Lean
import PyProof.EqAt
import PyProof.EqKinds
import PyProof.TupleCall
import PySem.Challenge.RW_dullglass_k38_beliefs_behind_signs
set_option Elab.async false
set_option linter.all false
set_option maxRecDepth 100000
set_option maxHeartbeats 4000000
set_option genSizeOf false
set_option genInjectivity false
namespace L2
open PySem PySem.Spec PyProof.Rows
abbrev Key:=Sum Int Str
def keyIs:Key→Value→Bool
 | .inl k,v=>Value.isInt k v
 | .inr x,v=>Value.isStrOf x v
def keyH (w:World):Key→Int
 | .inl k=>hashInt k
 | .inr x=>hashStr w x
theorem keyIs_shape : ∀ {k:Key}{v:Value},keyIs k v=true→(∃ i t,k=Sum.inl i∧v=Value.int i t)∨(∃ x t,k=Sum.inr x∧v=Value.str x t)
 | .inl i,v,h=>by
  obtain ⟨t,e⟩:=Value.isInt_shape (k:=i) (v:=v) h
  exact .inl ⟨i,t,rfl,e⟩
 | .inr x,v,h=>by
  obtain ⟨t,e⟩:=Value.isStrOf_shape (x:=x) (v:=v) h
  exact .inr ⟨x,t,rfl,e⟩
theorem keyIs_int (i:Int) (t:Tok):keyIs (.inl i) (.int i t)=true:=by simp [keyIs,Value.isInt]
theorem keyIs_str (x:Str) (t:Tok):keyIs (.inr x) (.str x t)=true:=by simp [keyIs,Value.isStrOf]
theorem key_ll (a b:Int):decide ((Sum.inl a:Key)=Sum.inl b)=(a==b):=by
 by_cases e:a=b
 ·subst e;simp
 ·have h : ¬ (Sum.inl a:Key)=Sum.inl b:=fun q=>e (Sum.inl.inj q)
  rw [decide_eq_false h]
  exact (beq_eq_false_iff_ne.mpr e).symm
theorem key_rr (a b:Str):decide ((Sum.inr a:Key)=Sum.inr b)=decide (a=b):=by
 by_cases e:a=b
 ·subst e;simp
 ·have h : ¬ (Sum.inr a:Key)=Sum.inr b:=fun q=>e (Sum.inr.inj q)
  rw [decide_eq_false h,decide_eq_false e]
theorem key_lr (a:Int) (b:Str):decide ((Sum.inl a:Key)=Sum.inr b)=false:=decide_eq_false (fun q=>nomatch q)
theorem key_rl (a:Str) (b:Int):decide ((Sum.inr a:Key)=Sum.inl b)=false:=decide_eq_false (fun q=>nomatch q)
def mixKind (prog:Program) (w:World):PySem.KeyKind prog w Key where
 is:=keyIs
 hash:=keyH w
 inj:=fun v a b ha hb=>by
  rcases keyIs_shape ha with ⟨i,t,rfl,rfl⟩|⟨x,t,rfl,rfl⟩
  ·rcases keyIs_shape hb with ⟨j,u,rfl,e⟩|⟨y,u,rfl,e⟩
   ·injection e with e1 _;rw [e1]
   ·exact nomatch e
  ·rcases keyIs_shape hb with ⟨j,u,rfl,e⟩|⟨y,u,rfl,e⟩
   ·exact nomatch e
   ·injection e with e1 _;rw [e1]
 byValue:=fun k v h=>by
  rcases keyIs_shape h with ⟨i,t,rfl,rfl⟩|⟨x,t,rfl,rfl⟩ <;> rfl
 pyHash:=fun hv h=>by
  rcases keyIs_shape hv with ⟨i,t,rfl,rfl⟩|⟨x,t,rfl,rfl⟩
  ·exact wpAny_pyHash_int h
  ·exact wpAny_pyHash_str h
 eqBool:=fun hu hv h=>by
  rcases keyIs_shape hu with ⟨i,t,rfl,rfl⟩|⟨x,t,rfl,rfl⟩
  ·rcases keyIs_shape hv with ⟨j,u,rfl,rfl⟩|⟨y,u,rfl,rfl⟩
   ·rw [key_ll] at h;exact wpAny_eqBool_int h
   ·rw [key_lr] at h;exact SeqAt.EqAt.int_str i t y u _ _ _ _ h
  ·rcases keyIs_shape hv with ⟨j,u,rfl,rfl⟩|⟨y,u,rfl,rfl⟩
   ·rw [key_rl] at h;exact SeqAt.EqAt.str_int x t j u _ _ _ _ h
   ·rw [key_rr] at h;exact wpAny_eqBool_str h
 «strs»:=fun k x t v h=>by
  rcases keyIs_shape h with ⟨i,u,rfl,e⟩|⟨y,u,rfl,e⟩
  ·exact nomatch e
  ·injection e with e1 _
   subst e1
   cases v <;> rfl
theorem mixKind_is (prog:Program) (w:World) (k:Key) (v:Value):(mixKind prog w).is k v=keyIs k v:=rfl
theorem mixKind_int (prog:Program) (w:World) (i:Int) (t:Tok):(mixKind prog w).is (.inl i) (.int i t)=true:=keyIs_int i t
theorem mixKind_str (prog:Program) (w:World) (x:Str) (t:Tok):(mixKind prog w).is (.inr x) (.str x t)=true:=keyIs_str x t
end L2
namespace L2
open PySem PySem.Spec PyProof.Rows
inductive V where
 | non|bl (b:Bool)|int (i:Int)|str (x:Str)|byt (b:Array UInt8)|flt (b:UInt64)|ref (a:Addr)|ty (n:String)
 deriving DecidableEq
def RelV:V→Value→Prop
 | .non,u=>u=Value.none
 | .bl b,u=>u=Value.bool b
 | .int i,u => ∃ t,u=Value.int i t
 | .str x,u => ∃ t,u=Value.str x t
 | .byt b,u => ∃ t,u=Value.bytes b t
 | .flt b,u => ∃ t,u=Value.float b t
 | .ref a,u=>u=Value.ref a
 | .ty n,u=>u=Value.type n
abbrev Vals:List V→List Value→Prop:=Paired RelV
theorem Vals.length {xs:List V}{us:List Value} (r:Vals xs us):xs.length=us.length:=Paired.length r
theorem Vals.get : ∀ {xs:List V}{us:List Value}{i:Nat}{x:V},Vals xs us→xs[i]?=some x → ∃ u,us[i]?=some u∧RelV x u
 | _,_,_,_,.nil,e=>by simp at e
 | _,_,0,_,.cons r _,e=>by simp at e;subst e;exact ⟨_,rfl,r⟩
 | _,_,i+1,x,.cons _ t,e=>by
  obtain ⟨u,h1,h2⟩:=Vals.get (i:=i) (x:=x) t (by simpa using e)
  exact ⟨u,by simpa using h1,h2⟩
theorem Vals.set {x:V}{u:Value} (r:RelV x u) : ∀ {xs:List V}{us:List Value} (i:Nat),Vals xs us→Vals (xs.set i x) (us.set i u)
 | _,_,_,.nil => .nil
 | _,_,0,.cons _ t => .cons r t
 | _,_,i+1,.cons q t => .cons q (Vals.set r i t)
theorem Vals.append : ∀ {xs ys:List V}{us ws:List Value},Vals xs us→Vals ys ws→Vals (xs++ys) (us++ws)
 | _,_,_,_,.nil,s=>s
 | _,_,_,_,.cons r t,s => .cons r (Vals.append t s)
theorem Vals.take : ∀ {xs:List V}{us:List Value} (n:Nat),Vals xs us→Vals (xs.take n) (us.take n)
 | _,_,0,_ => .nil
 | _,_,_+1,.nil => .nil
 | _,_,n+1,.cons r t => .cons r (Vals.take n t)
theorem Vals.drop : ∀ {xs:List V}{us:List Value} (n:Nat),Vals xs us→Vals (xs.drop n) (us.drop n)
 | _,_,0,r=>r
 | _,_,_+1,.nil => .nil
 | _,_,n+1,.cons _ t=>Vals.drop n t
def RelO:Option V→Option Value→Prop
 | some v,some u=>RelV v u
 | none,none=>True
 | _,_=>False
def KV {κ:Type}:List (κ×V)→List (κ×Value)→Prop:=Paired fun (p:κ×V) (q:κ×Value)=>p.1=q.1∧RelV p.2 q.2
def kV:Key→V
 | .inl i => .int i
 | .inr x => .str x
inductive HO where
 | lst (xs:List V)
 | tup (xs:List V)
 | dK (kvs:List (Key×V))|dT (kvs:List (List Key×V))
 | set (S:Int→Bool) (n:Nat)
 | ins (C dx:Addr) (fs:List (Str×V))
 | own (x:Addr)
 | xd (fs:List (Str×V))
 | met (f x:Addr)
 | rng (lo hi:Int)
 | frz (o:Obj) (u:HO)
 | tbl (ps:Array Value)
 | ext (φ:Heap→Prop)
abbrev Hp:=Addr→Option HO
def upd (H:Hp) (a:Addr) (o:HO):Hp:=fun b=>if b=a then some o else H b
theorem upd_same {H:Hp}{a:Addr}{o:HO}:upd H a o a=some o:=by unfold upd;rw [if_pos rfl]
theorem upd_ne {H:Hp}{a b:Addr}{o:HO} (h:b≠a):upd H a o b=H b:=by unfold upd;rw [if_neg h]
theorem upd_upd {H:Hp}{a:Addr}{o u:HO}:upd (upd H a o) a u=upd H a u:=by
 funext b;unfold upd;split <;> rfl
theorem ne_of {H:Hp}{a b:Addr}{o u:HO} (h:H a=some o) (h':H b=some u) (d:o≠u):a≠b:=by
 intro e;subst e;rw [h] at h';exact d (Option.some.inj h')
theorem ne_of_none {H:Hp}{a b:Addr}{o:HO} (h:H a=some o) (h':H b=none):a≠b:=by
 intro e;subst e;rw [h] at h';cases h'
section
variable (P:Program) (w:World)
def ObjOk (H:Hp) (h:Heap) (a:Addr):HO→Prop
 | .lst xs=>xs.length≤sizeLine ∧ ∃ (its:List Value) (n:Nat),Vals xs its∧h.get? a=some { cls :=.type "list",data :=.seq its.toArray n }
 | .tup xs=>xs.length≤sizeLine ∧ ∃ its:List Value,Vals xs its∧IsTup h a its.toArray
 | .dK kvs=>kvs.length≤sizeLine∧(a==sysModules)=false ∧ ∃ vs,KV kvs vs∧h.DictOf (mixKind P w) a vs
 | .dT kvs=>kvs.length≤sizeLine∧(a==sysModules)=false ∧ ∃ xs:List (List Key×Addr×Value),
  Paired (fun (p:List Key×V) (q:List Key×Addr×Value)=>p.1=q.1∧H q.2.1=some (.tup (p.1.map kV))∧RelV p.2 q.2.2) kvs xs ∧
  ∃ o es ep,h.get? a=some o∧o.ExactDict∧o.data = .dict es ep∧es.toList=xs.map (entryOfKey (tupleKind (mixKind P w)))∧(xs.map (·.1)).Nodup
 | .set S n=>h.SetOf (intKind P w) a S n
 | .ins C dx fs=>H dx=some (.own a)∧fs.length≤1000∧dx≠a∧h.get? a=some (PySem.W.instObj C dx) ∧
  ∃ mA,h.Ns1 dx mA∧(∀ f,RelO (fs.lookup f) (mA f))∧PySem.Within mA (fs.map (·.1))
 | .own _ => ∃ o,h.get? a=some o
 | .xd fs => ∃ mA,h.Ns1 a mA ∧ ∀ f,RelO (fs.lookup f) (mA f)
 | .rng lo hi => ∃ t u v,h.get? a=some { cls :=.type "range",data :=.fields #[.int lo t,.int hi u,.int 1 v] }
 | .frz o u=>h.get? a=some o∧ObjOk H h a u
 | .tbl ps=>h.get? a=some { cls :=.none,data :=.fields ps }
 | .met f x=>h.get? a=some (PySem.W.methodObj (.ref f) (.ref x))
 | .ext φ=>φ h∧(∃ o,h.get? a=some o) ∧ ∀ h1 h2:Heap,φ h1→(∀ o,h1.get? a=some o→h2.get? a=some o)→φ h2
def HOk (H:Hp) (h:Heap):Prop := ∀ a o,H a=some o→ObjOk P w H h a o
end
section
variable {P:Program}{w:World}{H H':Hp}{h h':Heap}{a:Addr}{o:HO}
theorem ObjOk.lt (x:ObjOk P w H h a o):a<h.objs.size:=by
 cases o with
 | lst xs=>obtain ⟨_,_,_,_,e⟩:=x;exact Heap.lt_size e
 | tup xs=>obtain ⟨_,_,_,p⟩:=x;exact p.lt
 | dK kvs=>obtain ⟨_,_,_,_,o,_,_,e,_⟩:=x;exact Heap.lt_size e
 | dT kvs=>obtain ⟨_,_,_,_,o,_,_,e,_⟩:=x;exact Heap.lt_size e
 | set S n=>obtain ⟨o,_,_,_,e,_⟩:=x;exact Heap.lt_size e
 | ins C dx fs=>obtain ⟨_,_,_,e,_⟩:=x;exact Heap.lt_size e
 | own y=>obtain ⟨_,e⟩:=x;exact Heap.lt_size e
 | xd fs=>obtain ⟨_,⟨_,_,_,e,_⟩,_⟩:=x;exact Heap.lt_size e
 | rng lo hi=>obtain ⟨_,_,_,e⟩:=x;exact Heap.lt_size e
 | frz ob u=>obtain ⟨e,_⟩:=x;exact Heap.lt_size e
 | tbl ps=>exact Heap.lt_size (show h.get? a=some _ from x)
 | met f y=>exact Heap.lt_size (show h.get? a=some _ from x)
 | ext φ=>obtain ⟨_,⟨_,e⟩,_⟩:=x;exact Heap.lt_size e
theorem Paired.mapP {α β:Type}{F G:α→β→Prop} : ∀ {l₁:List α}{l₂:List β},Paired F l₁ l₂→(∀ a b,F a b→G a b)→Paired G l₁ l₂
 | _,_,.nil,_ => .nil
 | _,_,.cons r t,f => .cons (f _ _ r) (Paired.mapP t f)
theorem ObjOk.stay (x:ObjOk P w H h a o) (k : ∀ b u,(b=a∨H b=some (.own a))→h.get? b=some u→h'.get? b=some u)
 (ho : ∀ b,H b=some (.own a)→H' b=some (.own a)) (ht : ∀ b xs,H b=some (.tup xs)→H' b=some (.tup xs)):ObjOk P w H' h' a o:=by
  induction o with
  | lst xs=>obtain ⟨z,its,n,r,e⟩:=x;exact ⟨z,its,n,r,k _ _ (.inl rfl) e⟩
  | tup xs=>obtain ⟨z,its,r,ob,e,c⟩:=x;exact ⟨z,its,r,ob,k _ _ (.inl rfl) e,c⟩
  | dK kvs=>obtain ⟨z,y,vs,r,ob,es,ep,e,c⟩:=x;exact ⟨z,y,vs,r,ob,es,ep,k _ _ (.inl rfl) e,c⟩
  | dT kvs =>
   obtain ⟨z,y,xs,r,ob,es,ep,e,c⟩:=x
   exact ⟨z,y,xs,Paired.mapP r fun p q z=>⟨z.1,ht _ _ z.2.1,z.2.2⟩,ob,es,ep,k _ _ (.inl rfl) e,c⟩
  | set S n=>obtain ⟨ob,es,ep,t,e,c⟩:=x;exact ⟨ob,es,ep,t,k _ _ (.inl rfl) e,c⟩
  | ins C dx fs =>
   obtain ⟨d,z,ne,e,mA,⟨od,es,ep,e2,c⟩,r⟩:=x
   exact ⟨ho _ d,z,ne,k _ _ (.inl rfl) e,mA,⟨od,es,ep,k _ _ (.inr d) e2,c⟩,r⟩
  | own y=>obtain ⟨ob,e⟩:=x;exact ⟨ob,k _ _ (.inl rfl) e⟩
  | xd fs=>obtain ⟨mA,⟨od,es,ep,e,c⟩,r⟩:=x;exact ⟨mA,⟨od,es,ep,k _ _ (.inl rfl) e,c⟩,r⟩
  | rng lo hi=>obtain ⟨t,u,v,e⟩:=x;exact ⟨t,u,v,k _ _ (.inl rfl) e⟩
  | frz ob u ih=>obtain ⟨e,q⟩:=x;exact ⟨k _ _ (.inl rfl) e,ih q⟩
  | tbl ps =>
   have e:h.get? a=some { cls :=.none,data :=.fields ps }:=x
   show h'.get? a=some { cls :=.none,data :=.fields ps }
   exact k a _ (.inl rfl) e
  | met f y =>
   have e:h.get? a=some (PySem.W.methodObj (.ref f) (.ref y)):=x
   show h'.get? a=some (PySem.W.methodObj (.ref f) (.ref y))
   exact k a _ (.inl rfl) e
  | ext φ=>obtain ⟨p,⟨o,e⟩,st⟩:=x;exact ⟨st _ _ p fun o q=>k _ _ (.inl rfl) q,⟨o,k _ _ (.inl rfl) e⟩,st⟩
theorem HOk.lt (x:HOk P w H h) (e:H a=some o):a<h.objs.size:=(x a o e).lt
theorem HOk.fresh (x:HOk P w H h) (e:h.objs.size≤a):H a=none:=by
 cases q:H a with
 | none=>rfl
 | some u=>exact absurd (Nat.lt_of_lt_of_le (x.lt q) e) (Nat.lt_irrefl _)
theorem HOk.kept (x:HOk P w H h) (k : ∀ b u,h.get? b=some u→h'.get? b=some u):HOk P w H h':=fun a o e =>
 (x a o e).stay (fun b u _ q=>k b u q) (fun _ q=>q) fun _ _ q=>q
theorem HOk.laid (x:HOk P w H h) (k : ∀ b u,h.get? b=some u→h'.get? b=some u) (hp:h.objs.size≤a) (new:ObjOk P w (upd H a o) h' a o):HOk P w (upd H a o) h':=fun b u e=>by
 have hn:=x.fresh hp
 by_cases hb:b=a
 ·subst hb;rw [upd_same] at e;cases e;exact new
 ·rw [upd_ne hb] at e
  exact (x b u e).stay (fun c v _ q=>k c v q) (fun c q=>by rw [upd_ne (ne_of_none q hn)];exact q) fun c xs q=>by rw [upd_ne (ne_of_none q hn)];exact q
end
def Rd (H:Hp) (a:Addr) (u:HO):Prop:=H a=some u ∨ ∃ o,H a=some (.frz o u)
theorem Rd.ok {P:Program}{w:World}{H:Hp}{h:Heap}{a:Addr}{u:HO} (r:Rd H a u) (x:HOk P w H h):ObjOk P w H h a u:=by
 rcases r with r|⟨o,r⟩
 ·exact x a u r
 ·obtain ⟨_,q⟩:=x a _ r
  exact q
def Mut:Option HO→Prop
 | some (.lst _)=>True
 | some (.dK _)=>True
 | some (.dT _)=>True
 | some (.set _ _)=>True
 | some (.ins _ _ _)=>True
 | some (.ext _)=>True
 | _=>False
section
variable {P:Program}{w:World}{H:Hp}{h h':Heap}{x e:Addr}{o':HO}
theorem HOk.write (ok:HOk P w H h) (mu:Mut (H x)) (he:e=x∨H e=some (.own x)) (k : ∀ b u,b≠e→h.get? b=some u→h'.get? b=some u) (heo : ∃ u,h'.get? e=some u)
 (new:ObjOk P w (upd H x o') h' x o'):HOk P w (upd H x o') h':=fun b u q=>by
  have nown : ∀ c y,H c=some (.own y)→c≠x:=fun c y r z=>by subst z;rw [r] at mu;exact mu
  have ntup : ∀ c xs,H c=some (.tup xs)→c≠x:=fun c xs r z=>by subst z;rw [r] at mu;exact mu
  by_cases hb:b=x
  ·subst hb;rw [upd_same] at q;cases q;exact new
  ·rw [upd_ne hb] at q
   by_cases hbe:b=e
   ·have q':H b=some (.own x):=by
     rcases he with z|z
     ·exact absurd (hbe.trans z) hb
     ·rw [hbe];exact z
    rw [q] at q';cases q'
    obtain ⟨v,hv⟩:=heo
    exact ⟨v,by rw [hbe];exact hv⟩
   ·refine (ok b u q).stay (fun c v hc r=>k c v ?_ r) (fun c r=>by rw [upd_ne (nown c b r)];exact r) fun c xs r=>by rw [upd_ne (ntup c xs r)];exact r
    rcases hc with rfl|hc
    ·exact hbe
    ·rintro rfl
     rcases he with z|z
     ·exact nown c b hc z
     ·rw [hc] at z;cases z;exact hb rfl
end
def CodeO (o:Obj):Prop := ∃ vs q t,o.data = .fields vs∧vs[1]?=some (.str q t)
structure GoodT (H:Hp) (ps:Array Value):Prop where
 tr:TriplesOk ps.toList
 co : ∀ (pos:Pos) (v:Value),codeAmong pos ps.toList=some v → ∃ c o u,v = .ref c∧H c=some (.frz o u)∧CodeO o
theorem GoodT.nil {H:Hp}:GoodT H #[]:=⟨trivial,fun pos v h=>by simp [codeAmong] at h⟩
theorem GoodT.mono {H H':Hp}{ps:Array Value} (g:GoodT H ps) (f : ∀ b o u,H b=some (.frz o u)→H' b=some (.frz o u)):GoodT H' ps:=⟨g.tr,fun pos v h=>by
 obtain ⟨c,o,u,z,e,k⟩:=g.co pos v h
 exact ⟨c,o,u,z,f _ _ _ e,k⟩⟩
theorem triples_app : ∀ {a b:List Value},TriplesOk a→TriplesOk b→TriplesOk (a++b)
 | [],_,_,h=>h
 | .int _ _ :: .int _ _::_::r,_,g,h=>triples_app (a:=r) g h
theorem among_app {pos:Pos}{v:Value} : ∀ {a b:List Value},TriplesOk a→codeAmong pos (a++b)=some v→codeAmong pos a=some v∨codeAmong pos b=some v
 | [],_,_,h => .inr h
 | .int i _ :: .int j _::x::r,b,g,h=>by
  have h:(if i==pos.line&&j==pos.col then some x else codeAmong pos (r++b))=some v:=h
  show (if i==pos.line&&j==pos.col then some x else codeAmong pos r)=some v∨_
  split at h
  ·left;rw [if_pos (by assumption)];exact h
  ·rw [if_neg (by assumption)];exact among_app (a:=r) g h
theorem GoodT.app {H:Hp}{a b:Array Value} (g:GoodT H a) (k:GoodT H b):GoodT H (a++b):=⟨by rw [Array.toList_append];exact triples_app g.tr k.tr,fun pos v h=>by
 rw [Array.toList_append] at h
 rcases among_app g.tr h with h|h
 ·exact g.co pos v h
 ·exact k.co pos v h⟩
structure Un (fs ex:List Addr) (H H':Hp) (h h':Heap):Prop where
 keep : ∀ b o,h.get? b=some o→H b=none→b ∉ fs→b ∉ ex→h'.get? b=some o
 slot : ∀ b o,h.get? b=some o→H b=none→b ∈ fs→b ∉ ex → ∃ sl,h'.get? b=some { o with slots:=sl }
 free : ∀ b o,h.get? b=some o→H b=none→b ∉ ex→H' b=none
 there : ∀ b o,h.get? b=some o→b ∉ ex → ∃ o',h'.get? b=some o'
 tups : ∀ b xs,H b=some (.tup xs)→H' b=some (.tup xs)
 frzs : ∀ b o u,H b=some (.frz o u)→H' b=some (.frz o u)
 tbls : ∀ b ps,H b=some (.tbl ps) → ∃ more,H' b=some (.tbl (ps++more))∧GoodT H' more
section
variable {fs fs' ex ex':List Addr}{H H1 H2:Hp}{h h1 h2 h':Heap}{a x e:Addr}{o:HO}
theorem Un.any (u:Un fs ex H H1 h h1) {b:Addr}{ob:Obj} (q:h.get? b=some ob) (n:H b=none) (hx:b ∉ ex) : ∃ sl,h1.get? b=some { ob with slots:=sl }:=by
 by_cases hb:b ∈ fs
 ·exact u.slot b ob q n hb hx
 ·exact ⟨ob.slots,u.keep b ob q n hb hx⟩
theorem Un.kept (k : ∀ b u,h.get? b=some u→h'.get? b=some u):Un fs ex H H h h' :=
 ⟨fun b ob q _ _ _=>k b ob q,fun b ob q _ _ _=>⟨ob.slots,k b ob q⟩,fun _ _ _ n _=>n,fun b ob q _=>⟨ob,k b ob q⟩,fun _ _ q=>q,fun _ _ _ q=>q,fun _ ps q=>⟨#[],by rw [q];simp,.nil⟩⟩
theorem Un.refl:Un fs ex H H h h:=Un.kept fun _ _ q=>q
theorem Un.laid (k : ∀ b u,h.get? b=some u→h'.get? b=some u) (hp:h.objs.size≤a) (hn:H a=none):Un fs ex H (upd H a o) h h' where
 keep:=fun b u q _ _ _=>k b u q
 slot:=fun b u q _ _ _=>⟨u.slots,k b u q⟩
 free:=fun b u q n _=>by rw [upd_ne (Nat.ne_of_lt (Nat.lt_of_lt_of_le (Heap.lt_size q) hp))];exact n
 there:=fun b u q _=>⟨u,k b u q⟩
 tups:=fun b xs q=>by rw [upd_ne (ne_of_none q hn)];exact q
 frzs:=fun b u xs q=>by rw [upd_ne (ne_of_none q hn)];exact q
 tbls:=fun b ps q=>⟨#[],by rw [upd_ne (ne_of_none q hn),q];simp,.nil⟩
theorem Un.write (mu:Mut (H x)) (he:e=x∨H e=some (.own x)) (k : ∀ b u,b≠e→h.get? b=some u→h'.get? b=some u) (heo : ∃ u,h'.get? e=some u):Un fs ex H (upd H x o) h h':=by
 have hx : ∀ b,H b=none→b≠x:=fun b n z=>by subst z;rw [n] at mu;exact mu
 have hb : ∀ b,H b=none→b≠e:=fun b n z=>by
  subst z
  rcases he with r|r
  ·exact hx b n r
  ·rw [n] at r;cases r
 have hm : ∀ b u,H b=some u → ¬ Mut (some u)→b≠x:=fun b u q nm z=>by subst z;rw [q] at mu;exact nm mu
 refine ⟨fun b u q n _ _=>k b u (hb b n) q,fun b u q n _ _=>⟨u.slots,k b u (hb b n) q⟩,fun b u q n _=>by rw [upd_ne (hx b n)];exact n,fun b u q _=>?_,
  fun b xs q=>by rw [upd_ne (hm b _ q fun z=>z)];exact q,fun b u xs q=>by rw [upd_ne (hm b _ q fun z=>z)];exact q,fun b ps q=>⟨#[],by rw [upd_ne (hm b _ q fun z=>z),q];simp,.nil⟩⟩
 by_cases hbe:b=e
 ·subst hbe;exact heo
 ·exact ⟨u,k b u hbe q⟩
end
def trk (h:Heap) (H:Hp):List Addr:=(List.range h.objs.size).filter fun a=>(H a).isSome
def hidT (h:Heap) (H:Hp):Heap:=PySem.W.hideAll h (trk h H)
theorem hidT_size (h:Heap) (H:Hp):(hidT h H).objs.size=h.objs.size:=PySem.W.hideAll_size _ _
theorem hidT_get {h:Heap}{H:Hp}{b:Addr}{o:Obj} (e:h.get? b=some o) (n:H b=none):(hidT h H).get? b=some o :=
 PySem.W.hideAll_get _ e fun hm=>by
  have q:(H b).isSome=true:=(List.mem_filter.mp hm).2
  rw [n] at q;simp at q
theorem of_hidT {h:Heap}{H:Hp}{b:Addr}{o:Obj} (e:(hidT h H).get? b=some o):h.get? b=some o∧H b=none:=by
 have e':h.get? b=some o:=PySem.W.of_hideAll (trk h H) e
 refine ⟨e',?_⟩
 cases q:H b with
 | none=>rfl
 | some x =>
  have hm:b ∈ trk h H:=List.mem_filter.mpr ⟨List.mem_range.mpr (Heap.lt_size e'),by simp [q]⟩
  have z:(hidT h H).get? b=none:=PySem.W.hideAll_none (trk h H) hm
  rw [z] at e;cases e
def allNews (g h:Heap) (L:Addr):List (Addr×Obj):=(List.range h.objs.size).filterMap fun a=>if a=L∨(g.get? a).isSome=true then none else (h.get? a).map fun o=>(a,o)
def rest (g h:Heap) (L d:Addr):List (Addr×Obj):=(allNews g h L).filter fun p=>decide (p.1≠d)
end L2
namespace L2
open PySem PySem.Spec PyProof.Rows
structure Mod (K:PySem.W.Frag) (mg:Str→Option Value) (base:Heap):Prop where
 kin:K.In base
 glob:base.Ns mainGlobals mg
 blt : ∃ mb,base.Ns builtinsNs mb ∧ ∀ x:Str,x ≠ "__name__" → mb x=bootBuiltins x
 nolimit:base.NoLimit
structure Cx where
 prog:Program
 w:World
 K:PySem.W.Frag
 mg:Str→Option Value
 base:Heap
 A:Around
 N:List Str
 s₀:Shared
 H₀:Hp
 env:Env
 outer:List Env
 stack:List Env
 ex:List Addr
 fn:Str→Bool
 calm:Bool
 pn:List (Addr×Obj)
 xe:Value→Shared→Prop
def frs (l:List Env):List Addr:=l.filterMap (·.frame)
abbrev Cx.fs (X:Cx):List Addr:=frs X.outer
def Vis (sc:Scope) (x:Str):Prop:=sc.names.lookup x=some .local∨sc.names.lookup x=some .cell∨sc.names.lookup x=some .free
def Loc (sc:Scope) (x:Str):Prop:=sc.names.lookup x=some .local∨sc.names.lookup x=some .cell
def Look (env:Env) (h:Heap) (m:Str→Option Value) (x:Str) (u:Value):Prop :=
 (env.kindOf x=some .local∧m x=some u)∨((env.kindOf x=some .cell∨env.kindOf x=some .free) ∧ ∃ c,env.cells.lookup x=some c∧h.IsCell c (some u))
structure Cx.Ok (X:Cx):Prop where
 mod:Mod X.K X.mg X.base
 kind:X.env.scope.kind = .function
 glob:X.env.globals=mainGlobals
 blt:X.env.builtins=builtinsNs
 above:X.s₀.heap.objs.size≤X.env.locals
 inj : ∀ x y c,X.env.cells.lookup x=some c→X.env.cells.lookup y=some c→x=y
 has : ∀ x,(X.env.kindOf x=some .cell∨X.env.kindOf x=some .free) → ∃ c,X.env.cells.lookup x=some c
 cab : ∀ x c,X.fn x=true→X.env.cells.lookup x=some c→X.s₀.heap.objs.size≤c
 hd:X.calm=true→X.A.handled=none
 frames:X.A.frames=some X.stack
 stk:X.stack=X.outer∨(X.stack=X.env::X.outer∧X.env.frame=some X.env.locals)
 exf : ∀ b ∈ X.ex,b≠X.env.locals ∧ ∀ x c,X.env.cells.lookup x=some c→c≠b
 bs : ∀ b o,X.base.get? b=some o→X.s₀.heap.get? b=some o∧X.H₀ b=none
 bsz:X.base.objs.size≤X.s₀.heap.objs.size
 noex : ∀ b o,X.base.get? b=some o→b ∉ X.ex
 exfs : ∀ b ∈ X.ex,b ∉ X.fs
 funs:X.s₀.heap.FunFrames X.base X.outer
 frf : ∀ b ∈ X.fs,X.H₀ b=none
structure Inv (X:Cx) (pins:List (Addr×Obj)) (σ:List (Option V)) (H:Hp) (s:Shared):Prop where
 ok:X.Ok
 os:s.os=X.s₀.os
 bare:AllBare s.gens
 base:Un X.fs X.ex X.H₀ H X.s₀.heap s.heap
 loc : ∃ m,s.heap.Ns X.env.locals m ∧ ∀ (i:Nat) (x:Str) (v:V),X.N[i]?=some x→σ[i]?=some (some v)→Vis X.env.scope x → ∃ u,RelV v u∧Look X.env s.heap m x u
 cell : ∀ x c,X.env.cells.lookup x=some c → ∃ v,s.heap.IsCell c v
 free:H X.env.locals=none
 freeC : ∀ x c,X.env.cells.lookup x=some c→H c=none
 pin : ∀ p ∈ X.pn++pins,s.heap.get? p.1=some p.2∧H p.1=none∧p.1≠X.env.locals∧p.1 ∉ X.fs ∧ ∀ v,p.2.data ≠ .cell v
 hok:HOk X.prog X.w H s.heap
 len:σ.length=X.N.length
section
variable {X:Cx}{pins:List (Addr×Obj)}{σ:List (Option V)}{H H':Hp}{s:Shared}{h':Heap}
theorem Cx.Ok.nofr (ok:X.Ok) {b:Addr}{o:Obj} (e:X.base.get? b=some o):b ∉ X.fs:=fun hb=>by
 have:=(ok.funs.mem hb).1
 rw [e] at this;cases this
theorem Inv.bs (I:Inv X pins σ H s) : ∀ b o,X.base.get? b=some o→s.heap.get? b=some o∧H b=none:=fun b o e =>
 ⟨I.base.keep b o (I.ok.bs b o e).1 (I.ok.bs b o e).2 (I.ok.nofr e) (I.ok.noex b o e),I.base.free b o (I.ok.bs b o e).1 (I.ok.bs b o e).2 (I.ok.noex b o e)⟩
theorem Inv.bk (I:Inv X pins σ H s) : ∀ b o,X.base.get? b=some o→s.heap.get? b=some o:=fun b o e=>(I.bs b o e).1
theorem Inv.mod (I:Inv X pins σ H s):Mod X.K X.mg X.base:=I.ok.mod
theorem Inv.kIn (I:Inv X pins σ H s):X.K.In s.heap:=I.ok.mod.kin.keeps I.bk
theorem Inv.lt (I:Inv X pins σ H s):X.env.locals<s.heap.objs.size:=let ⟨_,hn,_⟩:=I.loc;hn.lt
theorem Inv.sz (I:Inv X pins σ H s):X.s₀.heap.objs.size≤s.heap.objs.size:=Nat.le_trans I.ok.above (Nat.le_of_lt I.lt)
theorem Inv.nofs (I:Inv X pins σ H s) {a:Addr} (h:s.heap.objs.size≤a):a ∉ X.fs:=fun hb=>by
 obtain ⟨_,o,ho,_⟩:=I.ok.funs.mem hb
 exact absurd (Nat.lt_of_lt_of_le (Heap.lt_size ho) (Nat.le_trans I.sz h)) (Nat.lt_irrefl _)
theorem Inv.cne (I:Inv X pins σ H s) : ∀ x c,X.env.cells.lookup x=some c→c≠X.env.locals:=fun x c e z=>by
 obtain ⟨v,o,ho,hd⟩:=I.cell x c e
 obtain ⟨m,⟨o',es,ep,ho',hd',_⟩,_⟩:=I.loc
 rw [z,ho'] at ho;cases ho;rw [hd'] at hd;cases hd
theorem Inv.funs (I:Inv X pins σ H s):s.heap.FunFrames X.base X.outer:=by
 have all : ∀ (l:List Env),(∀ b ∈ frs l,b ∈ X.fs)→X.s₀.heap.FunFrames X.base l→s.heap.FunFrames X.base l:=by
  intro l
  induction l with
  | nil=>intro _ _;trivial
  | cons env r ih =>
   intro hs hl
   obtain ⟨hk,⟨L,o,hf,hn,ho,hd⟩,hr⟩:=hl
   have hL:L ∈ X.fs:=hs L (by unfold frs;rw [List.filterMap_cons,hf];exact List.mem_cons_self)
   obtain ⟨sl,e⟩:=I.base.slot L o ho (I.ok.frf L hL) hL fun z=>I.ok.exfs L z hL
   exact ⟨hk,⟨L,_,hf,hn,e,hd⟩,ih (fun b hb=>hs b (by unfold frs;rw [List.filterMap_cons,hf];exact List.mem_cons_of_mem _ hb)) hr⟩
 exact all X.outer (fun _ hb=>hb) I.ok.funs
theorem Inv.stack (I:Inv X pins σ H s):s.heap.FunFrames X.base X.stack:=by
 rcases I.ok.stk with e|⟨e,hf⟩
 ·rw [e];exact I.funs
 ·rw [e]
  obtain ⟨m,hn,_⟩:=I.loc
  refine .cons (by rw [I.ok.kind];decide) hf hn ?_ I.funs
  exact Heap.get?_none_of_le (Nat.le_trans I.ok.bsz I.ok.above)
theorem Inv.stkSub (I:Inv X pins σ H s) : ∀ b ∈ frs X.stack,b ∈ X.env.locals::X.fs:=fun b hb=>by
 rcases I.ok.stk with e|⟨e,hf⟩
 ·rw [e] at hb;exact List.mem_cons_of_mem _ hb
 ·rw [e] at hb
  unfold frs at hb
  rw [List.filterMap_cons,hf] at hb
  exact hb
theorem Inv.stkFree (I:Inv X pins σ H s) : ∀ b ∈ frs X.stack,H b=none:=fun b hb=>by
 rcases List.mem_cons.mp (I.stkSub b hb) with e|hb
 ·rw [e];exact I.free
 ·obtain ⟨_,o,ho,_⟩:=I.ok.funs.mem hb
  exact I.base.free b o ho (I.ok.frf b hb) fun z=>I.ok.exfs b z hb
theorem Inv.step {g':Array GenState}{t':Nat}{d':Drawn}{ch:List Addr} (I:Inv X pins σ H s)
 (hch : ∀ b ∈ ch,(b ∈ X.ex∨X.s₀.heap.objs.size≤b)∧b≠X.env.locals∧(∀ x c,X.env.cells.lookup x=some c→c≠b) ∧ ∀ p ∈ X.pn++pins,p.1≠b)
 (keep : ∀ b o,b≠X.env.locals→b ∉ X.fs→b ∉ ch→s.heap.get? b=some o→H b=none→h'.get? b=some o)
 (slot : ∀ b o,b≠X.env.locals→b ∈ X.fs→b ∉ ch→s.heap.get? b=some o→H b=none → ∃ sl,h'.get? b=some { o with slots:=sl }) (free : ∀ b o,b ∉ ch→s.heap.get? b=some o→H b=none→H' b=none)
  (there : ∀ b o,b ∉ ch→s.heap.get? b=some o → ∃ o',h'.get? b=some o')
  (tups : ∀ b xs,H b=some (.tup xs)→H' b=some (.tup xs)) (frzs : ∀ b o u,H b=some (.frz o u)→H' b=some (.frz o u)) (tbls : ∀ b ps,H b=some (.tbl ps) → ∃ more,H' b=some (.tbl (ps++more))∧GoodT H' more)
  (ns : ∀ m,s.heap.Ns X.env.locals m→h'.Ns X.env.locals m) (hok:HOk X.prog X.w H' h') (hg:AllBare g') :
  Inv X pins σ H' { s with heap:=h',gens:=g',drawn:=d',toks:=t' }:=by
  have neL : ∀ b o,X.s₀.heap.get? b=some o→b≠X.env.locals:=fun b o e=>Nat.ne_of_lt (Nat.lt_of_lt_of_le (Heap.lt_size e) I.ok.above)
  have neC : ∀ b o,X.s₀.heap.get? b=some o→b ∉ X.ex→b ∉ ch:=fun b o e hx hb=>by
   rcases (hch b hb).1 with z|z
   ·exact hx z
   ·exact absurd (Nat.lt_of_lt_of_le (Heap.lt_size e) z) (Nat.lt_irrefl _)
  have cellK : ∀ x c,X.env.cells.lookup x=some c → ∀ v,s.heap.IsCell c v→h'.IsCell c v:=fun x c e v xx1=>by
   obtain ⟨o,ho,hd⟩:=xx1
   have nch:c ∉ ch:=fun z=>(hch c z).2.2.1 x c e rfl
   by_cases hc:c ∈ X.fs
   ·obtain ⟨sl,q⟩:=slot c o (I.cne x c e) hc nch ho (I.freeC x c e)
    exact ⟨_,q,hd⟩
   ·exact ⟨o,keep c o (I.cne x c e) hc nch ho (I.freeC x c e),hd⟩
  refine ⟨I.ok,I.os,hg,⟨fun b o e n hb hx=>?_,fun b o e n hb hx=>?_,fun b o e n hx=>?_,fun b o e hx=>?_,fun b xs e=>tups b xs (I.base.tups b xs e),fun b o xs e=>frzs b o xs (I.base.frzs b o xs e),fun b ps e=>?_⟩,?_,fun x c e=>?_,?_,fun x c e=>?_,fun p hp=>?_,hok,I.len⟩
  ·exact keep b o (neL b o e) hb (neC b o e hx) (I.base.keep b o e n hb hx) (I.base.free b o e n hx)
  ·obtain ⟨sl,e1⟩:=I.base.slot b o e n hb hx
   obtain ⟨sl',e2⟩:=slot b _ (neL b o e) hb (neC b o e hx) e1 (I.base.free b o e n hx)
   exact ⟨sl',e2⟩
  ·obtain ⟨o',e1⟩:=I.base.there b o e hx
   exact free b o' (neC b o e hx) e1 (I.base.free b o e n hx)
  ·obtain ⟨o',e1⟩:=I.base.there b o e hx
   exact there b o' (neC b o e hx) e1
  ·obtain ⟨m1,e1,g1⟩:=I.base.tbls b ps e
   obtain ⟨m2,e2,g2⟩:=tbls b _ e1
   exact ⟨m1++m2,by rw [e2,Array.append_assoc],(g1.mono frzs).app g2⟩
  ·obtain ⟨m,hn,hl⟩:=I.loc
   refine ⟨m,ns m hn,fun i x v e1 e2 e3=>?_⟩
   obtain ⟨u,r,l⟩:=hl i x v e1 e2 e3
   refine ⟨u,r,?_⟩
   rcases l with l|⟨k,c,e,z⟩
   ·exact .inl l
   ·exact .inr ⟨k,c,e,cellK x c e _ z⟩
  ·obtain ⟨v,z⟩:=I.cell x c e
   exact ⟨v,cellK x c e v z⟩
  ·obtain ⟨m,⟨o,_,_,ho,_⟩,_⟩:=I.loc
   exact free _ o (fun z=>(hch _ z).2.1 rfl) ho I.free
  ·obtain ⟨v,o,ho,hd⟩:=I.cell x c e
   exact free c o (fun z=>(hch c z).2.2.1 x c e rfl) ho (I.freeC x c e)
  ·obtain ⟨e,n,ne,nf,d⟩:=I.pin p hp
   have nch:p.1 ∉ ch:=fun z=>(hch p.1 z).2.2.2 p hp rfl
   exact ⟨keep p.1 p.2 ne nf nch e n,free p.1 p.2 nch e n,ne,nf,d⟩
theorem Inv.un {t':Nat} (I:Inv X pins σ H s) (u:Un X.fs [] H H' s.heap h') (hok:HOk X.prog X.w H' h'):Inv X pins σ H' { s with heap:=h',toks:=t' }:=by
 obtain ⟨m,⟨o,es,ep,ho,r⟩,_⟩:=id I.loc
 obtain ⟨sl,hL⟩:=u.any ho I.free (by simp)
 exact I.step (g':=s.gens) (d':=s.drawn) (ch:=[]) (fun _ z=>nomatch z) (fun b o _ hb _ e n=>u.keep b o e n hb (by simp)) (fun b o _ hb _ e n=>u.slot b o e n hb (by simp)) (fun b o _ e n=>u.free b o e n (by simp)) (fun b o _ e=>u.there b o e (by simp)) u.tups u.frzs u.tbls (fun m' hm=>by
  obtain ⟨o',es',ep',ho',r'⟩:=hm
  rw [ho] at ho';cases ho'
  exact ⟨_,es',ep',hL,r'⟩) hok I.bare
theorem Inv.call {g':Array GenState}{t':Nat}{d':Drawn}{ch:List Addr} (I:Inv X pins σ H s) (u:Un (frs X.stack) ch H H' s.heap h') (hok:HOk X.prog X.w H' h') (hg:AllBare g')
 (hch : ∀ b ∈ ch,(b ∈ X.ex∨X.s₀.heap.objs.size≤b)∧b≠X.env.locals∧(∀ x c,X.env.cells.lookup x=some c→c≠b) ∧ ∀ p ∈ X.pn++pins,p.1≠b) :
 Inv X pins σ H' { s with heap:=h',gens:=g',drawn:=d',toks:=t' }:=by
  obtain ⟨m,⟨o,es,ep,ho,r⟩,_⟩:=id I.loc
  obtain ⟨sl,hL⟩:=u.any ho I.free fun z=>(hch _ z).2.1 rfl
  exact I.step (ch:=ch) hch (fun b o hL hb hc e n=>u.keep b o e n (fun z=>(List.mem_cons.mp (I.stkSub b z)).elim hL hb) hc) (fun b o _ _ hc e n=>u.any e n hc) (fun b o hc e n=>u.free b o e n hc) (fun b o hc e=>u.there b o e hc) u.tups u.frzs u.tbls (fun m' hm=>by
   obtain ⟨o',es',ep',ho',r'⟩:=hm
   rw [ho] at ho';cases ho'
   exact ⟨_,es',ep',hL,r'⟩) hok hg
theorem Inv.turned {t':Nat}{it:Addr} (I:Inv X pins σ H s) (k : ∀ b o,b≠it→s.heap.get? b=some o→h'.get? b=some o) (hn:H it=none) (hL:it≠X.env.locals)
 (h1:it ∈ X.ex∨X.s₀.heap.objs.size≤it) (h2 : ∀ x c,X.env.cells.lookup x=some c→c≠it) (h3 : ∀ p ∈ X.pn++pins,p.1≠it):Inv X pins σ H { s with heap:=h',toks:=t' }:=by
  have nit : ∀ b u,H b=some u→b≠it:=fun b u e z=>by rw [z,hn] at e;cases e
  refine I.step (g':=s.gens) (d':=s.drawn) (ch:=[it]) (fun b hb=>?_) (fun b o _ _ hc e _=>k b o (fun z=>hc (by simp [z])) e) (fun b o _ _ hc e _=>⟨o.slots,k b o (fun z=>hc (by simp [z])) e⟩) (fun _ _ _ _ n=>n)
   (fun b o hc e=>⟨o,k b o (fun z=>hc (by simp [z])) e⟩) (fun _ _ e=>e) (fun _ _ _ e=>e) (fun b ps e=>⟨#[],by rw [e];simp,.nil⟩) (fun m hm=>?_) (fun b u e=>?_) I.bare
  ·have e:b=it:=by simpa using hb
   subst e
   exact ⟨h1,hL,h2,h3⟩
  ·obtain ⟨o,es,ep,ho,r⟩:=hm
   exact ⟨o,es,ep,k _ o (Ne.symm hL) ho,r⟩
  ·refine (I.hok b u e).stay (fun c v hc q=>k c v ?_ q) (fun _ q=>q) fun _ _ q=>q
   rcases hc with z|z
   ·rw [z];exact nit b u e
   ·exact nit c _ z
theorem Inv.tok (I:Inv X pins σ H s) (t:Nat):Inv X pins σ H { s with toks:=t }:=I.un (h':=s.heap) (t':=t) Un.refl I.hok
theorem Inv.kept {t':Nat} (I:Inv X pins σ H s) (k : ∀ b u,s.heap.get? b=some u→h'.get? b=some u):Inv X pins σ H { s with heap:=h',toks:=t' }:=I.un (Un.kept k) (I.hok.kept k)
theorem Inv.laid {a:Addr}{o:HO}{t':Nat} (I:Inv X pins σ H s) (k : ∀ b u,s.heap.get? b=some u→h'.get? b=some u) (hp:s.heap.objs.size≤a) (new:ObjOk X.prog X.w (upd H a o) h' a o) :
 Inv X pins σ (upd H a o) { s with heap:=h',toks:=t' }:=I.un (Un.laid k hp (I.hok.fresh hp)) (I.hok.laid k hp new)
theorem Inv.write {x e:Addr}{o:HO}{t':Nat} (I:Inv X pins σ H s) (mu:Mut (H x)) (he:e=x∨H e=some (.own x)) (k : ∀ b u,b≠e→s.heap.get? b=some u→h'.get? b=some u) (heo : ∃ u,h'.get? e=some u)
 (new:ObjOk X.prog X.w (upd H x o) h' x o):Inv X pins σ (upd H x o) { s with heap:=h',toks:=t' }:=I.un (Un.write mu he k heo) (I.hok.write mu he k heo new)
theorem Inv.pins_of {pins':List (Addr×Obj)} (I:Inv X pins σ H s) (h : ∀ p ∈ pins',s.heap.get? p.1=some p.2∧H p.1=none∧p.1≠X.env.locals∧p.1 ∉ X.fs ∧ ∀ v,p.2.data ≠ .cell v):Inv X pins' σ H s :=
 ⟨I.ok,I.os,I.bare,I.base,I.loc,I.cell,I.free,I.freeC,fun p hp=>(List.mem_append.mp hp).elim (fun z=>I.pin p (List.mem_append_left _ z)) (h p),I.hok,I.len⟩
theorem nodup_ix {N:List Str} (hN:N.Nodup) {i j:Nat}{x:Str} (a:N[i]?=some x) (b:N[j]?=some x):i=j:=by
 obtain ⟨h1,e1⟩:=List.getElem?_eq_some_iff.mp a
 obtain ⟨h2,e2⟩:=List.getElem?_eq_some_iff.mp b
 exact (List.getElem_inj hN).mp (e1.trans e2.symm)
theorem store_ok2 {M:Model}{A:Around}{E:Value→Shared→Prop}{i:Nat}{x:Str}{v:V}{u:Value}{Q:Unit→Shared→Prop} (I:Inv X pins σ H s) (hN:X.N.Nodup) (hi:X.N[i]?=some x) (hx:Loc X.env.scope x) (r:RelV v u)
 (h : ∀ s',Inv X pins (σ.set i (some v)) H s'→(∃ a,Heap.SameBut a s.heap s'.heap∧(a=X.env.locals∨X.env.cells.lookup x=some a))→Q () s') (hf:X.fn x=true∨X.env.scope.names.lookup x=some .local:=by first|exact .inl rfl|exact .inr rfl|assumption):wpAny M A (storeName X.env x u) Q E s:=by
  obtain ⟨m,hn,hl⟩:=id I.loc
  have hcls:(X.env.scope.kind == .class||(X.env.scope.kind == .module&&X.env.locals != X.env.globals))=false:=by rw [I.ok.kind];rfl
  have hiσ:i<σ.length:=by rw [I.len];exact (List.getElem?_eq_some_iff.mp hi).1
  have cne:=I.cne
  have tracked : ∀ {a:Addr}{h':Heap},(∃ o,s.heap.get? a=some o∧H a=none)→Heap.SameBut a s.heap h'→HOk X.prog X.w H h':=fun {a h'} ha hs b ob e=>by
   obtain ⟨_,_,hfree⟩:=ha
   refine (I.hok b ob e).stay (fun c w' hc q=>(hs.2 c ?_).trans q) (fun _ q=>q) fun _ _ q=>q
   rintro rfl
   rcases hc with rfl|hc
   ·rw [hfree] at e;cases e
   ·rw [hfree] at hc;cases hc
  rcases hx with hk|hk
  ·refine wpAny_storeName_local hk hn (fun h' hn' hs=>?_) hcls
   obtain ⟨oL,_,_,hoL,_⟩:=id hn
   refine h _ ⟨I.ok,I.os,I.bare,⟨fun b o e n hb hx=>?_,fun b o e n hb hx=>?_,I.base.free,fun b o e hx=>?_,I.base.tups,I.base.frzs,I.base.tbls⟩,⟨_,hn',fun j y v' e1 e2 e3=>?_⟩,fun y c e=>?_,I.free,I.freeC,fun p hp=>?_,tracked ⟨oL,hoL,I.free⟩ hs,by simpa using I.len⟩ ⟨_,hs,.inl rfl⟩
   ·exact (hs.2 b (Nat.ne_of_lt (Nat.lt_of_lt_of_le (Heap.lt_size e) I.ok.above))).trans (I.base.keep b o e n hb hx)
   ·obtain ⟨sl,e1⟩:=I.base.slot b o e n hb hx
    exact ⟨sl,(hs.2 b (Nat.ne_of_lt (Nat.lt_of_lt_of_le (Heap.lt_size e) I.ok.above))).trans e1⟩
   ·obtain ⟨o',e1⟩:=I.base.there b o e hx
    exact ⟨o',(hs.2 b (Nat.ne_of_lt (Nat.lt_of_lt_of_le (Heap.lt_size e) I.ok.above))).trans e1⟩
   ·by_cases hj:j=i
    ·subst hj
     rw [hi] at e1;cases e1
     rw [List.getElem?_set_self hiσ] at e2
     cases e2
     exact ⟨u,r,.inl ⟨hk,by simp⟩⟩
    ·rw [List.getElem?_set_ne (Ne.symm hj)] at e2
     obtain ⟨u',r',q⟩:=hl j y v' e1 e2 e3
     refine ⟨u',r',?_⟩
     rcases q with ⟨k,e⟩|⟨k,c,e,z⟩
     ·refine .inl ⟨k,?_⟩
      have:y≠x:=fun e=>hj (nodup_ix hN e1 (e ▸ hi))
      simp [this,e]
     ·exact .inr ⟨k,c,e,z.sameBut hs (cne y c e)⟩
   ·obtain ⟨w',z⟩:=I.cell y c e
    exact ⟨w',z.sameBut hs (cne y c e)⟩
   ·obtain ⟨e,n,ne,nf,d⟩:=I.pin p hp
    exact ⟨(hs.2 p.1 ne).trans e,n,ne,nf,d⟩
  ·have hfn:X.fn x=true:=by
    rcases hf with z|z
    ·exact z
    ·rw [z] at hk;cases hk
   obtain ⟨c,hc⟩:=I.ok.has x (.inl hk)
   obtain ⟨w',z⟩:=I.cell x c hc
   refine wpAny_storeName_cell I.ok.kind hk hc z (fun h' hc' hs=>?_)
   obtain ⟨oc,hoc,hocd⟩:=id z
   refine h { s with heap:=h' } ⟨I.ok,I.os,I.bare,⟨fun b o e n hb hx=>?_,fun b o e n hb hx=>?_,I.base.free,fun b o e hx=>?_,I.base.tups,I.base.frzs,I.base.tbls⟩,⟨m,hn.sameBut hs (Ne.symm (cne x c hc)),fun j y v' e1 e2 e3=>?_⟩,fun y c' e=>?_,I.free,I.freeC,fun p hp=>?_,tracked ⟨oc,hoc,I.freeC x c hc⟩ hs,by simpa using I.len⟩ ⟨c,hs,.inr hc⟩
   ·exact (hs.2 b (Nat.ne_of_lt (Nat.lt_of_lt_of_le (Heap.lt_size e) (I.ok.cab x c hfn hc)))).trans (I.base.keep b o e n hb hx)
   ·obtain ⟨sl,e1⟩:=I.base.slot b o e n hb hx
    exact ⟨sl,(hs.2 b (Nat.ne_of_lt (Nat.lt_of_lt_of_le (Heap.lt_size e) (I.ok.cab x c hfn hc)))).trans e1⟩
   ·obtain ⟨o',e1⟩:=I.base.there b o e hx
    exact ⟨o',(hs.2 b (Nat.ne_of_lt (Nat.lt_of_lt_of_le (Heap.lt_size e) (I.ok.cab x c hfn hc)))).trans e1⟩
   ·by_cases hj:j=i
    ·subst hj
     rw [hi] at e1;cases e1
     rw [List.getElem?_set_self hiσ] at e2
     cases e2
     exact ⟨u,r,.inr ⟨.inl hk,c,hc,hc'⟩⟩
    ·rw [List.getElem?_set_ne (Ne.symm hj)] at e2
     obtain ⟨u',r',q⟩:=hl j y v' e1 e2 e3
     refine ⟨u',r',?_⟩
     rcases q with q|⟨k,c',e,z'⟩
     ·exact .inl q
     ·refine .inr ⟨k,c',e,z'.sameBut hs ?_⟩
      rintro rfl
      exact hj (nodup_ix hN e1 (I.ok.inj _ _ _ e hc ▸ hi))
   ·by_cases hcc:c'=c
    ·subst hcc;exact ⟨_,hc'⟩
    ·obtain ⟨w2,z2⟩:=I.cell y c' e
     exact ⟨w2,z2.sameBut hs hcc⟩
   ·obtain ⟨e,n,ne,nf,d⟩:=I.pin p hp
    refine ⟨(hs.2 p.1 ?_).trans e,n,ne,nf,d⟩
    intro q
    rw [q,hoc] at e
    have q':oc=p.2:=Option.some.inj e
    exact d w' (by rw [← q'];exact hocd)
theorem store_ok {M:Model}{A:Around}{E:Value→Shared→Prop}{i:Nat}{x:Str}{v:V}{u:Value}{Q:Unit→Shared→Prop} (I:Inv X pins σ H s) (hN:X.N.Nodup) (hi:X.N[i]?=some x) (hx:Loc X.env.scope x) (r:RelV v u)
 (h : ∀ s',Inv X pins (σ.set i (some v)) H s'→Q () s') (hf:X.fn x=true∨X.env.scope.names.lookup x=some .local:=by first|exact .inl rfl|exact .inr rfl|assumption):wpAny M A (storeName X.env x u) Q E s :=
  store_ok2 I hN hi hx r (fun s' I' _=>h s' I') hf
theorem Inv.call' {s':Shared}{ch:List Addr} (I:Inv X pins σ H s) (ho:s'.os=s.os) (u:Un (frs X.stack) ch H H' s.heap s'.heap) (hok:HOk X.prog X.w H' s'.heap) (hg:AllBare s'.gens)
 (hch : ∀ b ∈ ch,(b ∈ X.ex∨X.s₀.heap.objs.size≤b)∧b≠X.env.locals∧(∀ x c,X.env.cells.lookup x=some c→c≠b) ∧ ∀ p ∈ X.pn++pins,p.1≠b):Inv X pins σ H' s':=by
  obtain ⟨h',g',d',t',o'⟩:=s'
  have e:o'=s.os:=ho
  subst e
  exact I.call (g':=g') (t':=t') (d':=d') u hok hg hch
end
abbrev XK:=Value→Option Addr→Hp→Prop
abbrev St:=List (Option V)
abbrev VK:=V→Hp→Prop
abbrev TE:=St→Hp→VK→Prop
abbrev TT:=St→Hp→(Bool→Hp→Prop)→Prop
abbrev TA:=St→Hp→(List V→Hp→Prop)→Prop
structure Ends where
 nx:St→Hp→Prop
 rt:VK
 bk:St→Hp→Prop:=fun _ _=>False
 ct:St→Hp→Prop:=fun _ _=>False
abbrev TS:=Ends→St→Hp→Prop
def EP (X:Cx) (pins:List (Addr×Obj)) (σ:St) (Q:VK) (u:Value) (s':Shared):Prop := ∃ v H',Inv X pins σ H' s'∧RelV v u∧Q v H'
def TP (X:Cx) (pins:List (Addr×Obj)) (σ:St) (Q:Bool→Hp→Prop) (b:Bool) (s':Shared):Prop := ∃ H',Inv X pins σ H' s'∧Q b H'
def AP (X:Cx) (pins:List (Addr×Obj)) (σ:St) (Q:List V→Hp→Prop) (us:List Value) (s':Shared):Prop := ∃ vs H',Inv X pins σ H' s'∧Vals vs us∧Q vs H'
def SP (X:Cx) (pins:List (Addr×Obj)) (D:Ends) (f:Flow) (s':Shared):Prop :=
 match f with
 | .next => ∃ σ' H',Inv X pins σ' H' s'∧D.nx σ' H'
 | .brk => ∃ σ' H',Inv X pins σ' H' s'∧D.bk σ' H'
 | .cont => ∃ σ' H',Inv X pins σ' H' s'∧D.ct σ' H'
 | .ret u => ∃ v σ' H',Inv X pins σ' H' s'∧RelV v u∧D.rt v H'
def PE (X:Cx) (e:Expr) (t:TE):Prop :=
 ∀ (pins:List (Addr×Obj)) (s:Shared) (σ:St) (H:Hp) (Q:VK),Inv X pins σ H s→t σ H Q→wpAny (model X.prog X.w) X.A (eval e X.env) (EP X pins σ Q) X.xe s
def PT (X:Cx) (e:Expr) (t:TT):Prop :=
 ∀ (pins:List (Addr×Obj)) (s:Shared) (σ:St) (H:Hp) (Q:Bool→Hp→Prop),Inv X pins σ H s→t σ H Q→wpAny (model X.prog X.w) X.A (isTrue e X.env (eval e X.env)) (TP X pins σ Q) X.xe s
def PW (X:Cx) (e:Expr) (t:TT):Prop :=
 ∀ (whole:Sem Value) (pins:List (Addr×Obj)) (s:Shared) (σ:St) (H:Hp) (Q:Bool→Hp→Prop),Inv X pins σ H s→t σ H Q→wpAny (model X.prog X.w) X.A (isTrue e X.env whole) (TP X pins σ Q) X.xe s
theorem PW.pt {X:Cx}{e:Expr}{t:TT} (h:PW X e t):PT X e t:=h _
def PA (X:Cx) (es:List Expr) (t:TA):Prop :=
 ∀ (pos:Pos) (pins:List (Addr×Obj)) (s:Shared) (σ:St) (H:Hp) (Q:List V→Hp→Prop),Inv X pins σ H s→t σ H Q→wpAny (model X.prog X.w) X.A (spliced (backTo pos (starEach es X.env))) (AP X pins σ Q) X.xe s
def PS (X:Cx) (st:Stmt) (t:TS):Prop :=
 ∀ (pins:List (Addr×Obj)) (s:Shared) (σ:St) (H:Hp) (D:Ends),Inv X pins σ H s→t D σ H→wpAny (model X.prog X.w) X.A (exec st X.env) (SP X pins D) X.xe s
def PSs (X:Cx) (st:List Stmt) (t:TS):Prop :=
 ∀ (pins:List (Addr×Obj)) (s:Shared) (σ:St) (H:Hp) (D:Ends),Inv X pins σ H s→t D σ H→wpAny (model X.prog X.w) X.A (execs st X.env) (SP X pins D) X.xe s
theorem thn {α:Type}{t:Sem α}{Q Q':α→Shared→Prop}{M:Model}{A:Around}{E:Value→Shared→Prop}{s:Shared} (h:wpAny M A t Q E s) (hQ : ∀ a s,Q a s→Q' a s):wpAny M A t Q' E s:=wpAny_mono h hQ fun _ _ x=>x
end L2
namespace L2
open PySem PySem.Spec PyProof.Rows
section
variable {X:Cx}
theorem bin {a b:Expr}{ta tb:TE} (ha:PE X a ta) (hb:PE X b tb) {pins:List (Addr×Obj)}{s:Shared}{σ:St}{H:Hp}{R:V→V→Hp→Prop} (I:Inv X pins σ H s) (h:ta σ H fun x H1=>tb σ H1 fun y H2=>R x y H2)
 {α:Type}{Q:α→Shared→Prop}{f:Value→Value→Sem α}
 (hf : ∀ v u s2 x y H2,Inv X pins σ H2 s2→RelV x v→RelV y u→R x y H2→wpAny (model X.prog X.w) X.A (f v u) Q X.xe s2) :
 wpAny (model X.prog X.w) X.A (eval a X.env) (fun v s₁=>wpAny (model X.prog X.w) X.A (eval b X.env) (fun u s₂=>wpAny (model X.prog X.w) X.A (f v u) Q X.xe s₂) X.xe s₁) X.xe s:=by
  refine thn (ha pins s σ H _ I h) fun v s1 xx3=>?_
  obtain ⟨x,H1,I1,r1,q1⟩:=xx3
  refine thn (hb pins s1 σ H1 _ I1 q1) fun u s2 xx2=>?_
  obtain ⟨y,H2,I2,r2,q2⟩:=xx2
  exact hf v u s2 x y H2 I2 r1 r2 q2
def tVar (i:Nat):TE:=fun σ H Q => ∃ v,σ[i]?=some (some v)∧Q v H
def tC (v:V):TE:=fun _ H Q=>Q v H
theorem pe_var {i:Nat}{x:Str}{pos:Pos} (hN:X.N[i]?=some x) (hv:Vis X.env.scope x) (hd:(x==("__debug__" : Str))=false:=by decide) (hcd:(x==("__classdict__" : Str))=false:=by decide):PE X (.Name x pos) (tVar i):=by
 intro pins s σ H Q I h
 obtain ⟨v,e,h⟩:=h
 obtain ⟨m,hn,hl⟩:=I.loc
 obtain ⟨u,r,l⟩:=hl i x v hN e hv
 have fin:EP X pins σ Q u s:=⟨v,H,I,r,h⟩
 rcases l with ⟨hk,hm⟩|⟨hk,c,hc,hcell⟩
 ·exact wpAny_Name (wpAny_loadName_local I.ok.kind hk hn hm fin) hd
 ·rcases hk with hk|hk
  ·exact wpAny_Name (wpAny_loadName_cell I.ok.kind hk hc hcell fin) hd
  ·exact wpAny_Name (wpAny_loadName_free I.ok.kind hk hc hcell fin hcd) hd
theorem pe_int {i j pos}:PE X (.Constant (.int i) j pos) (tC (.int i)):=fun _ _ _ H _ I h=>wpAny_Constant_int ⟨.int i,H,I.tok _,⟨_,rfl⟩,h⟩
theorem pe_bl {b j pos}:PE X (.Constant (.bool b) j pos) (tC (.bl b)):=fun _ _ _ H _ I h=>Constant_bool ⟨.bl b,H,I,rfl,h⟩
def Gl (X:Cx) (x:Str):Prop:=X.env.kindOf x=some .globalImplicit
theorem ld_glob {E:Value→Shared→Prop}{pins:List (Addr×Obj)}{s:Shared}{σ:St}{H:Hp}{x:Str}{u:Value}{pos:Pos}{Q:Value→Shared→Prop} (I:Inv X pins σ H s) (hg:Gl X x) (hm:X.mg x=some u) (h:Q u s)
 (hd:(x==("__debug__" : Str))=false:=by decide):wpAny (model X.prog X.w) X.A (eval (.Name x pos) X.env) Q E s :=
  Calls.Name_function_global I.ok.kind hg (Calls.loadGlobal_global (by rw [I.ok.glob];exact I.mod.glob.keeps I.bk) hm h) hd
theorem ld_blt {E:Value→Shared→Prop}{pins:List (Addr×Obj)}{s:Shared}{σ:St}{H:Hp}{x:Str}{u:Value}{pos:Pos}{Q:Value→Shared→Prop} (I:Inv X pins σ H s) (hg:Gl X x) (hm:X.mg x=none) (hv:bootBuiltins x=some u) (h:Q u s)
 (hn:x ≠ "__name__":=by decide) (hd:(x==("__debug__" : Str))=false:=by decide):wpAny (model X.prog X.w) X.A (eval (.Name x pos) X.env) Q E s:=by
  obtain ⟨mb,h1,h2⟩:=I.mod.blt
  exact Calls.Name_function_global I.ok.kind hg (Calls.loadGlobal_builtin (by rw [I.ok.glob];exact I.mod.glob.keeps I.bk) hm (by rw [I.ok.blt];exact h1.keeps I.bk) ((h2 x hn).trans hv) h) hd
theorem pe_glob {x:Str}{v:V}{u:Value}{pos:Pos} (hg:Gl X x) (hm:X.mg x=some u) (r:RelV v u) (hd:(x==("__debug__" : Str))=false:=by decide):PE X (.Name x pos) (tC v) :=
 fun _ _ _ H _ I h=>ld_glob I hg hm ⟨v,H,I,r,h⟩ hd
theorem pe_bltn {x:Str}{v:V}{u:Value}{pos:Pos} (hg:Gl X x) (hm:X.mg x=none) (hv:bootBuiltins x=some u) (r:RelV v u) (hn:x ≠ "__name__":=by decide) (hd:(x==("__debug__" : Str))=false:=by decide):PE X (.Name x pos) (tC v) :=
 fun _ _ _ H _ I h=>ld_blt I hg hm hv ⟨v,H,I,r,h⟩ hn hd
def t2I (ta tb:TE) (k:Int→Int→Hp→Prop):St→Hp→Prop:=fun σ H=>ta σ H fun x H1=>tb σ H1 fun y H2 => ∃ i j,x = .int i∧y = .int j∧k i j H2
def tAdd (ta tb:TE):TE:=fun σ H Q=>t2I ta tb (fun i j H2=>Q (.int (i+j)) H2) σ H
variable {a b:Expr}{ta tb:TE}{pos:Pos}
theorem pe_add (ha:PE X a ta) (hb:PE X b tb):PE X (.BinOp a .Add b pos) (tAdd ta tb):=by
 intro pins s σ H Q I h
 refine wpAny_BinOp (bin ha hb I h fun v u s2 x y H2 I2 rx ry q=>?_)
 obtain ⟨i,j,rfl,rfl,q⟩:=q
 obtain ⟨t,rfl⟩:=rx
 obtain ⟨t',rfl⟩:=ry
 exact add_int ⟨.int _,H2,I2.tok _,⟨_,rfl⟩,q⟩
def tB (t:TE):TT:=fun σ H Q=>t σ H fun x H1 => ∃ c,x = .bl c∧Q c H1
theorem pt_val {e:Expr}{t:TE} (h:PE X e t) (he : ∀ whole,isTrue e X.env whole=(do let v ← whole;standAt e.pos;holding [v] (truthy v)):=by intro _;rfl):PT X e (tB t):=by
 intro pins s σ H Q I hw
 refine isTrue_plain (thn (h pins s σ H _ I hw) fun v s1 xx4=>?_) (he _)
 obtain ⟨x,H1,I1,r1,q1⟩:=xx4
 obtain ⟨d,rfl,q⟩:=q1
 cases r1
 exact wpAny_truthy_bool ⟨H1,I1,q⟩
variable {tA tB':TT}{rest:List Expr}
def tAnd (t u:TT):TT:=fun σ H Q=>t σ H fun c H1=>if c=true then u σ H1 Q else Q false H1
def tOr (t u:TT):TT:=fun σ H Q=>t σ H fun c H1=>if c=true then Q true H1 else u σ H1 Q
def tNot (t:TT):TT:=fun σ H Q=>t σ H fun c H1=>Q (!c) H1
theorem pw_and1 (ha:PT X a tA):PW X (.BoolOp .And [a] pos) tA:=by
 intro wh pins s σ H Q I h
 refine isTrue_and (thn (ha pins s σ H Q I h) fun c s1 e=>?_)
 cases c with
 | true=>exact isTrue_and_nil e
 | false=>exact e
theorem pw_or1 (ha:PT X a tA):PW X (.BoolOp .Or [a] pos) tA:=by
 intro wh pins s σ H Q I h
 refine isTrue_or (thn (ha pins s σ H Q I h) fun c s1 e=>?_)
 cases c with
 | false=>exact isTrue_or_nil e
 | true=>exact e
theorem pw_and (ha:PT X a tA) (hb:PW X (.BoolOp .And (b::rest) pos) tB'):PW X (.BoolOp .And (a::b::rest) pos) (tAnd tA tB'):=by
 intro wh pins s σ H Q I h
 refine isTrue_and (thn (ha pins s σ H _ I h) fun c s1 xx5=>?_)
 obtain ⟨H1,I1,q1⟩:=xx5
 cases c with
 | true=>exact hb wh pins s1 σ H1 Q I1 q1
 | false=>exact ⟨H1,I1,q1⟩
theorem pw_or (ha:PT X a tA) (hb:PW X (.BoolOp .Or (b::rest) pos) tB'):PW X (.BoolOp .Or (a::b::rest) pos) (tOr tA tB'):=by
 intro wh pins s σ H Q I h
 refine isTrue_or (thn (ha pins s σ H _ I h) fun c s1 xx6=>?_)
 obtain ⟨H1,I1,q1⟩:=xx6
 cases c with
 | true=>exact ⟨H1,I1,q1⟩
 | false=>exact hb wh pins s1 σ H1 Q I1 q1
theorem pt_not (ha:PT X a tA):PT X (.UnaryOp .Not a pos) (tNot tA):=by
 intro pins s σ H Q I h
 exact isTrue_not (ha pins s σ H (fun c H1=>Q (!c) H1) I h)
def tAndV (ta tb:TE):TE:=fun σ H Q=>ta σ H fun x H1 => ∃ c,x = .bl c∧if c=true then tb σ H1 Q else Q (.bl false) H1
def tNotV (ta:TE):TE:=fun σ H Q=>ta σ H fun x H1 => ∃ c,x = .bl c∧Q (.bl (!c)) H1
theorem pe_one {op}{t:TE} (h:PE X a t):PE X (.BoolOp op [a] pos) t:=fun pins s σ H Q I hw=>BoolOp_one (h pins s σ H Q I hw)
theorem pe_and (ha:PE X a ta) (hb:PE X (.BoolOp .And (b::rest) pos) tb):PE X (.BoolOp .And (a::b::rest) pos) (tAndV ta tb):=by
 intro pins s σ H Q I h
 refine BoolOp_and (thn (ha pins s σ H _ I h) fun v s1 xx7=>?_)
 obtain ⟨x,H1,I1,r1,q1⟩:=xx7
 obtain ⟨c,rfl,q1⟩:=q1
 cases r1
 refine wpAny_truthy_bool ?_
 cases c with
 | true=>exact hb pins s1 σ H1 Q I1 q1
 | false=>exact ⟨.bl false,H1,I1,rfl,q1⟩
theorem pe_not (ha:PE X a ta):PE X (.UnaryOp .Not a pos) (tNotV ta):=by
 intro pins s σ H Q I h
 refine UnaryOp_ (thn (ha pins s σ H _ I h) fun v s1 xx8=>?_)
 obtain ⟨x,H1,I1,r1,q1⟩:=xx8
 obtain ⟨c,rfl,q1⟩:=q1
 cases r1
 exact not_of (wpAny_truthy_bool ⟨.bl (!c),H1,I1,rfl,q1⟩)
def tIf (t:TT) (ta tb:TE):TE:=fun σ H Q=>t σ H fun c H1=>if c=true then ta σ H1 Q else tb σ H1 Q
theorem pe_ifExp {c:Expr} (hc:PT X c tA) (ha:PE X a ta) (hb:PE X b tb):PE X (.IfExp c a b pos) (tIf tA ta tb):=by
 intro pins s σ H Q I h
 refine wpAny_IfExp (thn (hc pins s σ H _ I h) fun d s1 xx9=>?_)
 obtain ⟨H1,I1,q1⟩:=xx9
 cases d with
 | true=>exact ha pins s1 σ H1 Q I1 q1
 | false=>exact hb pins s1 σ H1 Q I1 q1
end
end L2
namespace L2
open PySem PySem.Spec PyProof.Rows
def SqL (K:PySem.W.Frag) (H:Hp) (a:Addr) (xs:List V):Prop :=
 Rd H a (.lst xs) ∨
  ∃ (o:Obj) (its:Array Value) (n:Nat),K.lookup a=some o∧o.cls = .type "list" ∧ o.dict=none∧o.data = .seq its n∧its.size≤sizeLine∧Vals xs its.toList
def SqT (K:PySem.W.Frag) (H:Hp) (a:Addr) (xs:List V):Prop :=
 Rd H a (.tup xs) ∨
  ∃ (o:Obj) (its:Array Value) (n:Nat),K.lookup a=some o∧o.cls = .type "tuple" ∧ o.data = .seq its n∧its.size≤sizeLine∧Vals xs its.toList
def absV:Value→Option V
 | .none=>some .non
 | .bool b=>some (.bl b)
 | .int i _=>some (.int i)
 | .str x _=>some (.str x)
 | .bytes b _=>some (.byt b)
 | .float b _=>some (.flt b)
 | .ref a=>some (.ref a)
 | .type n=>some (.ty n)
 | _=>none
theorem RelV.abs {x:V}{u:Value} (r:RelV x u):absV u=some x:=by
 cases x with
 | non=>cases r;rfl
 | bl _=>cases r;rfl
 | int _=>obtain ⟨t,rfl⟩:=r;rfl
 | str _=>obtain ⟨t,rfl⟩:=r;rfl
 | byt _=>obtain ⟨t,rfl⟩:=r;rfl
 | flt _=>obtain ⟨t,rfl⟩:=r;rfl
 | ref _=>cases r;rfl
 | ty _=>cases r;rfl
theorem RelV.inj {x y:V}{u:Value} (r:RelV x u) (q:RelV y u):x=y:=Option.some.inj (r.abs.symm.trans q.abs)
theorem Vals.inj : ∀ {xs ys:List V}{us:List Value},Vals xs us→Vals ys us→xs=ys
 | _,_,_,.nil,.nil=>rfl
 | _,_,_,.cons r t,.cons r' t'=>by rw [r.inj r',Vals.inj t t']
section
variable {X:Cx}{pins:List (Addr×Obj)}{σ:St}{H:Hp}{s:Shared}{a:Addr}{xs ys:List V}
theorem SqL.of {K:PySem.W.Frag} (h:H a=some (.lst xs)):SqL K H a xs :=.inl (.inl h)
theorem SqT.of {K:PySem.W.Frag} (h:H a=some (.tup xs)):SqT K H a xs :=.inl (.inl h)
theorem Inv.list (I:Inv X pins σ H s) (h:SqL X.K H a xs) : ∃ its:List Value,Vals xs its∧PlainL s.heap a its.toArray∧xs.length≤sizeLine:=by
 rcases h with h|⟨o,its,n,hk,hc,hd,hs,hz,r⟩
 ·obtain ⟨z,its,n,r,e⟩:=h.ok I.hok
  exact ⟨its,r,⟨_,n,e,rfl,rfl,rfl⟩,z⟩
 ·refine ⟨its.toList,r,⟨o,n,I.kIn a o hk,hc,hd,by simpa using hs⟩,?_⟩
  have e:=r.length
  simp only [Array.length_toList] at e
  omega
theorem Inv.tuple (I:Inv X pins σ H s) (h:SqT X.K H a xs) : ∃ its:List Value,Vals xs its∧IsTup s.heap a its.toArray∧xs.length≤sizeLine:=by
 rcases h with h|⟨o,its,n,hk,hc,hs,hz,r⟩
 ·obtain ⟨z,its,r,p⟩:=h.ok I.hok
  exact ⟨its,r,p,z⟩
 ·refine ⟨its.toList,r,⟨o,I.kIn a o hk,hc,n,by simpa using hs⟩,?_⟩
  have e:=r.length
  simp only [Array.length_toList] at e
  omega
theorem Inv.list_inj (I:Inv X pins σ H s) (h:SqL X.K H a xs) (h':SqL X.K H a ys):xs=ys:=by
 obtain ⟨its,r,⟨o,n,e,_,_,d⟩,_⟩:=I.list h
 obtain ⟨its',r',⟨o',n',e',_,_,d'⟩,_⟩:=I.list h'
 rw [e] at e';cases e'
 rw [d] at d'
 injection d' with d1 _
 have:its=its':=by simpa using congrArg Array.toList d1
 subst this
 exact r.inj r'
theorem Inv.tuple_inj (I:Inv X pins σ H s) (h:SqT X.K H a xs) (h':SqT X.K H a ys):xs=ys:=by
 obtain ⟨its,r,⟨o,e,_,n,d⟩,_⟩:=I.tuple h
 obtain ⟨its',r',⟨o',e',_,n',d'⟩,_⟩:=I.tuple h'
 rw [e] at e';cases e'
 rw [d] at d'
 injection d' with d1 _
 have:its=its':=by simpa using congrArg Array.toList d1
 subst this
 exact r.inj r'
end
abbrev Cx.wish (X:Cx) (E:Value→Shared→Prop):Cx:={ X with xe:=E }
abbrev Cx.nox (X:Cx):Cx:=X.wish fun _ _=>False
theorem Cx.Ok.wish {X:Cx} (ok:X.Ok) (E:Value→Shared→Prop):(X.wish E).Ok :=
 ⟨ok.mod,ok.kind,ok.glob,ok.blt,ok.above,ok.inj,ok.has,ok.cab,ok.hd,ok.frames,ok.stk,ok.exf,ok.bs,ok.bsz,ok.noex,ok.exfs,ok.funs,ok.frf⟩
theorem Cx.Ok.unwish {X:Cx}{E:Value→Shared→Prop} (ok:(X.wish E).Ok):X.Ok :=
 ⟨ok.mod,ok.kind,ok.glob,ok.blt,ok.above,ok.inj,ok.has,ok.cab,ok.hd,ok.frames,ok.stk,ok.exf,ok.bs,ok.bsz,ok.noex,ok.exfs,ok.funs,ok.frf⟩
section
variable {X:Cx}{pins:List (Addr×Obj)}{σ:St}{H:Hp}{s:Shared}{E:Value→Shared→Prop}
theorem Inv.wish (I:Inv X pins σ H s) (E:Value→Shared→Prop):Inv (X.wish E) pins σ H s:=⟨I.ok.wish E,I.os,I.bare,I.base,I.loc,I.cell,I.free,I.freeC,I.pin,I.hok,I.len⟩
theorem Inv.unwish (I:Inv (X.wish E) pins σ H s):Inv X pins σ H s:=⟨I.ok.unwish,I.os,I.bare,I.base,I.loc,I.cell,I.free,I.freeC,I.pin,I.hok,I.len⟩
theorem SP.unwish {D:Ends}{f:Flow}{s':Shared} (h:SP (X.wish E) pins D f s'):SP X pins D f s':=by
 cases f with
 | next=>obtain ⟨σ',H',I,q⟩:=h;exact ⟨σ',H',I.unwish,q⟩
 | brk=>obtain ⟨σ',H',I,q⟩:=h;exact ⟨σ',H',I.unwish,q⟩
 | cont=>obtain ⟨σ',H',I,q⟩:=h;exact ⟨σ',H',I.unwish,q⟩
 | ret u=>obtain ⟨v,σ',H',I,r,q⟩:=h;exact ⟨v,σ',H',I.unwish,r,q⟩
theorem PSs.nox {st:List Stmt}{t:TS} (h:PSs X.nox st t):PSs X st t:=fun pins s σ H D I hw =>
 wpAny_mono (h pins s σ H D (I.wish _) hw) (fun _ _ q=>q.unwish) fun _ _ z=>False.elim z
end
section
variable {X:Cx}{st:Stmt}{rest:List Stmt}{t u:TS}{e:Expr}{te:TE}{pos:Pos}
def tNext:TS:=fun D σ H=>D.nx σ H
def tSeq (t u:TS):TS:=fun D σ H=>t { D with nx:=u D } σ H
theorem pss_nil:PSs X [] tNext:=fun _ _ σ H _ I h=>wpAny_execs_nil ⟨σ,H,I,h⟩
theorem pss_cons (h1:PS X st t) (h2:PSs X rest u):PSs X (st::rest) (tSeq t u):=by
 intro pins s σ H D I h
 refine wpAny_execs_cons (thn (h1 pins s σ H { D with nx:=u D } I h) fun f s1 q=>?_)
 cases f with
 | next =>
  obtain ⟨σ',H',I',q⟩:=q
  exact h2 pins s1 σ' H' D I' q
 | ret v=>exact q
 | brk=>exact q
 | cont=>exact q
theorem pss_one (h1:PS X st t):PSs X [st] t:=by
 intro pins s σ H D I h
 refine wpAny_execs_cons (thn (h1 pins s σ H D I h) fun f s1 q=>?_)
 cases f with
 | next=>exact wpAny_execs_nil q
 | ret v=>exact q
 | brk=>exact q
 | cont=>exact q
theorem Inv.quiet {pins:List (Addr×Obj)}{σ:St}{H:Hp}{s:Shared} (I:Inv X pins σ H s):interactive X.env=false:=by simp [interactive,I.ok.kind]
def tDrop (te:TE):TS:=fun D σ H=>te σ H fun _ H1=>D.nx σ H1
theorem ps_expr (he:PE X e te) (hs:swapsWith e none pos.line X.env=pure false:=by rfl):PS X (.Expr e pos) (tDrop te):=by
 intro pins s σ H D I h
 exact wpAny_Expr_any (thn (he pins s σ H _ I h) fun v s1 xx12=>by obtain ⟨x,H1,I1,r1,q1⟩:=xx12;exact ⟨σ,H1,I1,q1⟩) I.quiet hs
def tRet (te:TE):TS:=fun D σ H=>te σ H D.rt
theorem ps_ret (he:PE X e te):PS X (.Return (some e) pos) (tRet te):=by
 intro pins s σ H D I h
 exact wpAny_Return_some (thn (he pins s σ H _ I h) fun v s1 xx13=>by obtain ⟨x,H1,I1,r1,q1⟩:=xx13;exact ⟨x,σ,H1,I1,r1,q1⟩)
def tIfS (c:TT) (t u:TS):TS:=fun D σ H=>c σ H fun b H1=>if b=true then t D σ H1 else u D σ H1
theorem ps_if {c:Expr}{a b:List Stmt}{tc:TT} (hc:PT X c tc) (ha:PSs X a t) (hb:PSs X b u):PS X (.If c a b pos) (tIfS tc t u):=by
 intro pins s σ H D I h
 refine wpAny_If (thn (hc pins s σ H _ I h) fun d s1 xx14=>?_)
 obtain ⟨H1,I1,q1⟩:=xx14
 cases d with
 | true=>exact ha pins s1 σ H1 D I1 q1
 | false=>exact hb pins s1 σ H1 D I1 q1
def tNever:TS:=fun _ _ _=>False
theorem pss_never {sts:List Stmt}:PSs X sts tNever:=fun _ _ _ _ _ _ h=>h.elim
end
abbrev TG:=V→St→Hp→(St→Hp→Prop)→Prop
abbrev TGs:=List V→St→Hp→(St→Hp→Prop)→Prop
def PG (X:Cx) (target:Expr) (t:TG):Prop :=
 ∀ (pins:List (Addr×Obj)) (s:Shared) (σ:St) (H:Hp) (v:V) (u:Value) (Q:St→Hp→Prop),Inv X pins σ H s→RelV v u→t v σ H Q →
  wpAny (model X.prog X.w) X.A (assign target X.env u) (fun _ s' => ∃ σ' H',Inv X pins σ' H' s'∧Q σ' H') X.xe s
def PGs (X:Cx) (ts:List Expr) (t:TGs):Prop :=
 ∀ (pins:List (Addr×Obj)) (s:Shared) (σ:St) (H:Hp) (vs:List V) (us:List Value) (Q:St→Hp→Prop),Inv X pins σ H s→Vals vs us→t vs σ H Q →
  wpAny (model X.prog X.w) X.A (assignInOrder ((assignEach ts X.env).map (·.2)) us) (fun _ s' => ∃ σ' H',Inv X pins σ' H' s'∧Q σ' H') X.xe s
abbrev TSet:=V→V→V→Hp→(Hp→Prop)→Prop
def PSet (X:Cx) (t:TSet):Prop :=
 ∀ (pins:List (Addr×Obj)) (s:Shared) (σ:St) (H:Hp) (o i v:V) (ov iv u:Value) (Q:Hp→Prop),Inv X pins σ H s→RelV o ov→RelV i iv→RelV v u→t o i v H Q →
  wpAny (model X.prog X.w) X.A (setItem ov iv u) (fun _ s' => ∃ H',Inv X pins σ H' s'∧Q H') X.xe s
section
variable {X:Cx}{pos:Pos}
def gName (i:Nat):TG:=fun v σ H Q=>Q (σ.set i (some v)) H
theorem pg_name {i:Nat}{x:Str} (hN:X.N.Nodup) (hi:X.N[i]?=some x) (hx:Loc X.env.scope x) (hf:X.fn x=true∨X.env.scope.names.lookup x=some .local:=by first|exact .inl rfl|exact .inr rfl|assumption):PG X (.Name x pos) (gName i):=by
 intro pins s σ H v u Q I r h
 exact wpAny_assign_Name (store_ok I hN hi hx r (fun s' I'=>⟨_,H,I',h⟩) hf)
def gNil:TGs:=fun vs σ H Q=>vs=[]∧Q σ H
def gCons (t:TG) (u:TGs):TGs:=fun vs σ H Q => ∃ v r,vs=v::r∧t v σ H fun σ' H'=>u r σ' H' Q
theorem pgs_nil:PGs X [] gNil:=by
 intro pins s σ H vs us Q I r h
 obtain ⟨e,h⟩:=h
 subst e
 cases r
 exact assignInOrder_nil ⟨σ,H,I,h⟩
theorem pgs_cons {e:Expr}{es:List Expr}{t:TG}{u:TGs} (h1:PG X e t) (h2:PGs X es u)
 (hs:(assignEach (e::es) X.env).map (·.2)=assign e X.env::(assignEach es X.env).map (·.2):=by rfl):PGs X (e::es) (gCons t u):=by
  intro pins s σ H vs us Q I r h
  obtain ⟨v,vr,e1,h⟩:=h
  subst e1
  cases r with
  | cons r rr =>
   rw [hs]
   refine assignInOrder_cons (thn (h1 pins s σ H _ _ _ I r h) fun _ s1 xx15=>?_)
   obtain ⟨σ1,H1,I1,q1⟩:=xx15
   exact h2 pins s1 σ1 H1 _ _ Q I1 rr q1
def gTup (K:PySem.W.Frag) (n:Nat) (t:TGs):TG:=fun v σ H Q => ∃ a xs,v = .ref a∧SqT K H a xs∧xs.length=n∧t xs σ H Q
theorem pg_tup {es:List Expr}{k:Nat}{t:TGs}{n:Nat} (hc:X.calm=true) (h:PGs X es t)
 (hn:(assignEach es X.env).length=n:=by rfl) (hst:(assignEach es X.env).findIdx? (·.1)=none:=by rfl):PG X (.Tuple es k pos) (gTup X.K n t):=by
  intro pins s σ H v u Q I r hw
  obtain ⟨a,xs,e1,hq,hl,hw⟩:=hw
  subst e1
  cases r
  obtain ⟨its,rv,ht,hz⟩:=I.tuple hq
  refine assign_Tuple_tuple (I.ok.hd hc) ht (by simp [hn,← hl,rv.length]) hst fun h' hx=>?_
  have I1:Inv X pins σ H { s with heap:=h' }:=I.kept (t':=s.toks) fun b o e=>hx b o (Nat.ne_of_lt (Heap.lt_size e)) e
  exact h pins _ σ H xs _ Q I1 (by simpa using rv) hw
def gSub (to ti:TE) (t:TSet):TG:=fun v σ H Q=>to σ H fun o H1=>ti σ H1 fun i H2=>t o i v H2 fun H3=>Q σ H3
theorem pg_sub {o i:Expr}{to ti:TE}{t:TSet} (ho:PE X o to) (hi:PE X i ti) (hs:PSet X t)
 (ha : ∀ v,assign (.Subscript o i pos) X.env v=(do
 let ov ← holding [v] (eval o X.env)
 let iv ← holding [v,ov] (eval i X.env)
 standAt pos
 holding [v,ov,iv] (setItem ov iv v)
 release [v,ov,iv] []):=by intro _;rfl):PG X (.Subscript o i pos) (gSub to ti t):=by
  intro pins s σ H v u Q I r h
  rw [ha]
  refine wpAny_bind (wpAny_holding (thn (ho pins s σ H _ I h) fun ov s1 xx18=>?_))
  obtain ⟨x,H1,I1,r1,q1⟩:=xx18
  refine wpAny_bind (wpAny_holding (thn (hi pins s1 σ H1 _ I1 q1) fun iv s2 xx17=>?_))
  obtain ⟨y,H2,I2,r2,q2⟩:=xx17
  refine wpAny_bind (wpAny_standAt (wpAny_bind (wpAny_holding (thn (hs pins s2 σ H2 x y v ov iv u _ I2 r1 r2 r q2) fun _ s3 xx16=>?_))))
  obtain ⟨H3,I3,q3⟩:=xx16
  exact wpAny_release ⟨σ,H3,I3,q3⟩
def tAsg (te:TE) (g:TG):TS:=fun D σ H=>te σ H fun x H1=>g x σ H1 D.nx
theorem ps_asg {tg e:Expr}{te:TE}{g:TG} (he:PE X e te) (hg:PG X tg g) (hs:swapsWithSole [tg] e pos.line X.env=pure false:=by rfl) (hw:swappedStores [tg] e X.env=pure none:=by rfl)
 (h1:(assignEach [tg] X.env).map (·.2)=[assign tg X.env]:=by rfl):PS X (.Assign [tg] e pos) (tAsg te g):=by
 intro pins s σ H D I h
 refine wpAny_Assign_stores (thn (he pins s σ H _ I h) fun v s1 xx19=>?_) hs hw
 obtain ⟨x,H1,I1,r1,q1⟩:=xx19
 rw [h1]
 exact thn (hg pins s1 σ H1 x v _ I1 r1 q1) fun _ s2 q=>q
theorem ps_set {i:Nat}{x:Str}{e:Expr}{te:TE}{pos':Pos} (hN:X.N.Nodup) (hi:X.N[i]?=some x) (hx:Loc X.env.scope x) (he:PE X e te) (hs:swapsWith e (some (.Name x pos')) pos.line X.env=pure false:=by rfl) (hf:X.fn x=true∨X.env.scope.names.lookup x=some .local:=by first|exact .inl rfl|exact .inr rfl|assumption) :
 PS X (.Assign [.Name x pos'] e pos) (tAsg te (gName i)):=by
 intro pins s σ H D I h
 refine wpAny_Assign_Name (thn (he pins s σ H _ I h) fun v s1 xx20=>?_) hs
 obtain ⟨y,H1,I1,r1,q1⟩:=xx20
 exact store_ok I1 hN hi hx r1 (fun s2 I2=>⟨_,H1,I2,q1⟩) hf
def tPar (i j:Nat) (ta:TA):TS:=fun D σ H=>ta σ H fun vs H1 => ∃ v w,vs=[v,w]∧D.nx ((σ.set i (some v)).set j (some w)) H1
theorem ps_par {i j:Nat}{x y:Str}{a b:Expr}{ta:TA}{px py pt:Pos}{kt k2 pt2} (hc:X.calm=true) (hN:X.N.Nodup) (hi:X.N[i]?=some x) (hj:X.N[j]?=some y) (hij:i≠j)
 (hx:X.env.scope.names.lookup x=some .local) (hy:X.env.scope.names.lookup y=some .local) (ha:PA X [a,b] ta)
 (hw:swappedStores [.Tuple [.Name x px,.Name y py] kt pt] (.Tuple [a,b] k2 pt2) X.env=pure (some [x,y]))
 (hs:swapsWithSole [.Tuple [.Name x px,.Name y py] kt pt] (.Tuple [a,b] k2 pt2) pos.line X.env=pure false:=by rfl) :
  PS X (.Assign [.Tuple [.Name x px,.Name y py] kt pt] (.Tuple [a,b] k2 pt2) pos) (tPar i j ta):=by
  intro pins s σ H D I h
  rw [exec_Assign_arm]
  refine wpAny_bind (wpAny_standAt ?_)
  rw [hs]
  refine wpAny_bind (wpAny_pure ?_)
  rw [if_neg (by decide)]
  refine wpAny_bind (Tuple_ (thn (ha _ pins s σ H _ I h) fun us s1 xx21=>?_))
  obtain ⟨vs,H1,I1,r1,q1⟩:=xx21
  obtain ⟨v,w,e1,q1⟩:=q1
  subst e1
  obtain ⟨u1,u2,rfl,rv,rw'⟩ : ∃ u1 u2,us=[u1,u2]∧RelV v u1∧RelV w u2:=by
   cases r1 with
   | cons p q =>
    cases q with
    | cons p' q' =>
     cases q'
     exact ⟨_,_,rfl,p,p'⟩
  refine wpAny_newObj_type ?_ (by show 2≤sizeLine;decide)
  have I2:Inv X pins σ H1 { s1 with heap:=s1.heap.push { cls :=.type "tuple",data :=.seq [u1,u2].toArray } }:=I1.kept (t':=s1.toks) fun b o e=>Heap.get?_push_of_some _ e
  rw [hw]
  refine wpAny_bind (wpAny_pure ?_)
  show wpAny (model X.prog X.w) X.A (do rule "assign.swapped-stores";let items ← unpackItems (.ref s1.heap.objs.size) 2 none;assignInOrder [fun v=>bindName X.env y v,fun v=>bindName X.env x v] items.reverse;pure Flow.next) _ _ _
  refine wpAny_bind (wpAny_rule (wpAny_bind (unpackItems_tuple (items := #[u1,u2]) (I.ok.hd hc) (IsTup.new s1.heap _) fun h' hx'=>?_)))
  have I3:=I2.kept (h':=h') (t':=s1.toks) fun b o e=>hx' b o (Nat.ne_of_lt (Heap.lt_size e)) e
  show wpAny _ _ (assignInOrder [fun v=>bindName X.env y v,fun v=>bindName X.env x v] [u2,u1] >>= fun _=>pure Flow.next) _ _ _
  refine wpAny_bind (assignInOrder_cons (wpAny_bindName (store_ok I3 hN hj (.inl hy) rw' (fun s2 I4=>?_) (.inr hy))))
  refine assignInOrder_cons (wpAny_bindName (store_ok I4 hN hi (.inl hx) rv (fun s3 I5=>assignInOrder_nil (wpAny_pure ?_)) (.inr hx)))
  rw [List.set_comm _ _ (Ne.symm hij)] at I5
  exact ⟨_,H1,I5,q1⟩
end
section
variable {X:Cx}{pos:Pos}
def tWhile (c:TT) (tb:TS):TS:=fun D σ H => ∃ W:Nat→St→Hp→Prop,(∃ m,W m σ H) ∧ ∀ m σ H,W m σ H →
 c σ H fun b H1=>if b=true then ∃ N:St→Hp→Prop,(∀ σ' H',N σ' H' → ∃ m',m'<m∧W m' σ' H')∧tb { D with nx:=N,ct:=N,bk:=D.nx } σ H1 else D.nx σ H1
theorem ps_while {c:Expr}{body:List Stmt}{tc:TT}{tb:TS} (hp:PassesOwn (model X.prog X.w) X.A X.env X.xe) (hc:PT X c tc) (hb:PSs X body tb):PS X (.While c body [] pos) (tWhile tc tb):=by
 intro pins s σ H D I h
 obtain ⟨W,⟨m0,w0⟩,turn⟩:=h
 refine wpAny_While (codeAny_whileLoop (fun n s' => ∃ σ' H',Inv X pins σ' H' s'∧W n σ' H') ?_ m0 ⟨σ,H,I,w0⟩)
 rintro n s1 ⟨σ1,H1,I1,w1⟩
 refine wpAny_passesOwn hp (thn (hc pins s1 σ1 H1 _ I1 (turn n σ1 H1 w1)) fun b s2 xx22=>?_)
 obtain ⟨H2,I2,q2⟩:=xx22
 cases b with
 | true =>
  obtain ⟨N,hN,q2⟩:=q2
  rw [if_pos rfl]
  refine wpAny_passesOwn hp (thn (hb pins s2 σ1 H2 _ I2 q2) fun f s3 q3=>?_)
  cases f with
  | next =>
   obtain ⟨σ3,H3,I3,n3⟩:=q3
   obtain ⟨m',hm,w3⟩:=hN σ3 H3 n3
   exact ⟨m',hm,σ3,H3,I3,w3⟩
  | cont =>
   obtain ⟨σ3,H3,I3,n3⟩:=q3
   obtain ⟨m',hm,w3⟩:=hN σ3 H3 n3
   exact ⟨m',hm,σ3,H3,I3,w3⟩
  | brk=>exact q3
  | ret v=>exact q3
 | false =>
  rw [if_neg Bool.false_ne_true]
  exact wpAny_execs_nil ⟨σ1,H2,I2,q2⟩
end
structure It where
 go:Nat→Hp→Prop
 yld:Nat→Hp→V→Hp→Prop
 stop:Nat→Hp→Prop
def FpOk (X:Cx) (pins:List (Addr×Obj)) (H:Hp) (b:Addr):Prop :=
 H b=none∧b≠X.env.locals∧b ∉ X.fs∧(b ∈ X.ex∨X.s₀.heap.objs.size≤b)∧(∀ x c,X.env.cells.lookup x=some c→c≠b) ∧ ∀ p ∈ X.pn++pins,p.1≠b
theorem Inv.fpOk {X:Cx}{pins:List (Addr×Obj)}{σ:St}{H H':Hp}{s:Shared}{b:Addr} (I:Inv X pins σ H s) (hb:s.heap.objs.size≤b) (hn:H' b=none):FpOk X pins H' b:=by
 refine ⟨hn,Nat.ne_of_gt (Nat.lt_of_lt_of_le I.lt hb),I.nofs hb,.inr (Nat.le_trans I.sz hb),fun x c e z=>?_,fun p hp z=>?_⟩
 ·obtain ⟨v,q⟩:=I.cell x c e
  exact absurd (Nat.lt_of_lt_of_le q.lt (by rw [z];exact hb)) (Nat.lt_irrefl _)
 ·exact absurd (Nat.lt_of_lt_of_le (Heap.lt_size (I.pin p hp).1) (by rw [z];exact hb)) (Nat.lt_irrefl _)
structure Turn (P:Program) (w:World) (K:PySem.W.Frag) (tg:Expr) (J:It) (fp:List Addr) (it:Addr) (tn:Nat→Heap→Prop):Prop where
 mem:it ∈ fp
 obj : ∀ i h,tn i h → ∀ b ∈ fp,∃ o,h.get? b=some o ∧ ∀ v,o.data ≠ .cell v
 keep : ∀ i h h',tn i h→(∀ b ∈ fp,∀ o,h.get? b=some o→h'.get? b=some o)→tn i h'
 item : ∀ (X:Cx),X.prog=P→X.w=w→X.K=K→X.calm=true → ∀ (i:Nat) (pins:List (Addr×Obj)) (s:Shared) (σ:St) (H:Hp) (E:Value→Shared→Prop),Inv X pins σ H s→(∀ b ∈ fp,FpOk X pins H b)→tn i s.heap→J.go i H →
  wpAny (model P w) X.A (pyNext (.ref it)) (fun r s1 => ∃ u,r=some u ∧
   wpAny (model P w) X.A (letOwnedTupleGo tg (.ref it) u) (fun _ s2 => ∃ x H',Inv X pins σ H' s2∧RelV x u∧J.yld i H x H'∧tn (i+1) s2.heap ∧ ∀ b ∈ fp,H' b=none) E s1) E s
 done : ∀ (X:Cx),X.prog=P→X.w=w→X.K=K→X.calm=true → ∀ (i:Nat) (pins:List (Addr×Obj)) (s:Shared) (σ:St) (H:Hp) (E:Value→Shared→Prop),Inv X pins σ H s→(∀ b ∈ fp,FpOk X pins H b)→tn i s.heap→J.stop i H →
  wpAny (model P w) X.A (pyNext (.ref it)) (fun r s1=>r=none∧Inv X pins σ H s1) E s
 self : ∀ (A:Around) (i:Nat) (s:Shared) (Q:Value→Shared→Prop) (E:Value→Shared→Prop),tn i s.heap→Q (.ref it) s→wpAny (model P w) A (pyIter (.ref it)) Q E s
abbrev TI:=St→Hp→(It→Hp→Prop)→Prop
def PIE (X:Cx) (pins:List (Addr×Obj)) (σ:St) (tg:Expr) (R:It→Hp→Prop) (itv:Value) (s2:Shared):Prop :=
 ∃ (it:Addr) (fp:List Addr) (tn:Nat→Heap→Prop) (J:It) (H':Hp),itv = .ref it∧Inv X pins σ H' s2∧Turn X.prog X.w X.K tg J fp it tn∧tn 0 s2.heap∧(∀ b ∈ fp,FpOk X pins H' b)∧R J H'
def PI (X:Cx) (tg iter:Expr) (wi:TI):Prop :=
 ∀ (pins:List (Addr×Obj)) (s:Shared) (σ:St) (H:Hp) (R:It→Hp→Prop),Inv X pins σ H s→wi σ H R →
  wpAny (model X.prog X.w) X.A (eval iter X.env) (fun v s1=>wpAny (model X.prog X.w) X.A (pyIter v) (PIE X pins σ tg R) X.xe s1) X.xe s
theorem go_of {M:Model}{A:Around}{E:Value→Shared→Prop}{s:Shared}{tg:Expr}{it:Addr}{u:Value}{o:Obj}{n:String}{vs:Array Value}{Q:Unit→Shared→Prop} (ho:s.heap.get? it=some o) (hc:o.cls = .type n) (hd:o.data = .fields vs)
 (hn:["enumerate","zip","dict_itemiterator","dict_reverseitemiterator","odict_iterator","itertools.zip_longest","itertools.pairwise"].contains n=false) (hQ:Q () s):wpAny M A (letOwnedTupleGo tg (.ref it) u) Q E s:=by
  unfold letOwnedTupleGo
  cases tg <;> first
   | exact wpAny_pure hQ
   | (cases u <;> first
    | exact wpAny_pure hQ
    | (refine wpAny_bind (wpAny_load ho ?_)
       rw [hc,hd]
       show wpAny M A (if (["enumerate","zip","dict_itemiterator","dict_reverseitemiterator","odict_iterator","itertools.zip_longest","itertools.pairwise"].contains n&&vs[0]?==some (rawInt _))=true then _ else _) Q E s
       rw [if_neg (by intro h;rw [hn,Bool.false_and] at h;cases h)]
       exact wpAny_pure hQ))
def Itl (K:PySem.W.Frag) (a:Addr):It :=
 ⟨fun i H => ∃ xs x,SqL K H a xs∧xs[i]?=some x,fun i H x H'=>H'=H ∧ ∀ xs,SqL K H a xs→xs[i]?=some x,fun i H => ∃ xs,SqL K H a xs∧xs.length≤i⟩
def Itt (K:PySem.W.Frag) (a:Addr):It :=
 ⟨fun i H => ∃ xs x,SqT K H a xs∧xs[i]?=some x,fun i H x H'=>H'=H ∧ ∀ xs,SqT K H a xs→xs[i]?=some x,fun i H => ∃ xs,SqT K H a xs∧xs.length≤i⟩
def Itr (lo:Int) (n:Nat):It:=⟨fun i _=>i<n,fun i H x H'=>H'=H∧x = .int (lo+i),fun i _=>n≤i⟩
theorem turn_list {P:Program}{w:World}{K:PySem.W.Frag}{tg:Expr} (a it:Addr):Turn P w K tg (Itl K a) [it] it (fun i h=>h.IsListIter it a i) where
 mem:=by simp
 obj:=fun i h st b hb=>by
  have e:b=it:=by simpa using hb
  subst e
  obtain ⟨o,e,c,d⟩:=st
  exact ⟨o,e,fun v z=>by rw [d] at z;cases z⟩
 keep:=fun i h h' st k=>st.at fun o e=>k it (by simp) o e
 item:=by
  intro X hP hw hK hc i pins s σ H E I hf st hg
  subst hP hw hK
  obtain ⟨xs,x,hq,hx⟩:=hg
  obtain ⟨its,rv,p,hz⟩:=I.list hq
  obtain ⟨u,hu,ru⟩:=rv.get hx
  obtain ⟨f0,f1,f2,f3,f4,f5⟩:=hf it (by simp)
  refine wpAny_pyNext_list_item st p.isList (x:=u) (by simpa using hu) fun h' st' sb=>?_
  have I1:Inv X pins σ H { s with heap:=h' }:=I.turned (t':=s.toks) (fun b o hb e=>(sb.2 b hb).trans e) f0 f1 f3 f4 f5
  obtain ⟨o,e,c,d⟩:=id st'
  exact ⟨u,rfl,go_of (s:={ s with heap:=h' }) e c d (by decide) ⟨x,H,I1,ru,⟨rfl,fun ys hy=>by rw [I.list_inj hy hq];exact hx⟩,st',fun b hb=>(hf b hb).1⟩⟩
 done:=by
  intro X hP hw hK hc i pins s σ H E I hf st hg
  subst hP hw hK
  obtain ⟨xs,hq,hx⟩:=hg
  obtain ⟨its,rv,p,hz⟩:=I.list hq
  obtain ⟨f0,f1,f2,f3,f4,f5⟩:=hf it (by simp)
  have hl:=rv.length
  exact wpAny_pyNext_list_end (I.ok.hd hc) st p.isList (by simp;omega) fun h' eb=>⟨rfl,I.turned (t':=s.toks) (fun b o hb e=>eb b o hb e) f0 f1 f3 f4 f5⟩
 self:=fun _ _ _ _ _ st h=>wpAny_pyIter_listiter st h
theorem turn_tuple {P:Program}{w:World}{K:PySem.W.Frag}{tg:Expr} (a it:Addr):Turn P w K tg (Itt K a) [it] it (fun i h=>h.IsTupleIter it a i) where
 mem:=by simp
 obj:=fun i h st b hb=>by
  have e:b=it:=by simpa using hb
  subst e
  obtain ⟨o,e,c,d⟩:=st
  exact ⟨o,e,fun v z=>by rw [d] at z;cases z⟩
 keep:=fun i h h' st k=>st.at fun o e=>k it (by simp) o e
 item:=by
  intro X hP hw hK hc i pins s σ H E I hf st hg
  subst hP hw hK
  obtain ⟨xs,x,hq,hx⟩:=hg
  obtain ⟨its,rv,p,hz⟩:=I.tuple hq
  obtain ⟨u,hu,ru⟩:=rv.get hx
  obtain ⟨f0,f1,f2,f3,f4,f5⟩:=hf it (by simp)
  refine wpAny_pyNext_tuple_item st (show s.heap.IsTuple a its.toArray from p) (x:=u) (by simpa using hu) fun h' st' sb=>?_
  have I1:Inv X pins σ H { s with heap:=h' }:=I.turned (t':=s.toks) (fun b o hb e=>(sb.2 b hb).trans e) f0 f1 f3 f4 f5
  obtain ⟨o,e,c,d⟩:=id st'
  exact ⟨u,rfl,go_of (s:={ s with heap:=h' }) e c d (by decide) ⟨x,H,I1,ru,⟨rfl,fun ys hy=>by rw [I.tuple_inj hy hq];exact hx⟩,st',fun b hb=>(hf b hb).1⟩⟩
 done:=by
  intro X hP hw hK hc i pins s σ H E I hf st hg
  subst hP hw hK
  obtain ⟨xs,hq,hx⟩:=hg
  obtain ⟨its,rv,p,hz⟩:=I.tuple hq
  obtain ⟨f0,f1,f2,f3,f4,f5⟩:=hf it (by simp)
  have hl:=rv.length
  exact wpAny_pyNext_tuple_end (I.ok.hd hc) st (show s.heap.IsTuple a its.toArray from p) (by simp;omega) fun h' eb=>⟨rfl,I.turned (t':=s.toks) (fun b o hb e=>eb b o hb e) f0 f1 f3 f4 f5⟩
 self:=fun _ _ _ _ _ st h=>wpAny_pyIter_tupleiter st h
theorem turn_range {P:Program}{w:World}{K:PySem.W.Frag}{tg:Expr} (it:Addr) (lo:Int) (n:Nat):Turn P w K tg (Itr lo n) [it] it (fun i h=>IsRangeIter h it (lo+(i:Nat)*1) ((n:Int)-(i:Nat)) 1) where
 mem:=by simp
 obj:=fun i h st b hb=>by
  have e:b=it:=by simpa using hb
  subst e
  exact ⟨_,st,fun v z=>by
   have z':Data.fields _=Data.cell v:=z
   cases z'⟩
 keep:=fun i h h' st k=>k it (by simp) _ st
 item:=by
  intro X hP hw hK hc i pins s σ H E I hf st hg
  subst hP hw hK
  obtain ⟨f0,f1,f2,f3,f4,f5⟩:=hf it (by simp)
  have W:=Walks.range (prog:=X.prog) (w:=X.w) (I.ok.hd hc) it lo 1 n
  refine W.item i s _ _ hg st fun v h' tk hv st' kk=>?_
  obtain ⟨t,rfl⟩:=hv
  have I1:Inv X pins σ H { s with heap:=h',toks:=tk }:=I.turned (fun b o hb e=>kk b o (by simpa using hb) e) f0 f1 f3 f4 f5
  refine ⟨_,rfl,go_of (s:={ s with heap:=h',toks:=tk }) (n := "range_iterator") st' rfl rfl (by decide) ⟨.int (lo+i),H,I1,⟨t,?_⟩,⟨rfl,rfl⟩,st',fun b hb=>(hf b hb).1⟩⟩
  rw [Int.mul_one]
 done:=by
  intro X hP hw hK hc i pins s σ H E I hf st hg
  subst hP hw hK
  obtain ⟨f0,f1,f2,f3,f4,f5⟩:=hf it (by simp)
  exact wpAny_pyNext_range_end (I.ok.hd hc) st (by have:n≤i:=hg;omega) fun h' eb=>⟨rfl,I.turned (t':=s.toks) (fun b o hb e=>eb b o hb e) f0 f1 f3 f4 f5⟩
 self:=fun _ _ _ _ _ st h=>wpAny_pyIter_rangeiter st h
end L2
namespace L2
open PySem PySem.Spec PyProof.Rows
section
variable {X:Cx}{tg:Expr}
theorem range_it {pins:List (Addr×Obj)}{σ:St}{H:Hp}{s:Shared}{R:It→Hp→Prop}{E:Value→Shared→Prop}{lo hi:Int}{t u v:Tok}{tk:Nat} (I:Inv X pins σ H s) (h1 : -(2^62)≤lo) (h2:lo<2^62) (h3 : -(2^62)≤hi) (h4:hi<2^62)
 (q:R (Itr lo (hi-lo).toNat) H):wpAny (model X.prog X.w) X.A (pyIter (.ref s.heap.objs.size)) (PIE X pins σ tg R) E { s with heap:=s.heap.push { cls :=.type "range",data :=.fields #[.int lo t,.int hi u,.int 1 v] },toks:=tk }:=by
  refine wpAny_pyIter_range (IsRange.new ..) (small_one h1 h2 h3 h4) ?_
  have I1:Inv X pins σ H { s with heap:=s.heap.push { cls :=.type "range",data :=.fields #[.int lo t,.int hi u,.int 1 v] },toks:=tk }:=I.kept fun b o e=>Heap.get?_push_of_some _ e
  refine ⟨(s.heap.push { cls :=.type "range",data :=.fields #[.int lo t,.int hi u,.int 1 v] }).objs.size,[(s.heap.push { cls :=.type "range",data :=.fields #[.int lo t,.int hi u,.int 1 v] }).objs.size],_,_,H,rfl,
   I1.kept (t':=tk) fun b o e=>Heap.get?_push_of_some _ e,turn_range _ lo (hi-lo).toNat,?_,fun b hb=>?_,q⟩
  ·have e1:lo+((0:Nat):Int)*1=lo:=by simp
   have e2:(((hi-lo).toNat:Nat):Int)-((0:Nat):Int)=Builtin.Range.rangeSize lo hi 1:=by rw [rangeSize_one];split <;> omega
   show IsRangeIter _ _ (lo+((0:Nat):Int)*1) ((((hi-lo).toNat:Nat):Int)-((0:Nat):Int)) 1
   rw [e1,e2]
   exact Heap.get?_push_size _ rfl
  ·have e:b=(s.heap.push { cls :=.type "range",data :=.fields #[.int lo t,.int hi u,.int 1 v] }).objs.size:=by simpa using hb
   subst e
   exact I1.fpOk (Nat.le_refl _) (I1.hok.fresh (Nat.le_refl _))
def iRng1 (ta:TA):TI:=fun σ H R=>ta σ H fun vs H1 => ∃ j:Int,vs=[.int j] ∧ -(2^62)≤j∧j<2^62∧R (Itr 0 j.toNat) H1
theorem pi_range1 {a:Expr}{ta:TA}{p pos:Pos} (hg:Gl X "range") (hm:X.mg "range" = none) (ha:PA X [a] ta) (hs:starEach [a] X.env=[(false,eval a X.env)]:=by rfl):PI X tg (.Call (.Name "range" p) [a] [] pos) (iRng1 ta):=by
 intro pins s σ H R I h
 refine Call_ (ld_blt I hg hm boot_range (PyProof.Rows.callWith_type1 (thn (ha pos pins s σ H _ I h) fun us s1 xx23=>?_) hs rfl))
 obtain ⟨vs,H1,I1,r1,q1⟩:=xx23
 obtain ⟨j,e,q1,q2,q⟩:=q1
 subst e
 cases r1 with
 | cons r rr =>
  cases rr
  obtain ⟨t,rfl⟩:=r
  exact call_range_1 (range_it I1 (by omega) (by omega) q1 q2 (by simpa using q))
def tFor (wi:TI) (g:TG) (tb:TS):TS:=fun D σ H=>wi σ H fun J H1 => ∃ W:Nat→Nat→St→Hp→Prop,(∃ m,W 0 m σ H1) ∧ ∀ i m σ H,W i m σ H →
 (J.stop i H∧D.nx σ H)∨(J.go i H ∧ ∃ N:St→Hp→Prop,(∀ σ' H',N σ' H' → ∃ m',m'<m∧W (i+1) m' σ' H') ∧ ∀ x H',J.yld i H x H'→g x σ H' fun σ2 H2=>tb { D with nx:=N,ct:=N,bk:=D.nx } σ2 H2)
def pinsAt (fp:List Addr) (h:Heap):List (Addr×Obj):=fp.filterMap fun b=>(h.get? b).map fun o=>(b,o)
theorem mem_pinsAt {fp:List Addr}{h:Heap}{b:Addr}{o:Obj} (hb:b ∈ fp) (e:h.get? b=some o):(b,o) ∈ pinsAt fp h:=List.mem_filterMap.mpr ⟨b,hb,by rw [e];rfl⟩
theorem of_pinsAt {fp:List Addr}{h:Heap}{p:Addr×Obj} (hp:p ∈ pinsAt fp h):p.1 ∈ fp∧h.get? p.1=some p.2:=by
 obtain ⟨b,hb,e⟩:=List.mem_filterMap.mp hp
 cases q:h.get? b with
 | none=>rw [q] at e;cases e
 | some o =>
  rw [q] at e
  have e':(b,o)=p:=Option.some.inj e
  subst e'
  exact ⟨hb,q⟩
theorem Inv.pinned {pins:List (Addr×Obj)}{σ:St}{H:Hp}{s:Shared}{fp:List Addr} (I:Inv X pins σ H s) (hf : ∀ b ∈ fp,FpOk X pins H b) (ho : ∀ b ∈ fp,∃ o,s.heap.get? b=some o ∧ ∀ v,o.data ≠ .cell v):Inv X (pins++pinsAt fp s.heap) σ H s :=
 I.pins_of fun p hp=>(List.mem_append.mp hp).elim (fun z=>I.pin p (List.mem_append_right _ z)) fun z=>by
  obtain ⟨hb,e⟩:=of_pinsAt z
  obtain ⟨f0,f1,f2,_⟩:=hf p.1 hb
  obtain ⟨o,e',d⟩:=ho p.1 hb
  rw [e] at e';cases e'
  exact ⟨e,f0,f1,f2,d⟩
theorem Inv.unpinned {pins pl:List (Addr×Obj)}{σ:St}{H:Hp}{s:Shared} (I:Inv X (pins++pl) σ H s):Inv X pins σ H s:=I.pins_of fun p hp=>I.pin p (List.mem_append_right _ (List.mem_append_left _ hp))
theorem ps_for {iter:Expr}{body:List Stmt}{wi:TI}{g:TG}{tb:TS}{pos:Pos} (hp:PassesOwn (model X.prog X.w) X.A X.env X.xe) (hc:X.calm=true) (hi:PI X tg iter wi) (hg:PG X tg g) (hb:PSs X body tb)
 (hs : ∀ x,foldedSetIterable iter X.env x=pure x:=by intro _;rfl):PS X (.For tg iter body [] pos) (tFor wi g tb):=by
  intro pins s σ H D I h
  refine wpAny_For (thn (hi pins s σ H _ I h) fun v s1 h1=>thn h1 fun itv s2 h2=>?_) hs
  obtain ⟨it,fp,tn,J,H2,e,I2,T,st2,f2,W,⟨m0,w0⟩,turn⟩:=h2
  subst e
  have stat : ∀ {H':Hp},(∀ b ∈ fp,H' b=none) → ∀ b ∈ fp,FpOk X pins H' b:=fun hn b hb=>⟨hn b hb,(f2 b hb).2⟩
  refine codeAny_forLoop_any (fun n s' => ∃ i σ' H',Inv X pins σ' H' s'∧tn i s'.heap∧(∀ b ∈ fp,H' b=none)∧W i n σ' H') ?_ m0 ⟨0,σ,H2,I2,st2,fun b hb=>(f2 b hb).1,w0⟩
  rintro n s3 ⟨i,σ3,H3,I3,st3,fr3,w3⟩
  rcases turn i n σ3 H3 w3 with ⟨stop,qn⟩|⟨go,N,hN,step⟩
  ·refine wpAny_passesOwn hp (thn (T.done X rfl rfl rfl hc i pins s3 σ3 H3 X.xe I3 (stat fr3) st3 stop) fun r s4 xx27=>?_)
   obtain ⟨hr,I4⟩:=xx27
   subst hr
   exact wpAny_execs_nil ⟨σ3,H3,I4,qn⟩
  ·refine wpAny_passesOwn hp (thn (T.item X rfl rfl rfl hc i pins s3 σ3 H3 X.xe I3 (stat fr3) st3 go) fun r s4 xx26=>?_)
   obtain ⟨u,hr,h4⟩:=xx26
   subst hr
   refine wpAny_passesOwn hp (thn h4 fun _ s5 xx25=>?_)
   obtain ⟨x,H5,I5,r5,y5,st5,fr5⟩:=xx25
   have I5':=I5.pinned (stat fr5) (T.obj _ _ st5)
   refine wpAny_passesOwn hp (thn (hg _ s5 σ3 H5 x u _ I5' r5 (step x H5 y5)) fun _ s6 xx24=>?_)
   obtain ⟨σ6,H6,I6,q6⟩:=xx24
   refine wpAny_passesOwn hp (thn (hb _ s6 σ6 H6 _ I6 q6) fun f s7 q7=>?_)
   have again : ∀ {σ7:St}{H7:Hp},Inv X (pins++pinsAt fp s5.heap) σ7 H7 s7→N σ7 H7 → ∃ m,m<n ∧ ∃ i σ' H',Inv X pins σ' H' s7∧tn i s7.heap∧(∀ b ∈ fp,H' b=none)∧W i m σ' H':=fun {σ7 H7} I7 n7=>by
    obtain ⟨m',hm,w7⟩:=hN σ7 H7 n7
    refine ⟨m',hm,i+1,σ7,H7,I7.unpinned,T.keep _ _ _ st5 fun b hb o e=>(I7.pin (b,o) (List.mem_append_right _ (List.mem_append_right _ (mem_pinsAt hb e)))).1,fun b hb=>?_,w7⟩
    obtain ⟨o,e,d⟩:=T.obj _ _ st5 b hb
    exact (I7.pin (b,o) (List.mem_append_right _ (List.mem_append_right _ (mem_pinsAt hb e)))).2.1
   cases f with
   | next=>obtain ⟨σ7,H7,I7,n7⟩:=q7;exact again I7 n7
   | cont=>obtain ⟨σ7,H7,I7,n7⟩:=q7;exact again I7 n7
   | brk=>obtain ⟨σ7,H7,I7,q7⟩:=q7;exact ⟨σ7,H7,I7.unpinned,q7⟩
   | ret v=>obtain ⟨x7,σ7,H7,I7,r7,q7⟩:=q7;exact ⟨x7,σ7,H7,I7.unpinned,r7,q7⟩
end
end L2
namespace L2
open PySem PySem.Spec PyProof.Rows
abbrev R2:=V→V→Hp→VK→Prop
def OpR (X:Cx) (f:Value→Value→Sem Value) (r:R2):Prop :=
 ∀ (pins:List (Addr×Obj)) (s:Shared) (σ:St) (H:Hp) (x y:V) (v u:Value) (Q:VK),Inv X pins σ H s→RelV x v→RelV y u→r x y H Q →
  wpAny (model X.prog X.w) X.A (f v u) (EP X pins σ Q) X.xe s
def UnR (X:Cx) (f:Value→Sem Value) (r:V→Hp→VK→Prop):Prop :=
 ∀ (pins:List (Addr×Obj)) (s:Shared) (σ:St) (H:Hp) (x:V) (v:Value) (Q:VK),Inv X pins σ H s→RelV x v→r x H Q →
  wpAny (model X.prog X.w) X.A (f v) (EP X pins σ Q) X.xe s
def CallR (X:Cx) (f:Value) (r:List V→Hp→VK→Prop):Prop :=
 ∀ (pins:List (Addr×Obj)) (s:Shared) (σ:St) (H:Hp) (xs:List V) (us:List Value) (Q:VK),Inv X pins σ H s→Vals xs us→r xs H Q →
  wpAny (model X.prog X.w) X.A (call f us) (EP X pins σ Q) X.xe s
def tOp (r:R2) (ta tb:TE):TE:=fun σ H Q=>ta σ H fun x H1=>tb σ H1 fun y H2=>r x y H2 Q
def tUn (r:V→Hp→VK→Prop) (ta:TE):TE:=fun σ H Q=>ta σ H fun x H1=>r x H1 Q
def rI (C:Int→Int→Prop) (g:Int→Int→V):R2:=fun x y H Q => ∃ i j,x = .int i∧y = .int j∧C i j∧Q (g i j) H
def rI0 (g:Int→Int→V):R2:=fun x y H Q => ∃ i j,x = .int i∧y = .int j∧Q (g i j) H
def rU (g:Int→V):V→Hp→VK→Prop:=fun x H Q => ∃ i,x = .int i∧Q (g i) H
section
variable {X:Cx}{a b c:Expr}{ta tb tc:TE}{pos:Pos}
theorem binT (ha:PE X a ta) (hb:PE X b tb) {pins:List (Addr×Obj)}{s:Shared}{σ:St}{H:Hp}{R:V→V→Hp→Prop} (I:Inv X pins σ H s)
 (h:ta σ H fun x H1=>tb σ H1 fun y H2=>R x y H2) {Q:Value→Shared→Prop}{f:Value→Value→Sem Value}
 (hf : ∀ v u s2 x y H2,Inv X pins σ H2 s2→RelV x v→RelV y u→R x y H2→wpAny (model X.prog X.w) X.A (f v u) Q X.xe s2) :
 wpAny (model X.prog X.w) X.A (eval a X.env) (fun v s₁=>wpAny (model X.prog X.w) X.A (eval b X.env) (fun u s₂=>wpAny (model X.prog X.w) X.A (f v u) Q X.xe s₂) X.xe s₁) X.xe s:=by
  refine thn (ha pins s σ H _ I h) fun v s1 xx29=>?_
  obtain ⟨x,H1,I1,r1,q1⟩:=xx29
  refine thn (hb pins s1 σ H1 _ I1 q1) fun u s2 xx28=>?_
  obtain ⟨y,H2,I2,r2,q2⟩:=xx28
  exact hf v u s2 x y H2 I2 r1 r2 q2
theorem pe_op {op:Operator}{r:R2} (ho:OpR X (binaryOp op) r) (ha:PE X a ta) (hb:PE X b tb):PE X (.BinOp a op b pos) (tOp r ta tb):=by
 intro pins s σ H Q I h
 exact wpAny_BinOp (binT ha hb I h fun v u s2 x y H2 I2 rx ry q=>ho pins s2 σ H2 x y v u Q I2 rx ry q)
theorem pe_un {op:UnaryOp}{r:V→Hp→VK→Prop} (ho:UnR X (unaryOp op) r) (ha:PE X a ta):PE X (.UnaryOp op a pos) (tUn r ta):=by
 intro pins s σ H Q I h
 exact UnaryOp_ (thn (ha pins s σ H _ I h) fun v s1 xx30=>by obtain ⟨x,H1,I1,r1,q1⟩:=xx30;exact ho pins s1 σ H1 x v Q I1 r1 q1)
theorem opI {f:Value→Value→Sem Value}{C:Int→Int→Prop}{g:Int→Int→Int}
 (rule : ∀ (i j:Int) (t u:Tok) (s:Shared) (Q:Value→Shared→Prop) (E:Value→Shared→Prop),C i j→Q (.int (g i j) s.toks) { s with toks:=s.toks+1 }→wpAny (model X.prog X.w) X.A (f (.int i t) (.int j u)) Q E s) :
  OpR X f (rI C fun i j => .int (g i j)):=by
  intro pins s σ H x y v u Q I rx ry h
  obtain ⟨i,j,rfl,rfl,hc,q⟩:=h
  obtain ⟨t,rfl⟩:=rx
  obtain ⟨t',rfl⟩:=ry
  exact rule i j t t' s _ _ hc ⟨.int (g i j),H,I.tok _,⟨_,rfl⟩,q⟩
theorem opI0 {f:Value→Value→Sem Value}{g:Int→Int→Int}
 (rule : ∀ (i j:Int) (t u:Tok) (s:Shared) (Q:Value→Shared→Prop) (E:Value→Shared→Prop),Q (.int (g i j) s.toks) { s with toks:=s.toks+1 }→wpAny (model X.prog X.w) X.A (f (.int i t) (.int j u)) Q E s) :
  OpR X f (rI0 fun i j => .int (g i j)):=by
  intro pins s σ H x y v u Q I rx ry h
  obtain ⟨i,j,rfl,rfl,q⟩:=h
  obtain ⟨t,rfl⟩:=rx
  obtain ⟨t',rfl⟩:=ry
  exact rule i j t t' s _ _ ⟨.int (g i j),H,I.tok _,⟨_,rfl⟩,q⟩
theorem opB0 {f:Value→Value→Sem Value}{g:Int→Int→Bool}
 (rule : ∀ (i j:Int) (t u:Tok) (s:Shared) (Q:Value→Shared→Prop) (E:Value→Shared→Prop),Q (.bool (g i j)) s→wpAny (model X.prog X.w) X.A (f (.int i t) (.int j u)) Q E s) :
 OpR X f (rI0 fun i j => .bl (g i j)):=by
  intro pins s σ H x y v u Q I rx ry h
  obtain ⟨i,j,rfl,rfl,q⟩:=h
  obtain ⟨t,rfl⟩:=rx
  obtain ⟨t',rfl⟩:=ry
  exact rule i j t t' s _ _ ⟨.bl (g i j),H,I,rfl,q⟩
theorem op_add:OpR X (binaryOp .Add) (rI0 fun i j => .int (i+j)):=opI0 fun _ _ _ _ _ _ _ q=>add_int q
theorem op_sub:OpR X (binaryOp .Sub) (rI0 fun i j => .int (i-j)):=opI0 fun _ _ _ _ _ _ _ q=>sub_int q
theorem op_mod:OpR X (binaryOp .Mod) (rI (fun _ j=>0<j) fun i j => .int (i%j)):=opI fun i j _ _ _ _ _ hc q=>by
 have h1:(0:Int)<j:=hc
 exact mod_int' (by omega) (by rw [Int.fmod_eq_emod_of_nonneg i (by omega)];exact q)
theorem unI {f:Value→Sem Value}{g:Int→Int}
 (rule : ∀ (i:Int) (t:Tok) (s:Shared) (Q:Value→Shared→Prop) (E:Value→Shared→Prop),Q (.int (g i) s.toks) { s with toks:=s.toks+1 }→wpAny (model X.prog X.w) X.A (f (.int i t)) Q E s) :
  UnR X f (rU fun i => .int (g i)):=by
  intro pins s σ H x v Q I rx h
  obtain ⟨i,rfl,q⟩:=h
  obtain ⟨t,rfl⟩:=rx
  exact rule i t s _ _ ⟨.int (g i),H,I.tok _,⟨_,rfl⟩,q⟩
theorem un_neg:UnR X (unaryOp .USub) (rU fun i => .int (-i)):=unI fun _ _ _ _ _ q=>neg_int q
end
section
variable {X:Cx}{a b c:Expr}{ta tb tc:TE}{pos:Pos}
theorem op_lt:OpR X (compareOp .Lt) (rI0 fun i j => .bl (decide (i<j))):=opB0 fun _ _ _ _ _ _ _ q=>lt_int q
theorem op_le:OpR X (compareOp .LtE) (rI0 fun i j => .bl (decide (i≤j))):=opB0 fun _ _ _ _ _ _ _ q=>le_int q
theorem op_gt:OpR X (compareOp .Gt) (rI0 fun i j => .bl (decide (j<i))):=opB0 fun _ _ _ _ _ _ _ q=>gt_int q
theorem nomark (b:Expr) {op:CmpOp} (h:op ≠ .In:=by decide) (h2:op ≠ .NotIn:=by decide):behindInMarks op b=false:=by
 have e1:(op==CmpOp.In)=false:=by cases op <;> first|rfl|exact absurd rfl h
 have e2:(op==CmpOp.NotIn)=false:=by cases op <;> first|rfl|exact absurd rfl h2
 cases b <;> simp [behindInMarks,e1,e2]
theorem pe_cmpR {op:CmpOp}{r:R2} (ho:OpR X (compareOp op) r) (ha:PE X a ta) (hb:PE X b tb) (hm:behindInMarks op b=false):PE X (.Compare a [op] [b] pos) (tOp r ta tb):=by
 intro pins s σ H Q I h
 exact wpAny_Compare1 (binT ha hb I h fun v u s2 x y H2 I2 rx ry q=>ho pins s2 σ H2 x y v u Q I2 rx ry q) hm
def tTest (t:TE):TT:=fun σ H Q=>t σ H fun x H' => ∃ k,x = .bl k∧Q k H'
theorem pt_cmpR {op:CmpOp}{r:R2} (ho:OpR X (compareOp op) r) (ha:PE X a ta) (hb:PE X b tb) (hm:behindInMarks op b=false):PT X (.Compare a [op] [b] pos) (tTest (tOp r ta tb)):=by
 intro pins s σ H Q I h
 refine wpAny_isTrue_Compare1 (thn (ha pins s σ H _ I h) fun v s1 ⟨x,H1,I1,r1,q1⟩=>thn (hb pins s1 σ H1 _ I1 q1) fun u s2 ⟨y,H2,I2,r2,q2⟩ =>
  thn (ho pins s2 σ H2 x y v u _ I2 r1 r2 q2) fun c s3 ⟨z,H3,I3,r3,k,e,q3⟩=>?_) hm
 subst e
 cases r3
 exact wpAny_truthy_bool ⟨H3,I3,q3⟩
def tChain (r r':R2) (ta tb tc:TE):TE:=fun σ H Q=>ta σ H fun x H1=>tb σ H1 fun y H2=>r x y H2 fun z H3 => ∃ k,z = .bl k ∧
 (if k=true then tc σ H3 fun w' H4=>r' y w' H4 Q else Q (.bl false) H3)
theorem pe_chain {op op':CmpOp}{r r':R2} (ho:OpR X (compareOp op) r) (ho':OpR X (compareOp op') r') (ha:PE X a ta) (hb:PE X b tb) (hc:PE X c tc)
 (hm:lastMarks [op,op'] [b,c]=false:=by with_unfolding_all rfl):PE X (.Compare a [op,op'] [b,c] pos) (tChain r r' ta tb tc):=by
  intro pins s σ H Q I h
  refine Compare_chain (thn (ha pins s σ H _ I h) fun v s1 ⟨x,H1,I1,r1,q1⟩=>chain_link (thn (hb pins s1 σ H1 _ I1 q1) fun u s2 ⟨y,H2,I2,r2,q2⟩ =>
   thn (ho pins s2 σ H2 x y v u _ I2 r1 r2 q2) fun d s3 ⟨z,H3,I3,r3,k,e,q3⟩=>?_)) hm
  subst e
  cases r3
  refine wpAny_truthy_bool ?_
  cases k with
  | false=>exact ite_ff ⟨.bl false,H3,I3,rfl,q3⟩
  | true=>exact ite_tt (chain_last (thn (hc pins s3 σ H3 _ I3 q3) fun w' s4 xx34=>by obtain ⟨z',H4,I4,r4,q4⟩:=xx34;exact ho' pins s4 σ H4 y z' u w' Q I4 r2 r4 q4))
theorem pt_chain {op op':CmpOp}{r r':R2} (ho:OpR X (compareOp op) r) (ho':OpR X (compareOp op') r') (ha:PE X a ta) (hb:PE X b tb) (hc:PE X c tc)
 (hm:lastMarks [op,op'] [b,c]=false:=by with_unfolding_all rfl):PT X (.Compare a [op,op'] [b,c] pos) (tTest (tChain r r' ta tb tc)):=by
  intro pins s σ H Q I h
  refine isTrue_chain (thn (ha pins s σ H _ I h) fun v s1 ⟨x,H1,I1,r1,q1⟩=>test_link (thn (hb pins s1 σ H1 _ I1 q1) fun u s2 ⟨y,H2,I2,r2,q2⟩ =>
   thn (ho pins s2 σ H2 x y v u _ I2 r1 r2 q2) fun d s3 ⟨z,H3,I3,r3,k,e,q3⟩=>?_)) hm
  subst e
  cases r3
  refine wpAny_truthy_bool ?_
  cases k with
  | false =>
   obtain ⟨k',e',q'⟩:=q3
   cases e'
   exact ite_ff ⟨H3,I3,q'⟩
  | true =>
   refine ite_tt (test_last (thn (hc pins s3 σ H3 _ I3 q3) fun w' s4 ⟨z',H4,I4,r4,q4⟩=>thn (ho' pins s4 σ H4 y z' u w' _ I4 r2 r4 q4) fun d' s5 xx38=>?_))
   obtain ⟨z2,H5,I5,r5,k2,e2,q5⟩:=xx38
   subst e2
   cases r5
   exact wpAny_truthy_bool ⟨H5,I5,q5⟩
theorem line63:(sizeLine:Nat)<2^63:=by rw [sizeLine_eq];decide
theorem op_add_str:OpR X (binaryOp .Add) (fun x y H Q => ∃ i j,x = .str i∧y = .str j∧i.length+j.length≤sizeLine∧Q (.str (i++j)) H):=by
 intro pins s σ H x y v u Q I rx ry h
 obtain ⟨i,j,rfl,rfl,hz,q⟩:=h
 obtain ⟨t,rfl⟩:=rx
 obtain ⟨t',rfl⟩:=ry
 exact add_str (fun t' tk=>⟨.str (i++j),H,I.tok _,⟨_,rfl⟩,q⟩) hz
theorem vals1 {x:V}{us:List Value} (r:Vals [x] us) : ∃ u,us=[u]∧RelV x u:=by
 cases r with
 | cons r1 r2=>cases r2;exact ⟨_,rfl,r1⟩
theorem vals2 {x y:V}{us:List Value} (r:Vals [x,y] us) : ∃ u w',us=[u,w']∧RelV x u∧RelV y w':=by
 cases r with
 | cons r1 r2 =>
  cases r2 with
  | cons r3 r4=>cases r4;exact ⟨_,_,rfl,r1,r3⟩
theorem call_abs:CallR X (.builtin "abs") (fun xs H Q => ∃ i,xs=[.int i]∧Q (.int (if i<0 then -i else i)) H):=by
 intro pins s σ H xs us Q I r h
 obtain ⟨i,rfl,q⟩:=h
 obtain ⟨u,rfl,t,rfl⟩:=vals1 r
 exact call_abs_int fun u tk=>⟨.int (if i<0 then -i else i),H,I.tok _,⟨_,rfl⟩,q⟩
end
end L2
namespace L2
open PySem PySem.Spec PyProof.Rows
section
variable {prog:Program}{w:World}{A:Around}{E:Value→Shared→Prop}{s:Shared}{K:PySem.W.Frag}{x dx C f:Addr}{mA:Str→Option Value}{name:Str}{v:Value}
end
section
variable {P:Program}{w:World}{H H':Hp}{h h':Heap}{a C dx:Addr}{fs fs':List (Str×V)}
end
section
variable {X:Cx}{pins:List (Addr×Obj)}{σ:St}{H:Hp}{s:Shared}{a C dx:Addr}{fs:List (Str×V)}{f:Str}{v:V}{A:Around}{E:Value→Shared→Prop}
end
section
variable {X:Cx}{o e value:Expr}{f:Str}{pos pos' tpos:Pos}{ta tv:TE}
end
section
variable {X:Cx}{pins:List (Addr×Obj)}{σ:St}{H:Hp}{s:Shared}{A:Around}{E:Value→Shared→Prop}{Q:Value→Shared→Prop}{c:Value}{b:Bool}
end
end L2
namespace L2
open PySem PySem.Spec PyProof.Rows
structure Room (k:Nat) (A:Around):Prop where
 hd:A.handled=none
 dp:A.depth+3*k+5<recursionLimit
 un:A.units+16*k+200<cLine
theorem Room.mono {j k:Nat}{A:Around} (r:Room k A) (h:j≤k):Room j A:=⟨r.hd,by have:=r.dp;omega,by have:=r.un;omega⟩
theorem Room.deeper {k:Nat}{A:Around} (r:Room (k+1) A) (env:Env):Room k (A.deeper env) :=
 ⟨r.hd,by have:=r.dp;show A.depth+1+3*k+5<_;omega,by have:=r.un;show A.units+3+16*k+200<_;omega⟩
theorem Room.depth {k:Nat}{A:Around} (r:Room k A):A.depth<recursionLimit:=by have:=r.dp;omega
theorem Room.units {k:Nat}{A:Around} (r:Room k A):A.units+64<cLine:=by have:=r.un;omega
def tNil:TA:=fun _ H Q=>Q [] H
def tCons (ta:TE) (tr:TA):TA:=fun σ H Q=>ta σ H fun x H1=>tr σ H1 fun xs H2=>Q (x::xs) H2
section
variable {X:Cx}{e:Expr}{es:List Expr}{te:TE}{t:TA}{pos:Pos}
theorem pa_nil:PA X [] tNil:=fun _ _ _ _ H Q I h=>Calls.spliced_nil ⟨[],H,I,.nil,h⟩
theorem pa_cons (ha:PE X e te) (hr:PA X es t) (hs:starEach (e::es) X.env=(false,eval e X.env)::starEach es X.env:=by rfl):PA X (e::es) (tCons te t):=by
 intro pos pins s σ H Q I h
 rw [hs]
 show wpAny _ _ (spliced ((false,eval e X.env)::backTo pos (starEach es X.env))) _ _ s
 refine Calls.spliced_cons (thn (ha pins s σ H _ I h) fun u s1 xx44=>?_)
 obtain ⟨x,H1,I1,r1,q1⟩:=xx44
 exact thn (hr pos pins s1 σ H1 _ I1 q1) fun us s2 xx43=>by obtain ⟨xs,H2,I2,r2,q2⟩:=xx43;exact ⟨x::xs,H2,I2,.cons r1 r2,q2⟩
def tTup (t:TA):TE:=fun σ H Q=>t σ H fun xs H1=>xs.length≤sizeLine ∧ ∀ p,H1 p=none→Q (.ref p) (upd H1 p (.tup xs))
def tLst (t:TA):TE:=fun σ H Q=>t σ H fun xs H1=>xs.length≤sizeLine ∧ ∀ p,H1 p=none→Q (.ref p) (upd H1 p (.lst xs))
theorem pe_tup {x1} (h:PA X es t):PE X (.Tuple es x1 pos) (tTup t):=by
 intro pins s σ H Q I hq
 refine wpAny_Tuple_spliced (thn (h pos pins s σ H _ I hq) fun us s1 ⟨xs,H1,I1,r,z,q⟩=>⟨by rw [← r.length];exact z,?_⟩)
 have hf:H1 s1.heap.objs.size=none:=I1.hok.fresh (Nat.le_refl _)
 refine ⟨.ref s1.heap.objs.size,upd H1 s1.heap.objs.size (.tup xs),I1.laid (t':=s1.toks) (fun b u e=>Heap.get?_push_of_some _ e) (Nat.le_refl _) ?_,rfl,q _ hf⟩
 exact ⟨z,us,r,⟨_,Heap.get?_push_size _ rfl,rfl,_,rfl⟩⟩
theorem pe_lst (h:PA X es t):PE X (.List es pos) (tLst t):=by
 intro pins s σ H Q I hq
 refine wpAny_List_spliced (thn (h pos pins s σ H _ I hq) fun us s1 ⟨xs,H1,I1,r,z,q⟩=>⟨by rw [← r.length];exact z,?_⟩)
 have hf:H1 s1.heap.objs.size=none:=I1.hok.fresh (Nat.le_refl _)
 refine ⟨.ref s1.heap.objs.size,upd H1 s1.heap.objs.size (.lst xs),I1.laid (t':=s1.toks) (fun b u e=>Heap.get?_push_of_some _ e) (Nat.le_refl _) ?_,rfl,q _ hf⟩
 exact ⟨z,us,0,r,Heap.get?_push_size _ rfl⟩
end
abbrev Sp:=List V→Hp→VK→XK→Prop
abbrev CXT:=List Env→Hp→Shared→XK→Value→Shared→Prop
structure Env0 (P:Program) (w:World) (K:PySem.W.Frag) (mg:Str→Option Value) (base:Heap) (A:Around) (outer:List Env) (s:Shared) (H:Hp):Prop where
 frames:A.frames=some outer
 mod:Mod K mg base
 bs : ∀ b o,base.get? b=some o→s.heap.get? b=some o∧H b=none
 bsz:base.objs.size≤s.heap.objs.size
 funs:s.heap.FunFrames base outer
 frf : ∀ b ∈ frs outer,H b=none
 hok:HOk P w H s.heap
 bare:AllBare s.gens
def CE (outer:List Env) (P:Program) (w:World) (H:Hp) (s:Shared) (Q:VK) (u:Value) (s':Shared):Prop :=
 ∃ v H',s'.os=s.os∧AllBare s'.gens∧Un (frs outer) [] H H' s.heap s'.heap∧HOk P w H' s'.heap∧RelV v u∧Q v H'
def CR (CX:CXT) (outer:List Env) (P:Program) (w:World) (H:Hp) (s:Shared) (Q:VK) (E:XK) (r:Result) (s':Shared):Prop :=
 match r with
 | .ok (.ret u)=>CE outer P w H s Q u s'
 | .ok _=>False
 | .error e=>CX outer H s E e s'
structure FnOk (P:Program) (w:World) (K:PySem.W.Frag) (mg:Str→Option Value) (base:Heap) (CX:CXT) (k:Nat) (f:Addr) (fd:FuncData) (ps:List Str) (sp:Sp):Prop where
 len : ∀ vs H Q E,sp vs H Q E→vs.length=ps.length
 run : ∀ (A:Around) (outer:List Env) (s:Shared) (H:Hp) (args:Args) (us:List Value) (vs:List V) (Q:VK) (E:XK),Room k A→Env0 P w K mg base A outer s H→BindsTo s fd args (ps.zip us)→Vals vs us→sp vs H Q E →
  codeAny (model P w) A (.call (.ref f) args) (CR CX outer P w H s Q E) s
section
variable {X:Cx}{pins:List (Addr×Obj)}{σ:St}{H:Hp}{s s':Shared}
theorem Inv.env0 (I:Inv X pins σ H s):Env0 X.prog X.w X.K X.mg X.base X.A X.stack s H :=
 ⟨I.ok.frames,I.ok.mod,I.bs,Nat.le_trans I.ok.bsz I.sz,I.stack,I.stkFree,I.hok,I.bare⟩
theorem Inv.after {Q:VK}{u:Value} (I:Inv X pins σ H s) (h:CE X.stack X.prog X.w H s Q u s'):EP X pins σ Q u s':=by
 obtain ⟨v,H',os,bare,un,hok,r,q⟩:=h
 obtain ⟨hh,g,d,t,os'⟩:=s'
 obtain rfl:os'=s.os:=os
 exact ⟨v,H',I.call (h':=hh) (g':=g) (d':=d) (t':=t) (ch:=[]) un hok bare (fun b z=>absurd z (by simp)),r,q⟩
end
def tCall (sp:Sp) (dvs:List V) (E:XK) (t:TA):TE:=fun σ H Q=>t σ H fun vs H1=>sp (vs++dvs) H1 Q E
def Binds (K:PySem.W.Frag) (fd:FuncData) (ps:List Str) (ds:List Value):Prop :=
 ∀ (s:Shared) (us:List Value),K.In s.heap→(us++ds).length=ps.length→BindsTo s fd ⟨us,[]⟩ (ps.zip (us++ds))
theorem Binds.all {K:PySem.W.Frag}{fd:FuncData}{ps:List Str} (h : ∀ us:List Value,us.length=ps.length→bindArgs fd ⟨us,[]⟩=pure (ps.zip us)):Binds K fd ps []:=fun s us _ hl=>by
 rw [List.append_nil] at hl ⊢
 exact .of_eq (h us hl)
def Passes (CX:CXT) (X:Cx) (E:XK):Prop := ∀ (pins:List (Addr×Obj)) (σ:St) (H:Hp) (s:Shared) (e:Value) (s':Shared),Inv X pins σ H s→CX X.stack H s E e s'→X.xe e s'
section
variable {X:Cx}{CX:CXT}{k:Nat}{f C:Addr}{fd:FuncData}{ps:List Str}{sp:Sp}{dvs:List V}{ds:List Value}{E:XK}{x m:Str}{p pos apos:Pos}{e o:Expr}{es:List Expr}{ta:TE}{t:TA}
theorem run_fn {pins:List (Addr×Obj)}{σ:St}{H:Hp}{s:Shared}{Q:VK}{us:List Value}{vs:List V} (F:FnOk X.prog X.w X.K X.mg X.base CX k f fd ps sp) (hr:Room k X.A) (hb:Binds X.K fd ps ds) (hd:Vals dvs ds) (hx:Passes CX X E)
 (I:Inv X pins σ H s) (r:Vals vs us) (h:sp (vs++dvs) H Q E):wpAny (model X.prog X.w) X.A (call (.ref f) us) (EP X pins σ Q) X.xe s:=by
  have r2:Vals (vs++dvs) (us++ds):=r.append hd
  have hl:(us++ds).length=ps.length:=by rw [← r2.length];exact F.len _ _ _ _ h
  refine wpAny_call (codeAny_mono (F.run X.A X.stack s H ⟨us,[]⟩ (us++ds) (vs++dvs) Q E hr I.env0 (hb s us I.kIn hl) r2 h) fun r s' hq=>?_)
  cases r with
  | error e=>exact hx pins σ H s e s' I hq
  | ok fl =>
   cases fl with
   | ret u=>exact I.after hq
   | next=>exact False.elim hq
   | brk=>exact False.elim hq
   | cont=>exact False.elim hq
end
section
variable {X:Cx}{CX:CXT}{k:Nat}{f C:Addr}{fd:FuncData}{ps ks:List Str}{sp:Sp}{E:XK}{x m:Str}{p pos apos kpos:Pos}{e o:Expr}{es:List Expr}{kws:List Keyword}{te ta:TE}{t tk:TA}{nm:Option Str}
variable {g:List Value→List Value→List Value}{gV:List V→List V→List V}
end
structure FnScope (N P:List Str) (sc:Scope):Prop where
 kind:sc.kind = .function
 co:sc.isCoroutine=false
 gen:sc.isGenerator=false
 nd:N.Nodup
 pre:N.take P.length=P
 par : ∀ x ∈ P,sc.names.lookup x=some .local∨sc.names.lookup x=some .cell
 nofree : ∀ y ∈ sc.names,y.2 ≠ .free
theorem bindL_out {kindOf:Str→Option NameKind}{x:Str} : ∀ {binds:List (Str×Value)}{m:Str→Option Value},(∀ v,(x,v) ∉ binds)→bindL kindOf binds m x=m x
 | [],_,_=>rfl
 | (n,v)::r,m,h=>by
  unfold bindL
  rw [bindL_out fun w hw=>h w (List.mem_cons_of_mem _ hw)]
  split
  ·have:x≠n:=by rintro rfl;exact h v List.mem_cons_self
   simp [this]
  ·rfl
theorem bindC_out {kindOf:Str→Option NameKind}{x:Str} : ∀ {binds:List (Str×Value)}{m:Str→Option Value},(∀ v,(x,v) ∉ binds)→bindC kindOf binds m x=m x
 | [],_,_=>rfl
 | (n,v)::r,m,h=>by
  unfold bindC
  rw [bindC_out fun w hw=>h w (List.mem_cons_of_mem _ hw)]
  split
  ·rfl
  ·have:x≠n:=by rintro rfl;exact h v List.mem_cons_self
   simp [this]
theorem bindL_get {kindOf:Str→Option NameKind}{x:Str}{v:Value} : ∀ {P:List Str}{vs:List Value}{i:Nat}{m:Str→Option Value},P.Nodup→P[i]?=some x→vs[i]?=some v→kindOf x=some .local →
 bindL kindOf (P.zip vs) m x=some v
  | [],_,_,_,_,h,_,_=>by simp at h
  | _::_,[],_,_,_,_,h,_=>by simp at h
  | p::P,w::vs,0,m,nd,h1,h2,hk=>by
   simp at h1 h2;subst h1;subst h2
   show bindL kindOf ((p,w)::P.zip vs) m p=_
   unfold bindL
   rw [bindL_out fun v hv=>(List.nodup_cons.mp nd).1 (List.of_mem_zip hv).1,if_pos hk]
   simp
  | p::P,w::vs,i+1,m,nd,h1,h2,hk=>by
   show bindL kindOf ((p,w)::P.zip vs) m x=_
   unfold bindL
   exact bindL_get (i:=i) (List.nodup_cons.mp nd).2 (by simpa using h1) (by simpa using h2) hk
theorem bindC_get {kindOf:Str→Option NameKind}{x:Str}{v:Value} : ∀ {P:List Str}{vs:List Value}{i:Nat}{m:Str→Option Value},P.Nodup→P[i]?=some x→vs[i]?=some v→kindOf x≠some .local →
 bindC kindOf (P.zip vs) m x=some v
  | [],_,_,_,_,h,_,_=>by simp at h
  | _::_,[],_,_,_,_,h,_=>by simp at h
  | p::P,w::vs,0,m,nd,h1,h2,hk=>by
   simp at h1 h2;subst h1;subst h2
   show bindC kindOf ((p,w)::P.zip vs) m p=_
   unfold bindC
   rw [bindC_out fun v hv=>(List.nodup_cons.mp nd).1 (List.of_mem_zip hv).1,if_neg hk]
   simp
  | p::P,w::vs,i+1,m,nd,h1,h2,hk=>by
   show bindC kindOf ((p,w)::P.zip vs) m x=_
   unfold bindC
   exact bindC_get (i:=i) (List.nodup_cons.mp nd).2 (by simpa using h1) (by simpa using h2) hk
def start (N:List Str) (vs:List V):St:=vs.map some++List.replicate (N.length-vs.length) none
def cxOf (CX:CXT) (P:Program) (w:World) (K:PySem.W.Frag) (mg:Str→Option Value) (base:Heap) (N:List Str) (qual:Str) (scope:Scope) (f:Addr) (cd:Value) (A:Around) (outer:List Env) (s:Shared) (H:Hp) (E:XK):Cx where
 prog:=P
 w:=w
 K:=K
 mg:=mg
 base:=base
 A:=A.deeper (envOfC qual scope s.heap.objs.size f cd)
 N:=N
 s₀:=s
 H₀:=H
 env:=envOfC qual scope s.heap.objs.size f cd
 outer:=outer
 stack:=envOfC qual scope s.heap.objs.size f cd::outer
 ex:=[]
 calm:=true
 fn:=fun _=>true
 pn:=[]
 xe:=fun e s'=>wpAny (model P w) (A.deeper (envOfC qual scope s.heap.objs.size f cd)) (leaving (envOfC qual scope s.heap.objs.size f cd) e) (fun _ s''=>CX outer H s E e s'') (fun e' s''=>CX outer H s E e' s'') s'
theorem cell_has {sc:Scope}{n:Nat}{x:Str} (h:sc.names.lookup x=some .cell) : ∃ c,(cellsFrom n sc.names []).lookup x=some c:=by
 have q:=PySem.W.cellsFrom_some sc.names n [] (.inl h)
 exact Option.isSome_iff_exists.mp q
theorem inv_start {CX:CXT}{P:Program}{w:World}{K:PySem.W.Frag}{mg:Str→Option Value}{base:Heap}{N ps:List Str}{qual:Str}{scope:Scope}{f:Addr}{cd:Value}{A:Around}{outer:List Env}{s s1:Shared}{H:Hp}{E:XK}{us:List Value}{vs:List V}
 (S:FnScope N ps scope) (hd:A.handled=none) (e0:Env0 P w K mg base A outer s H) (hl:vs.length=ps.length) (r:Vals vs us)
 (x:InCallC s s.heap.objs.size (bindL (envOfC qual scope s.heap.objs.size f cd).kindOf (ps.zip us) fun _=>none) (cellsFrom (s.heap.objs.size+1) scope.names []) (bindC (envOfC qual scope s.heap.objs.size f cd).kindOf (ps.zip us) fun _=>none) s1) :
 Inv (cxOf CX P w K mg base N qual scope f cd A outer s H E) [] (start N vs) H s1:=by
  have hpl:ps.length≤N.length:=by have:=congrArg List.length S.pre;rw [List.length_take] at this;omega
  obtain ⟨h1,tk,rfl,hk⟩:=x.done
  have noA : ∀ b:Addr,b ∉ (cxOf CX P w K mg base N qual scope f cd A outer s H E).ex:=fun b z=>absurd (show b ∈ ([]:List Addr) from z) (by simp)
  refine ⟨⟨e0.mod,S.kind,rfl,rfl,Nat.le_refl _,fun y z c h1 h2=>?_,fun y hy=>?_,fun y c _ h=>?_,fun _=>hd,Around.frames_deeper e0.frames,.inr ⟨rfl,rfl⟩,fun b z=>absurd z (noA b),e0.bs,e0.bsz,fun b _ _=>noA b,fun b z=>absurd z (noA b),e0.funs,e0.frf⟩,
   rfl,e0.bare,Un.kept hk,⟨_,x.toInCall.ns,fun i y v h1 h2 h3=>?_⟩,fun y c h=>⟨_,x.cell y c h⟩,e0.hok.fresh (Nat.le_refl _),fun y c h=>?_,fun p hp=>absurd (show p ∈ ([]:List (Addr×Obj)) from hp) (by simp),e0.hok.kept hk,?_⟩
  ·exact name_of_addr x.apart (PySem.mem_of_lookup h1) (PySem.mem_of_lookup h2)
  ·have hy:scope.names.lookup y=some .cell∨scope.names.lookup y=some .free:=hy
   rcases hy with hy|hy
   ·exact cell_has hy
   ·exact absurd rfl (S.nofree _ (PySem.mem_of_lookup hy))
  ·exact Nat.le_of_lt (x.above y c (PySem.mem_of_lookup h))
  ·have hi:i<vs.length:=by
    unfold start at h2
    by_cases hi:i<vs.length
    ·exact hi
    ·rw [List.getElem?_append_right (by simpa using hi)] at h2
     rw [List.getElem?_replicate] at h2
     split at h2 <;> cases h2
   have ha:vs[i]?=some v:=by
    unfold start at h2
    rw [List.getElem?_append_left (by simpa using hi),List.getElem?_map] at h2
    cases e:vs[i]? with
    | none=>rw [e] at h2;cases h2
    | some a=>rw [e] at h2;cases h2;rfl
   obtain ⟨u,hu,rv⟩:=r.get ha
   have hp:ps[i]?=some y:=by
    rw [← S.pre,List.getElem?_take_of_lt (by omega)];exact h1
   have ndP:ps.Nodup:=by rw [← S.pre];exact S.nd.sublist (List.take_sublist _ _)
   refine ⟨u,rv,?_⟩
   rcases S.par y (List.mem_of_getElem? hp) with k|k
   ·exact .inl ⟨k,bindL_get ndP hp hu k⟩
   ·obtain ⟨c,e⟩:=cell_has (n:=s.heap.objs.size+1) k
    refine .inr ⟨.inl k,c,e,?_⟩
    have q:=x.cell y c e
    rw [bindC_get ndP hp hu (by show scope.names.lookup y≠_;rw [k];decide)] at q
    exact q
  ·exact e0.hok.fresh (Nat.le_of_lt (x.above y c (PySem.mem_of_lookup h)))
  ·unfold start
   show _=N.length
   rw [List.length_append,List.length_map,List.length_replicate]
   omega
theorem fn_of {CX:CXT}{P:Program}{w:World}{K:PySem.W.Frag}{mg:Str→Option Value}{base:Heap}{k:Nat}{f:Addr}{name qual:Str}{params:Arguments}{body:List Stmt}{scope:Scope}{dV kV doc pm cdv ct oc:Value}{an od:Option Addr}
 {osl:Array (Option Value)}{N ps:List Str}{sp:Sp} (lk:K.lookup f=some ⟨oc,od,.func (PySem.W.fnOf name qual params body scope dV kV doc pm an cdv ct),osl⟩) (hcd:PySem.W.codeIn K cdv qual=true) (S:FnScope N ps scope)
 (len : ∀ vs H Q E,sp vs H Q E→vs.length=ps.length)
 (hbody : ∀ (A:Around) (outer:List Env) (s:Shared) (H:Hp) (vs:List V) (Q:VK) (E:XK),Room k (A.deeper (envOfC qual scope s.heap.objs.size f cdv))→sp vs H Q E →
 ∃ t,PSs (cxOf CX P w K mg base N qual scope f cdv A outer s H E) body t∧t { nx:=fun _ H'=>Q .non H',rt:=Q } (start N vs) H) :
  FnOk P w K mg base CX (k+1) f (PySem.W.fnOf name qual params body scope dV kV doc pm an cdv ct) ps sp:=by
  refine ⟨len,fun A outer s H args us vs Q E hr e0 hb r hsp=>?_⟩
  have hl:=len _ _ _ _ hsp
  have KX:K.In s.heap:=e0.mod.kin.keeps fun b o e=>(e0.bs b o e).1
  have lim:s.heap.NoLimit:=e0.mod.nolimit.keeps fun b o e=>(e0.bs b o e).1
  have hkind : ∀ y ∈ ps.zip us,scope.names.lookup y.1=some .local∨(scope.names.lookup y.1=some .cell∧((cellsFrom (s.heap.objs.size+1) scope.names []).lookup y.1).isSome=true):=fun xx47 hy=>by
   obtain ⟨n,v⟩:=xx47
   rcases S.par n (List.of_mem_zip hy).1 with q|q
   ·exact .inl q
   ·exact .inr ⟨q,PySem.W.cellsFrom_some _ _ _ (.inl q)⟩
  refine codeAny_call_function hr.depth (KX _ _ lk) rfl S.co S.gen rfl (PySem.W.codeRec_of KX hcd) (hb _ _ _ _ ?_)
  refine wpAny_newFunctionEnv_cells S.kind hkind fun env he s1 x=>?_
  subst he
  refine ⟨lim.keeps x.toInCall.keep,codeAny_func ?_⟩
  obtain ⟨t,ht,hq⟩:=hbody A outer s H vs Q E (hr.deeper _) hsp
  have I:Inv (cxOf CX P w K mg base N qual scope f cdv A outer s H E) [] (start N vs) H s1:=inv_start S hr.hd e0 hl r x
  refine wpAny_mono (ht [] s1 (start N vs) H _ I hq) (fun fl s' hs=>?_) fun e s' hs=>hs
  have fin : ∀ {σ':St}{H':Hp}{v:V}{u:Value},Inv (cxOf CX P w K mg base N qual scope f cdv A outer s H E) [] σ' H' s'→RelV v u→Q v H'→CE outer P w H s Q u s' :=
   fun {σ' H' v u} J rv q=>⟨v,H',J.os,J.bare,J.base,J.hok,rv,q⟩
  cases fl with
  | ret u =>
   obtain ⟨v,σ',H',J,rv,q⟩:=hs
   exact fin J rv q
  | next =>
   obtain ⟨σ',H',J,q⟩:=hs
   exact fin (v:=V.non) (u:=Value.none) J rfl q
  | brk =>
   obtain ⟨_,_,_,q⟩:=hs
   exact False.elim q
  | cont =>
   obtain ⟨_,_,_,q⟩:=hs
   exact False.elim q
end L2
namespace L2
open PySem PySem.Spec PyProof.Rows
section
variable {X:Cx}{x:Str}{p pos:Pos}{e:Expr}{es:List Expr}{t:TA}{id T:String}{r:List V→Hp→VK→Prop}
def tCB (r:List V→Hp→VK→Prop) (t:TA):TE:=fun σ H Q=>t σ H fun vs H1=>r vs H1 Q
theorem pe_callB (hc:CallR X (.builtin id) r) (hg:Gl X x) (hm:X.mg x=none) (hv:bootBuiltins x=some (.builtin id)) (ha:PA X (e::es) t) (hn:x ≠ "__name__":=by decide) (hdb:(x==("__debug__" : Str))=false:=by decide)
 (he:starEach (e::es) X.env=(false,eval e X.env)::starEach es X.env:=by rfl) (hpl:(backTo pos (starEach es X.env)).any (·.1)=false:=by rfl):PE X (.Call (.Name x p) (e::es) [] pos) (tCB r t):=by
 intro pins s σ H Q I h
 refine wpAny_Call_Name_kw (ld_blt I hg hm hv ?_ hn hdb)
 exact PyProof.Rows.callWith_builtin1 (thn (ha pos pins s σ H _ I h) fun us s1 xx48=>by obtain ⟨vs,H1,I1,r1,q1⟩:=xx48;exact hc pins s1 σ H1 vs us Q I1 r1 q1) he hpl
theorem pe_callTy (hc:CallR X (.type T) r) (hg:Gl X x) (hm:X.mg x=none) (hv:bootBuiltins x=some (.type T)) (ha:PA X (e::es) t) (hn:x ≠ "__name__":=by decide) (hdb:(x==("__debug__" : Str))=false:=by decide)
 (he:starEach (e::es) X.env=(false,eval e X.env)::starEach es X.env:=by rfl) (hpl:(backTo pos (starEach es X.env)).any (·.1)=false:=by rfl):PE X (.Call (.Name x p) (e::es) [] pos) (tCB r t):=by
 intro pins s σ H Q I h
 refine wpAny_Call_Name_kw (ld_blt I hg hm hv ?_ hn hdb)
 exact PyProof.Rows.callWith_type1 (thn (ha pos pins s σ H _ I h) fun us s1 xx49=>by obtain ⟨vs,H1,I1,r1,q1⟩:=xx49;exact hc pins s1 σ H1 vs us Q I1 r1 q1) he hpl
end
end L2
namespace HT
open PySem PyProof.Rows
def lexLt:List Int→List Int→Bool
 | [],[]=>false
 | [],_::_=>true
 | _::_,[]=>false
 | x::xs,y::ys=>if x=y then lexLt xs ys else decide (x<y)
theorem lexLt_cons (x y:Int) (xs ys:List Int):lexLt (x::xs) (y::ys)=if x=y then lexLt xs ys else decide (x<y):=rfl
theorem lexLt_nil_nil:lexLt [] []=false:=rfl
theorem lexLt_nil_cons (y:Int) (ys:List Int):lexLt [] (y::ys)=true:=rfl
theorem lexLt_cons_nil (x:Int) (xs:List Int):lexLt (x::xs) []=false:=rfl
theorem eqAt_int (A:Around) (s:Shared) (a:Int) (t:Tok) (c:Int) (u:Tok) : ∃ e,SeqAt.EqAt A s (.int a t) (.int c u) e∧(e=true↔a=c) :=
 ⟨(a==c),SeqAt.EqAt.int_int a t c u,by simp⟩
theorem rcLt_int (A:Around) (s:Shared) (a:Int) (t:Tok) (c:Int) (u:Tok) (prog:Program) (w:World) (E:Value→Shared→Prop) (Q:Value→Shared→Prop) (h:Q (.bool (decide (a<c))) s) :
 wpAny (model prog w) A (richCompare .Lt (.int a t) (.int c u)) Q E s :=
  (PyProof.Rows.lt_int h:wpAny (model prog w) A (compareOp .Lt (.int a t) (.int c u)) Q E s)
section
open PySem.SeqAt
open PySem.AutoSeq1 (wpAny_loadPart')
open PySem.MeetsSeq PySem.MeetsSeq2 PySem.MeetsSeq3
theorem tuple_lt_ints (l b:Addr) (items items2:Array Value) (n n2:Nat) (dd dd2:Option Addr) (sl sl2:Array (Option Value)) (ns ms:List Int) (hi:IntsAre items.toList ns) (hj:IntsAre items2.toList ms) :
 Meets (Builtin.«tuple.__lt__» ⟨[.ref l,.ref b],[]⟩)
 (fun _ R s=>s.heap.get? l=some { cls :=.type "tuple",dict:=dd,data :=.seq items n,slots:=sl }∧s.heap.get? b=some { cls :=.type "tuple",dict:=dd2,data :=.seq items2 n2,slots:=sl2 } ∧
  R (.ok (.ret (.bool (lexLt ns ms)))) s) :=
  .of_wp fun prog w A R s h=>by
   obtain ⟨hp,g,d,tk,os⟩:=s;obtain ⟨hl,hb,h⟩:=h
   have f2:=AutoSeq1.sub_tuple_tuple
   have z1:items.size=ns.length:=by rw [← hi.length];simp
   have z2:items2.size=ms.length:=by rw [← hj.length];simp
   wp_walk using wpAny_loadPart' hl,wpAny_loadPart' hb,wpAny_forIn_list _ (fun rest b s'=>b.1=none∧s'=⟨hp,g,d,tk,os⟩ ∧ ∃ (vs ws:List Value) (ns' ms':List Int),rest=vs.zip ws ∧
    IntsAre vs ns'∧IntsAre ws ms'∧ns'.length+items2.size=ms'.length+items.size∧R (.ok (.ret (.bool (lexLt ns' ms')))) ⟨hp,g,d,tk,os⟩) _
   case turn =>
    rintro ⟨y,x⟩ rest b s' ⟨hb',rfl,vs,ws,ns',ms',hz,hvi,hwi,hlen,hR⟩
    cases hvi with
    | nil=>rw [List.zip_nil_left] at hz;cases hz
    | cons a t hvi' =>
     cases hwi with
     | nil=>rw [List.zip_nil_right] at hz;cases hz
     | cons c u hwi' =>
      rw [List.zip_cons_cons] at hz
      injection hz with hyx hrest
      injection hyx with hy hx
      subst hy hx
      rw [lexLt_cons] at hR
      simp only [List.length_cons] at hlen
      obtain ⟨e,he,hiff⟩:=eqAt_int A.in1 ⟨hp,g,d,tk,os⟩ a t c u
      refine wpAny_bind (he prog w _ _ ?_)
      cases e with
      | true =>
       rw [if_pos (hiff.mp rfl)] at hR
       wp_walk
       exact ⟨rfl,rfl,_,_,_,_,hrest,hvi',hwi',by omega,hR⟩
      | false =>
       rw [if_neg (fun q=>absurd (hiff.mpr q) Bool.false_ne_true)] at hR
       have hri:=rcLt_int A.in1 ⟨hp,g,d,tk,os⟩ a t c u prog w
       wp_walk using hri
       exact ⟨_,rfl,by simpa using hR⟩
   case fin =>
    rintro ⟨b1,b2⟩ s' ⟨hb',rfl,vs,ws,ns',ms',hz,hvi,hwi,hlen,hR⟩
    simp only at hb'
    subst hb'
    have hv:lexLt ns' ms'=decide (items.size<items2.size):=by
     cases hvi with
     | nil =>
      cases hwi with
      | nil =>
       simp only [List.length_nil] at hlen
       rw [lexLt_nil_nil]
       exact (decide_eq_false (by omega)).symm
      | cons c u hw =>
       simp only [List.length_nil,List.length_cons] at hlen
       rw [lexLt_nil_cons]
       exact (decide_eq_true (by omega)).symm
     | cons a t hv =>
      cases hwi with
      | nil =>
       simp only [List.length_nil,List.length_cons] at hlen
       rw [lexLt_cons_nil]
       exact (decide_eq_false (by omega)).symm
      | cons c u hw =>
       rw [List.zip_cons_cons] at hz
       cases hz
    rw [hv] at hR
    wp_walk
    exact ⟨_,rfl,by simpa [Builtin.Tuple.tupleCompareSizes] using hR⟩
   case h =>
    exact ⟨rfl,rfl,items.toList,items2.toList,ns,ms,rfl,hi,hj,by omega,h⟩
end
section
variable {prog:Program}{w:World}{A:Around}{E:Value→Shared→Prop}{s:Shared}
theorem lt_tupInts {l b:Addr}{items items2:Array Value}{ns ms:List Int}{Q:Value→Shared→Prop} (hl:IsTup s.heap l items) (hb:IsTup s.heap b items2) (hi:IntsAre items.toList ns) (hj:IntsAre items2.toList ms)
 (hu:A.units<cLine) (h:Q (.bool (lexLt ns ms)) s):wpAny (model prog w) A (compareOp .Lt (.ref l) (.ref b)) Q E s:=by
  obtain ⟨⟨cls,dd,data,sl⟩,ho,hc,n,hd⟩:=id hl
  obtain ⟨⟨cls2,dd2,data2,sl2⟩,ho2,hc2,n2,hd2⟩:=id hb
  simp only at hc hd hc2 hd2
  subst hc hd hc2 hd2
  exact richCompare_meets_room (op :=.Lt) ⟨_,ho,rfl⟩ ⟨_,ho2,rfl⟩ PySem.F.slot_tuple_lt PySem.F.entry_tuple_lt (PySem.F.args_tuple_lt_2 _ _) (tuple_lt_ints l b items items2 n n2 dd dd2 sl sl2 ns ms hi hj)
   ⟨ho,ho2,show Value.bool (lexLt ns ms)≠Value.notImplemented∧Q (.bool (lexLt ns ms)) s from ⟨(fun x=>nomatch x),h⟩⟩ hu
theorem cat_tup {t b:Addr}{vs ws:List Value}{Q:Value→Shared→Prop} (ht:IsTup s.heap t vs.toArray) (hb:IsTup s.heap b ws.toArray) (hv:vs≠[])
 (h1:ws=[]→Q (.ref t) s) (h2:ws≠[]→Q (.ref s.heap.objs.size) { s with heap:=s.heap.push { cls :=.type "tuple",data :=.seq (vs++ws).toArray } })
  (hsz:vs.length+ws.length≤sizeLine):wpAny (model prog w) A (binaryOp .Add (.ref t) (.ref b)) Q E s:=by
  obtain ⟨⟨cls,dd,data,sl⟩,ho,hc,n,hd⟩:=id ht
  obtain ⟨⟨cls2,dd2,data2,sl2⟩,ho2,hc2,n2,hd2⟩:=id hb
  simp only at hc hd hc2 hd2
  subst hc hd hc2 hd2
  have e:vs.toArray++ws.toArray=(vs++ws).toArray:=by simp
  by_cases hw:ws=[]
  ·exact concat_meets ⟨_,ho,rfl⟩ ⟨_,ho2,rfl⟩ noFill_tuple_add seq_tuple_add PySem.F.slot_tuple_add PySem.F.entry_tuple_add (PySem.F.args_tuple_add_2 _ _)
    (tuple_addW1 t b vs.toArray ws.toArray n n2 dd dd2 sl sl2 (by simpa using hv) (by simp [hw])) ⟨ho,ho2,h1 hw⟩
  ·refine concat_meets ⟨_,ho,rfl⟩ ⟨_,ho2,rfl⟩ noFill_tuple_add seq_tuple_add PySem.F.slot_tuple_add PySem.F.entry_tuple_add (PySem.F.args_tuple_add_2 _ _)
    (tuple_addW2 t b vs.toArray ws.toArray n n2 dd dd2 sl sl2 (by simpa using hv) (by simpa using hw) (by rw [List.size_toArray,List.size_toArray];exact hsz)) ⟨ho,ho2,?_⟩
   rw [e]
   exact h2 hw
end
end HT
namespace L2
open PySem PySem.Spec PyProof.Rows
abbrev TO:=St→Hp→(Option Int→Hp→Prop)→Prop
def PO (X:Cx) (e:Option Expr) (t:TO):Prop :=
 ∀ (pins:List (Addr×Obj)) (s:Shared) (σ:St) (H:Hp) (Q:Option Int→Hp→Prop),Inv X pins σ H s→t σ H Q →
  wpAny (model X.prog X.w) X.A (evalPart e X.env) (fun u s' => ∃ o H',Inv X pins σ H' s'∧IsPart u o∧Q o H') X.xe s
theorem intsAre_of {ns:List Int} : ∀ {us:List Value},Vals (ns.map V.int) us→IntsAre us ns:=by
 induction ns with
 | nil=>intro us r;rw [List.map_nil] at r;cases r;exact .nil
 | cons n ns ih =>
  intro us r
  rw [List.map_cons] at r
  cases r with
  | cons r1 r2 =>
   obtain ⟨t,e⟩:=r1
   subst e
   exact .cons n t (ih r2)
section
variable {X:Cx}{e:Expr}{te:TE}{lo hi:Option Expr}{tl th:TO}{pos p2:Pos}
def rCatT (K:PySem.W.Frag):R2:=fun x y H Q => ∃ a b xs ys,x = .ref a∧y = .ref b∧SqT K H a xs∧SqT K H b ys∧xs≠[]∧xs.length+ys.length≤sizeLine ∧
 (ys=[]→Q (.ref a) H)∧(ys≠[] → ∀ p,H p=none→Q (.ref p) (upd H p (.tup (xs++ys))))
theorem Vals.nil_iff {xs:List V}{us:List Value} (r:Vals xs us):us=[]↔xs=[]:=by
 cases r with
 | nil=>simp
 | cons _ _=>simp
theorem op_catT:OpR X (binaryOp .Add) (rCatT X.K):=by
 intro pins s σ H x y v u Q I rx ry h
 obtain ⟨a,b,xs,ys,rfl,rfl,ha,hb,hx,hz,q1,q2⟩:=h
 cases rx
 cases ry
 obtain ⟨its,r1,p1,_⟩:=I.tuple ha
 obtain ⟨its2,r2,p2,_⟩:=I.tuple hb
 refine HT.cat_tup p1 p2 (fun z=>hx (r1.nil_iff.mp z)) (fun z=>⟨.ref a,H,I,rfl,q1 (r2.nil_iff.mp z)⟩) (fun z=>?_) (by rw [← r1.length,← r2.length];exact hz)
 refine ⟨.ref s.heap.objs.size,_,I.laid (t':=s.toks) (o :=.tup (xs++ys)) (fun b ob q=>Heap.get?_push_of_some _ q) (Nat.le_refl _) ?_,rfl,q2 (fun w=>z (r2.nil_iff.mpr w)) _ (I.hok.fresh (Nat.le_refl _))⟩
 exact ⟨by rw [List.length_append];exact hz,_,r1.append r2,IsTup.new _ _⟩
end
end L2
namespace L2
open PySem PySem.Spec PyProof.Rows
def ixN (n:Nat) (i:Int):Option Nat:=if 0≤i then (if i<n then some i.toNat else none) else if -(n:Int)≤i then some (i+n).toNat else none
def atI {α:Type} (xs:List α) (i:Int):Option α:=(ixN xs.length i).bind fun j=>xs[j]?
theorem ixN_seq {n:Nat}{i:Int}{j:Nat} (h:ixN n i=some j):seqIndex? i n=some j∧j<n ∧ -(n:Int)≤i∧i<n:=by
 unfold ixN at h
 by_cases h0:0≤i
 ·rw [if_pos h0] at h
  by_cases h1:i<n
  ·rw [if_pos h1] at h
   have e:i.toNat=j:=Option.some.inj h
   exact ⟨by rw [seqIndex_of h0 h1,e],by omega,by omega,h1⟩
  ·rw [if_neg h1] at h;cases h
 ·rw [if_neg h0] at h
  by_cases h1 : -(n:Int)≤i
  ·rw [if_pos h1] at h
   have e:(i+n).toNat=j:=Option.some.inj h
   exact ⟨by rw [seqIndex_neg (by omega) h1,e],by omega,h1,by omega⟩
  ·rw [if_neg h1] at h;cases h
theorem atI_get {α:Type}{xs:List α}{i:Int}{v:α} (h:atI xs i=some v) : ∃ j,seqIndex? i xs.length=some j∧xs[j]?=some v∧j<xs.length ∧ -(xs.length:Int)≤i∧i<xs.length:=by
 unfold atI at h
 cases e:ixN xs.length i with
 | none=>rw [e] at h;cases h
 | some j =>
  rw [e] at h
  obtain ⟨h1,h2,h3,h4⟩:=ixN_seq e
  exact ⟨j,h1,h,h2,h3,h4⟩
theorem atI_nat {α:Type}{xs:List α}{j:Nat}{v:α} (h:xs[j]?=some v):atI xs (j:Int)=some v:=by
 have hj:j<xs.length:=(List.getElem?_eq_some_iff.mp h).1
 have e:ixN xs.length (j:Int)=some j:=by
  unfold ixN
  rw [if_pos (by omega),if_pos (by omega)];simp
 unfold atI;rw [e];exact h
def PlainIx (b:Expr):Prop := ∀ o i,subscripted b false o i=operate [o,i] (getItem o i)
def IxR (X:Cx) (r:R2):Prop :=
 ∀ (value slice:Expr) (pins:List (Addr×Obj)) (s:Shared) (σ:St) (H:Hp) (x y:V) (v u:Value) (Q:VK),Inv X pins σ H s→RelV x v→RelV y u→r x y H Q →
  subscripted slice false v u=operate [v,u] (getItem v u)→wpAny (model X.prog X.w) X.A (subscriptTail value slice v u) (EP X pins σ Q) X.xe s
def MtR (X:Cx) (id:String) (r:V→List V→Hp→VK→Prop):Prop :=
 ∀ (pins:List (Addr×Obj)) (s:Shared) (σ:St) (H:Hp) (x:V) (xs:List V) (v:Value) (us:List Value) (Q:VK),Inv X pins σ H s→RelV x v→Vals xs us→r x xs H Q →
  wpAny (model X.prog X.w) X.A (call (.builtin id) (v::us)) (EP X pins σ Q) X.xe s
section
variable {X:Cx}{a b:Expr}{ta tb:TE}{pos:Pos}
theorem IxR.or {r r':R2} (h:IxR X r) (h':IxR X r'):IxR X (fun x y H Q=>r x y H Q∨r' x y H Q):=by
 intro value slice pins s σ H x y v u Q I rx ry q hs
 rcases q with q|q
 ·exact h value slice pins s σ H x y v u Q I rx ry q hs
 ·exact h' value slice pins s σ H x y v u Q I rx ry q hs
theorem pe_ix {r:R2} (hr:IxR X r) (ha:PE X a ta) (hb:PE X b tb) (hs:PlainIx b):PE X (.Subscript a b pos) (tOp r ta tb):=by
 intro pins s σ H Q I h
 exact Subscript_ (binT ha hb I h fun v u s2 x y H2 I2 rx ry q=>hr a b pins s2 σ H2 x y v u Q I2 rx ry q (hs _ _))
def rIxL (K:PySem.W.Frag):R2:=fun x y H Q => ∃ p xs i v,x = .ref p∧y = .int i∧SqL K H p xs∧atI xs i=some v∧Q v H
def rIxT (K:PySem.W.Frag):R2:=fun x y H Q => ∃ p xs i v,x = .ref p∧y = .int i∧SqT K H p xs∧atI xs i=some v∧Q v H
def rIxS:R2:=fun x y H Q => ∃ z i c,x = .str z∧y = .int i∧z.length≤sizeLine∧atI z.cps.toList i=some c∧Q (.str ⟨#[c]⟩) H
theorem ix_list:IxR X (rIxL X.K):=by
 intro value slice pins s σ H x y v u Q I rx ry h hs
 obtain ⟨p,xs,i,z,rfl,rfl,hq,he,q⟩:=h
 cases rx
 obtain ⟨t,rfl⟩:=ry
 obtain ⟨its,r,pl,hz⟩:=I.list hq
 obtain ⟨j,h1,h2,h3,h4,h5⟩:=atI_get he
 obtain ⟨w,ew,rw'⟩:=r.get h2
 have hl:=r.length
 have hn:=line63
 have fin:EP X pins σ Q w s:=⟨z,H,I,rw',q⟩
 by_cases h0:0≤i
 ·have hj:i.toNat=j:=by
   rw [seqIndex_of h0 h5] at h1
   exact Option.some.inj h1
  exact item_listR pl.isList h0 (by omega) (by rw [hj];simpa using ew) fin hs
 ·have hj:(i+(its.toArray.size:Int)).toNat=j:=by
   rw [seqIndex_neg (by omega) h4] at h1
   rw [List.size_toArray,← hl]
   exact Option.some.inj h1
  exact subscriptTail_builtinR (x:=w) pl.isList.typeIs slot_list_getitem.lookup
   (wpAny_getItem_list_neg (Q:=fun r s'=>r=w∧EP X pins σ Q r s') pl.isList (by omega) (by rw [List.size_toArray] <;> omega) (by omega) (by rw [hj];simpa using ew) ⟨rfl,fin⟩) hs
theorem ix_tup:IxR X (rIxT X.K):=by
 intro value slice pins s σ H x y v u Q I rx ry h hs
 obtain ⟨p,xs,i,z,rfl,rfl,hq,he,q⟩:=h
 cases rx
 obtain ⟨t,rfl⟩:=ry
 obtain ⟨its,r,pl,hz⟩:=I.tuple hq
 obtain ⟨j,h1,h2,h3,h4,h5⟩:=atI_get he
 obtain ⟨w,ew,rw'⟩:=r.get h2
 have hl:=r.length
 have hn:=line63
 have fin:EP X pins σ Q w s:=⟨z,H,I,rw',q⟩
 exact subscriptTail_builtinR (x:=w) pl.typeIs slot_tuple_getitem.lookup
  (getItem_tuple (j:=j) (Q:=fun r s'=>r=w∧EP X pins σ Q r s') pl (by omega) (by omega) (by rw [List.size_toArray,← hl];exact h1) (by simpa using ew) ⟨rfl,fin⟩) hs
theorem ix_str:IxR X rIxS:=by
 intro value slice pins s σ H x y v u Q I rx ry h hs
 obtain ⟨z,i,c,rfl,rfl,hz,he,q⟩:=h
 obtain ⟨t,rfl⟩:=rx
 obtain ⟨t',rfl⟩:=ry
 obtain ⟨j,h1,h2,h3,h4,h5⟩:=atI_get he
 have hl:z.cps.toList.length=z.length:=by simp [Str.length]
 rw [hl] at h1 h4 h5
 have hn:=line63
 exact tail_any (typeIs_str s z t) slot_str_getitem.lookup (getItem_str (c:=c) (by
  have e1:decide (i < -(2^63:Int))=false:=decide_eq_false (by omega)
  have e2:decide (i≥2^63)=false:=decide_eq_false (by omega)
  rw [e1,e2,Bool.or_false]) (by rw [h1];simpa using h2) ⟨.str ⟨#[c]⟩,H,I.tok _,⟨_,rfl⟩,q⟩) hs
def rIx (K:PySem.W.Frag):R2:=fun x y H Q=>rIxL K x y H Q∨rIxT K x y H Q∨rIxS x y H Q
theorem ix_seq:IxR X (rIx X.K):=ix_list.or (ix_tup.or ix_str)
theorem mapSeq_set (its:List Value) (n j:Nat) (u:Value):Obj.mapSeq (·.setIfInBounds j u) { cls :=.type "list",data :=.seq its.toArray n }={ cls :=.type "list",data :=.seq (its.set j u).toArray n }:=by
 simp [Obj.mapSeq]
theorem Inv.lst {pins:List (Addr×Obj)}{σ:St}{H:Hp}{s:Shared}{p:Addr}{xs:List V} (I:Inv X pins σ H s) (h:H p=some (.lst xs)) :
 ∃ (its:List Value) (n:Nat),Vals xs its∧s.heap.get? p=some { cls :=.type "list",data :=.seq its.toArray n }∧xs.length≤sizeLine:=by
  obtain ⟨z,its,n,r,e⟩:=I.hok p _ h
  exact ⟨its,n,r,e,z⟩
theorem Inv.lstUpd {pins:List (Addr×Obj)}{σ:St}{H:Hp}{s:Shared}{p:Addr}{xs ys:List V}{its its':List Value}{n n':Nat}{f:Obj→Obj} (I:Inv X pins σ H s) (h:H p=some (.lst xs))
 (ho:s.heap.get? p=some { cls :=.type "list",data :=.seq its.toArray n }) (hf:f { cls :=.type "list",data :=.seq its.toArray n }={ cls :=.type "list",data :=.seq its'.toArray n' }) (r:Vals ys its') (hz:ys.length≤sizeLine) (t:Nat) :
  Inv X pins σ (upd H p (.lst ys)) { s with heap:=s.heap.update p f,toks:=t }:=by
  have e:(s.heap.update p f).get? p=some { cls :=.type "list",data :=.seq its'.toArray n' }:=by
   rw [Heap.get?_update_self f ho (by rw [hf] <;> rfl),hf]
  refine I.write (x:=p) (e:=p) (by rw [h];trivial) (.inl rfl) (fun b u hb q=>(Heap.get?_update_other _ _ (Ne.symm hb)).trans q) ⟨_,e⟩ ?_
  exact ⟨hz,its',n',r,e⟩
def rSetL:V→V→V→Hp→(Hp→Prop)→Prop:=fun o i v H Q => ∃ p xs k j,o = .ref p∧i = .int k∧H p=some (.lst xs)∧ixN xs.length k=some j∧Q (upd H p (.lst (xs.set j v)))
theorem set_list:PSet X rSetL:=by
 intro pins s σ H o i v ov iv u Q I ro ri rv h
 obtain ⟨p,xs,k,j,rfl,rfl,hp,hj,q⟩:=h
 cases ro
 obtain ⟨t,rfl⟩:=ri
 obtain ⟨its,n,r,ho,hz⟩:=I.lst hp
 obtain ⟨h1,h2,h3,h4⟩:=ixN_seq hj
 have hl:=r.length
 have hn:=line63
 have I':Inv X pins σ (upd H p (.lst (xs.set j v))) { s with heap:=s.heap.update p (Obj.mapSeq (·.setIfInBounds j u)) } :=
  I.lstUpd hp ho (mapSeq_set its n j u) (r.set rv j) (by rw [List.length_set];exact hz) s.toks
 by_cases h0:0≤k
 ·have hk:k.toNat=j:=by
   rw [seqIndex_of h0 h4] at h1
   exact Option.some.inj h1
  exact PySem.W.ki_setAt ho h0 (by omega) (by rw [List.size_toArray,← hl];exact h4) (by rw [hk];exact ⟨_,I',q⟩)
 ·have hk:(k+(its.toArray.size:Int)).toNat=j:=by
   rw [seqIndex_neg (by omega) h3] at h1
   rw [List.size_toArray,← hl]
   exact Option.some.inj h1
  exact PySem.W.ki_setBack ho (by omega) (by rw [List.size_toArray,← hl];exact h3) (by omega) (by rw [hk];exact ⟨_,I',q⟩)
def flatV:V→Bool
 | .non=>true
 | .bl _=>true
 | .int _=>true
 | .str _=>true
 | _=>false
def eqV:V→V→Bool
 | .non,.non=>true
 | .bl a,.bl b=>a==b
 | .bl a,.int b=>(if a then 1 else 0)==b
 | .int a,.bl b=>a==(if b then 1 else 0)
 | .int a,.int b=>a==b
 | .str a,.str b=>a==b
 | _,_=>false
theorem eqAt_V {A:Around}{s:Shared}{y x:V}{u v:Value} (ry:RelV y u) (rx:RelV x v) (fy:flatV y=true) (fx:flatV x=true):SeqAt.EqAt A s u v (eqV y x):=by
 cases y with
 | non =>
  cases ry
  cases x with
  | non=>cases rx;exact SeqAt.EqAt.same _
  | bl b=>cases rx;exact SeqAt.EqAt.none_bool b
  | int b=>obtain ⟨t,rfl⟩:=rx;exact SeqAt.EqAt.none_int b t
  | str b=>obtain ⟨t,rfl⟩:=rx;exact SeqAt.EqAt.none_str b t
  | _=>exact absurd (show false=true from fx) Bool.false_ne_true
 | bl a =>
  cases ry
  cases x with
  | non=>cases rx;exact SeqAt.EqAt.bool_none a
  | bl b=>cases rx;exact SeqAt.EqAt.bool_bool a b
  | int b=>obtain ⟨t,rfl⟩:=rx;exact SeqAt.EqAt.bool_int a b t
  | str b=>obtain ⟨t,rfl⟩:=rx;exact SeqAt.EqAt.bool_str a b t
  | _=>exact absurd (show false=true from fx) Bool.false_ne_true
 | int a =>
  obtain ⟨t',rfl⟩:=ry
  cases x with
  | non=>cases rx;exact SeqAt.EqAt.int_none a t'
  | bl b=>cases rx;exact SeqAt.EqAt.int_bool a t' b
  | int b=>obtain ⟨t,rfl⟩:=rx;exact SeqAt.EqAt.int_int a t' b t
  | str b=>obtain ⟨t,rfl⟩:=rx;exact SeqAt.EqAt.int_str a t' b t
  | _=>exact absurd (show false=true from fx) Bool.false_ne_true
 | str a =>
  obtain ⟨t',rfl⟩:=ry
  cases x with
  | non=>cases rx;exact SeqAt.EqAt.str_none a t'
  | bl b=>cases rx;exact SeqAt.EqAt.str_bool a t' b
  | int b=>obtain ⟨t,rfl⟩:=rx;exact SeqAt.EqAt.str_int a t' b t
  | str b=>obtain ⟨t,rfl⟩:=rx;exact SeqAt.EqAt.str_str a t' b t
  | _=>exact absurd (show false=true from fx) Bool.false_ne_true
 | _=>exact absurd (show false=true from fy) Bool.false_ne_true
def eqU (x:V) (u:Value):Bool:=match u with
 | .none=>eqV .non x
 | .bool b=>eqV (.bl b) x
 | .int i _=>eqV (.int i) x
 | .str z _=>eqV (.str z) x
 | _=>false
theorem eqU_of {x y:V}{u:Value} (r:RelV y u) (f:flatV y=true):eqU x u=eqV y x:=by
 cases y with
 | non=>cases r;rfl
 | bl b=>cases r;rfl
 | int i=>obtain ⟨t,rfl⟩:=r;rfl
 | str z=>obtain ⟨t,rfl⟩:=r;rfl
 | _=>exact absurd (show false=true from f) Bool.false_ne_true
theorem any_eqU {x:V} : ∀ {xs:List V}{us:List Value},Vals xs us→xs.all flatV=true→us.any (eqU x)=xs.any fun y=>eqV y x
 | _,_,.nil,_=>rfl
 | y::xs,u::us,.cons r t,f=>by
  rw [List.all_cons,Bool.and_eq_true] at f
  rw [List.any_cons,List.any_cons,eqU_of r f.1,any_eqU t f.2]
theorem mem_eqAt {A:Around}{s:Shared}{x:V}{v:Value} (rx:RelV x v) (fx:flatV x=true) : ∀ {xs:List V}{us:List Value},Vals xs us→xs.all flatV=true → ∀ u ∈ us,SeqAt.EqAt A s u v (eqU x u)
 | _,_,.nil,_=>fun u hu=>by cases hu
 | y::xs,u::us,.cons r t,f=>fun u' hu=>by
  rw [List.all_cons,Bool.and_eq_true] at f
  rcases List.mem_cons.mp hu with rfl|hu
  ·rw [eqU_of r f.1];exact eqAt_V r rx f.1 fx
  ·exact mem_eqAt rx fx t f.2 u' hu
def inV (x:V) (xs:List V):Bool:=xs.any fun y=>eqV y x
def rIn (K:PySem.W.Frag) (neg:Bool):R2:=fun x y H Q => ∃ p xs,y = .ref p∧(SqL K H p xs∨SqT K H p xs)∧flatV x=true∧xs.all flatV=true∧Q (.bl (if neg then !inV x xs else inV x xs)) H
theorem op_in_seq:OpR X (compareOp .In) (rIn X.K false):=by
 intro pins s σ H x y v u Q I rx ry h
 obtain ⟨p,xs,rfl,hq,fx,fs,q⟩:=h
 cases ry
 rcases hq with hq|hq
 ·obtain ⟨its,r,pl,hz⟩:=I.list hq
  refine SeqAt.in_listAt (eqU x) pl.isList (fun w hw=>mem_eqAt rx fx r fs w (by simpa using hw)) ⟨.bl _,H,I,rfl,?_⟩
  rw [show its.toArray.any (eqU x)=its.any (eqU x) by simp,any_eqU r fs]
  exact q
 ·obtain ⟨its,r,pl,hz⟩:=I.tuple hq
  refine SeqAt.in_tupleAt (eqU x) pl (fun w hw=>mem_eqAt rx fx r fs w (by simpa using hw)) ⟨.bl _,H,I,rfl,?_⟩
  rw [show its.toArray.any (eqU x)=its.any (eqU x) by simp,any_eqU r fs]
  exact q
theorem call_len_seq:CallR X (.builtin "len") (fun xs H Q => ∃ p ys,xs=[.ref p]∧(SqL X.K H p ys∨SqT X.K H p ys)∧Q (.int ys.length) H):=by
 intro pins s σ H xs us Q I r h
 obtain ⟨p,ys,rfl,hq,q⟩:=h
 obtain ⟨u,rfl,rx⟩:=vals1 r
 cases rx
 have hn:=line63
 rcases hq with hq|hq
 ·obtain ⟨its,r',pl,hz⟩:=I.list hq
  have hlen:=r'.length
  exact Calls.call_len_list pl.isList (by simp only [List.size_toArray] <;> omega) ⟨.int ys.length,H,I.tok _,⟨s.toks+1,by rw [List.size_toArray,hlen]⟩,q⟩
 ·obtain ⟨its,r',pl,hz⟩:=I.tuple hq
  have hlen:=r'.length
  exact len_tuple pl (by simp only [List.size_toArray] <;> omega) ⟨.int ys.length,H,I.tok _,⟨s.toks+1,by rw [List.size_toArray,hlen]⟩,q⟩
theorem call_len_str:CallR X (.builtin "len") (fun xs H Q => ∃ z,xs=[.str z]∧z.length≤sizeLine∧Q (.int z.length) H):=by
 intro pins s σ H xs us Q I r h
 obtain ⟨z,rfl,hz,q⟩:=h
 obtain ⟨u,rfl,t,rfl⟩:=vals1 r
 have hn:=line63
 exact len_str (by omega) ⟨.int z.length,H,I.tok _,⟨_,rfl⟩,q⟩
theorem CallR.or {f:Value}{r r':List V→Hp→VK→Prop} (h:CallR X f r) (h':CallR X f r'):CallR X f (fun xs H Q=>r xs H Q∨r' xs H Q):=by
 intro pins s σ H xs us Q I rs q
 rcases q with q|q
 ·exact h pins s σ H xs us Q I rs q
 ·exact h' pins s σ H xs us Q I rs q
theorem call_tuple_of:CallR X (.type "tuple") (fun xs H Q => ∃ p ys,xs=[.ref p]∧((SqL X.K H p ys ∧ ∀ l,H l=none→Q (.ref l) (upd H l (.tup ys)))∨(SqT X.K H p ys∧Q (.ref p) H))):=by
 intro pins s σ H xs us Q I r h
 obtain ⟨p,ys,rfl,h⟩:=h
 obtain ⟨u,rfl,rx⟩:=vals1 r
 cases rx
 rcases h with ⟨hq,q⟩|⟨hq,q⟩
 ·obtain ⟨its,r',pl,hz⟩:=I.list hq
  have hlen:=r'.length
  refine call_tuple_list pl.isList (fun h' kp=>?_) (by simp only [List.size_toArray] <;> omega)
  have I1:Inv X pins σ H { s with heap:=h' }:=I.kept (t':=s.toks) kp
  have I2:Inv X pins σ (upd H h'.objs.size (.tup ys)) { s with heap:=h'.push { cls :=.type "tuple",data :=.seq its.toArray } } :=
   I1.laid (t':=s.toks) (fun b o e=>Heap.get?_push_of_some _ e) (Nat.le_refl _) (show ObjOk X.prog X.w _ _ _ (.tup ys) from ⟨hz,its,r',IsTup.new _ _⟩)
  exact ⟨.ref h'.objs.size,_,I2,rfl,q _ (I1.hok.fresh (Nat.le_refl _))⟩
 ·obtain ⟨its,r',pl,hz⟩:=I.tuple hq
  exact call_tuple_same pl ⟨.ref p,H,I,rfl,q⟩
def tyV (K:PySem.W.Frag) (T:String) (x:V) (H:Hp):Prop:=match x with
 | .str _=>T = "str"
 | .int _=>T = "int"
 | .ref p=>(T = "list" ∧ ∃ xs,SqL K H p xs)∨(T = "tuple" ∧ ∃ o,K.lookup p=some o∧o.cls = .type "tuple" ∧ o.dict=none) ∨
  (T = "dict" ∧ ((∃ kvs,H p=some (.dK kvs)) ∨ ∃ kvs,H p=some (.dT kvs)))∨(T = "set" ∧ ∃ S n,H p=some (.set S n))
 | _=>False
theorem tyV_is {pins:List (Addr×Obj)}{σ:St}{H:Hp}{s:Shared}{T:String}{x:V}{v:Value} (I:Inv X pins σ H s) (r:RelV x v) (ty:tyV X.K T x H) :
 s.TypeIs v T ∧ ∀ a,v = .ref a → ∃ ob,s.heap.get? a=some ob∧ob.dict=none:=by
  cases x with
  | str z =>
   obtain ⟨t,rfl⟩:=r
   cases (show T = "str" from ty)
   exact ⟨typeIs_str s z t,fun _ e=>nomatch e⟩
  | int i =>
   obtain ⟨t,rfl⟩:=r
   cases (show T = "int" from ty)
   exact ⟨typeIs_int s i t,fun _ e=>nomatch e⟩
  | ref p =>
   cases r
   rcases ty with ⟨rfl,xs,hq⟩|⟨rfl,o,hk,hc,hd⟩|⟨rfl,hk⟩|⟨rfl,S,n,hk⟩
   ·obtain ⟨its,_,pl,_⟩:=I.list hq
    refine ⟨pl.isList.typeIs,fun a e=>?_⟩
    cases e
    obtain ⟨o,n,e,c,hd,_⟩:=pl
    exact ⟨o,e,hd⟩
   ·refine ⟨⟨o,I.kIn p o hk,hc⟩,fun a e=>?_⟩
    cases e
    exact ⟨o,I.kIn _ o hk,hd⟩
   ·have z : ∃ o,s.heap.get? p=some o∧o.ExactDict:=by
     rcases hk with ⟨kvs,hk⟩|⟨kvs,hk⟩
     ·obtain ⟨_,_,_,_,o,_,_,e,ex,_⟩:=I.hok p _ hk
      exact ⟨o,e,ex⟩
     ·obtain ⟨_,_,_,_,o,_,_,e,ex,_⟩:=I.hok p _ hk
      exact ⟨o,e,ex⟩
    obtain ⟨o,e,ex⟩:=z
    refine ⟨⟨o,e,ex.1⟩,fun a e2=>?_⟩
    cases e2
    exact ⟨o,e,ex.2.1⟩
   ·obtain ⟨o,_,_,_,e,ex,_⟩:=I.hok p _ hk
    refine ⟨⟨o,e,ex.1⟩,fun a e2=>?_⟩
    cases e2
    exact ⟨o,e,ex.2.1⟩
  | _=>exact False.elim ty
def tBM (K:PySem.W.Frag) (T:String) (r:V→List V→Hp→VK→Prop) (to:TE) (t:TA):TE:=fun σ H Q=>to σ H fun x H1=>tyV K T x H1∧t σ H1 fun xs H2=>r x xs H2 Q
variable {o e:Expr}{es:List Expr}{to:TE}{t:TA}{name:Str}{apos cpos:Pos}{T id:String}{r:V→List V→Hp→VK→Prop}
theorem pe_bm (pa:PlainAttrs T) (slot:Slot T name id) (hty:typeOf (.builtin id)=pure (.type "method_descriptor")) (hm:MtR X id r) (ho:PE X o to) (ha:PA X (e::es) t)
 (hbase:attributeBase o name X.env (eval o X.env)=eval o X.env:=by rfl)
  (hfew:((backTo cpos (starEach (e::es) X.env)).all (fun x => !x.1)&&(backToKw cpos (keywordEach [] X.env)).all (fun x=>x.1.isSome)
   && decide ((e::es).length+([]:List Keyword).length+(if ([]:List Keyword).isEmpty then 0 else 1)<30))=true:=by rfl)
  (hline:(apos.endLine==cpos.line)=true:=by rfl) (hs:starEach (e::es) X.env=(false,eval e X.env)::starEach es X.env:=by rfl) (hplain:(backTo cpos (starEach es X.env)).any (·.1)=false:=by rfl) :
  PE X (.Call (.Attribute o name apos) (e::es) [] cpos) (tBM X.K T r to t):=by
  intro pins s σ H Q I h
  refine wpAny_Call_method_late hbase hfew hline rfl (thn (ho pins s σ H _ I h) fun v s1 xx51=>?_)
  obtain ⟨x,H1,I1,r1,ty,q1⟩:=xx51
  obtain ⟨h1,h2⟩:=tyV_is I1 r1 ty
  refine ⟨T,id,pa,slot,hty,h1,h2,?_⟩
  have hA:=ha cpos pins s1 σ H1 _ I1 q1
  rw [hs] at hA ⊢
  refine Calls.callWith_builtin (by show (false||(backTo cpos (starEach es X.env)).any (·.1))=false;rw [hplain] <;> rfl) (Calls.evalArgs_plain ?_)
  exact thn hA fun us s2 xx50=>by obtain ⟨vs,H2,I2,r2,q2⟩:=xx50;exact hm pins s2 σ H2 x vs v us Q I2 r1 r2 q2
/- xs.append(e),list.index on a module's tuple .. are MtR facts of 06m -/
end
end L2
namespace L2
open PySem PySem.Spec PyProof.Rows
def MtM (X:Cx) (id:String) (r:V→List V→Hp→VK→Prop):Prop :=
 ∀ (pins:List (Addr×Obj)) (s:Shared) (σ:St) (H:Hp) (x:V) (xs:List V) (v:Value) (us:List Value) (Q:VK),Inv X pins σ H s→RelV x v→Vals xs us→r x xs H Q →
  wpAny (model X.prog X.w) X.A (call (.builtin id) (v::us)) (EP X pins σ Q) X.xe s
theorem Vals.one : ∀ {x:V}{us:List Value},Vals [x] us → ∃ u,us=[u]∧RelV x u
 | _,_,.cons r .nil=>⟨_,rfl,r⟩
theorem Vals.two : ∀ {x y:V}{us:List Value},Vals [x,y] us → ∃ u v,us=[u,v]∧RelV x u∧RelV y v
 | _,_,_,.cons r (.cons q .nil)=>⟨_,_,rfl,r,q⟩
theorem Vals.rep {xs:List V}{us:List Value} (h:Vals xs us) : ∀ k:Nat,Vals (List.replicate k xs).flatten (List.replicate k us).flatten
 | 0 => .nil
 | k+1=>by
  rw [List.replicate_succ,List.replicate_succ,List.flatten_cons,List.flatten_cons]
  exact Vals.append h (Vals.rep h k)
section
variable {X:Cx}{pins:List (Addr×Obj)}{σ:St}{H:Hp}{s:Shared}{l b:Addr}{xs ys zs:List V}
theorem Inv.lset {its its':List Value}{n:Nat}{f:Array Value→Array Value}{t':Nat} (I:Inv X pins σ H s) (hH:H l=some (.lst xs))
 (e:s.heap.get? l=some { cls :=.type "list",data :=.seq its.toArray n }) (hf:f its.toArray=its'.toArray) (hv:Vals ys its') (hz:ys.length≤sizeLine) :
  Inv X pins σ (upd H l (.lst ys)) { s with heap:=s.heap.update l (Obj.mapSeq f),toks:=t' }:=by
  have q:=PySem.IsL.update e f
  rw [hf] at q
  refine I.write (x:=l) (e:=l) (by rw [hH];exact trivial) (.inl rfl) (fun b' u hb hu=>(Heap.get?_update_other s.heap (Obj.mapSeq f) (Ne.symm hb)).trans hu) ⟨_,q⟩ ?_
  exact ⟨hz,its',_,hv,q⟩
theorem Inv.lnew {its:List Value}{t':Nat} (I:Inv X pins σ H s) (hv:Vals ys its) (hz:ys.length≤sizeLine) :
 Inv X pins σ (upd H s.heap.objs.size (.lst ys)) { s with heap:=s.heap.push { cls :=.type "list",data :=.seq its.toArray },toks:=t' } :=
  I.laid (fun _ _ q=>Heap.get?_push_of_some _ q) (Nat.le_refl _) ⟨hz,its,0,hv,Heap.get?_push_size _ rfl⟩
theorem Inv.fresh (I:Inv X pins σ H s):H s.heap.objs.size=none:=I.hok.fresh (Nat.le_refl _)
theorem Inv.lstM (I:Inv X pins σ H s) (hH:H l=some (.lst xs)):xs.length≤sizeLine ∧ ∃ (its:List Value) (n:Nat),Vals xs its∧xs.length=its.length∧s.heap.get? l=some { cls :=.type "list",data :=.seq its.toArray n }:=by
 obtain ⟨z,its,n,r,e⟩:=I.hok l _ hH
 exact ⟨z,its,n,r,r.length,e⟩
end
section
variable {X:Cx}
def rAppend:V→List V→Hp→VK→Prop:=fun x vs H Q => ∃ l xs y,x = .ref l∧vs=[y]∧H l=some (.lst xs)∧xs.length<sizeLine∧Q .non (upd H l (.lst (xs++[y])))
theorem mt_append:MtM X "list.append" rAppend:=by
 intro pins s σ H x vs v us Q I rx rv h
 obtain ⟨l,xs,y,rfl,rfl,hH,hz,q⟩:=h
 cases rx
 obtain ⟨u,rfl,ru⟩:=rv.one
 obtain ⟨z,its,n,r,hl,e⟩:=I.lstM hH
 refine call_meets F.slot_list_append ⟨_,e,rfl⟩ F.entry_list_append (F.args_list_append_2 _ _) (PySem.list_append l its.toArray n u (by rw [List.size_toArray];omega)) ⟨e,?_⟩
 refine ⟨.non,_,I.lset (its':=its++[u]) hH e (by simp) (r.append (.cons ru .nil)) ?_,rfl,q⟩
 rw [List.length_append,List.length_singleton]
 omega
end
section
variable {prog:Program}{w:World}{A:Around}{E:Value→Shared→Prop}{s:Shared}
end
section
variable {X:Cx}
end
end L2
namespace Att
open PySem PySem.W PySem.Calls PyProof.Rows
theorem ints_of_wellAll {P:Params}{h:Heap} : ∀ (ns:List Int) (vs:List Value),WellAll P h vs (ns.map WData.int)→IntsAre vs ns:=by
 intro ns
 induction ns with
 | nil =>
  intro vs w
  rw [List.map_nil] at w
  cases w
  exact .nil
 | cons n ns ih =>
  intro vs w
  rw [List.map_cons] at w
  cases w with
  | cons a b =>
   cases a
   exact .cons _ _ (ih _ b)
theorem script_of {l:OpenLaw}{n:Nat} (hn:l.most=some n) {P:Params}{h:Heap}{args:List WData}{vals:List Value}
 (hpre:l.row.toRowW.claim.pre args=true) (hwl:WellAll P h vals args) :
 ∃ a vs ns,vals=[Value.ref a]∧args=[WData.list (ns.map WData.int)]∧h.get? a=some { cls :=.type "list",data :=.seq vs.toArray }∧IntsAre vs ns∧ns.length≤n:=by
  have hsh:WShape.hasAll [] args [.list .int]=true:=(pre_splitW hpre).1
  have hc:l.pre.holds [] { args:=args }=true:=(pre_splitW hpre).2
  obtain ⟨d,r,rfl,h1,h2⟩:=hasAllW_cons hsh
  obtain rfl:=hasAllW_nil h2
  obtain ⟨xs,rfl,h3⟩:=hasW_list h1
  obtain ⟨ns,rfl⟩:=items_int h3
  have hlen:ns.length≤n:=by
   unfold OpenLaw.pre at hc
   have h4:(WTm.not (.lt (.lit (.int (n:Int))) (.len (.arg 0)))).holds [] { args:=[.list (ns.map .int)] }=true:=by
    have h4:=(holds_andW hc).1
    rw [hn] at h4
    exact h4
   have h5:=condW_of h4 (w_not (w_lt w_lit (w_len_list (w_arg rfl))))
   rw [List.length_map] at h5
   refine Nat.le_of_not_lt fun q=>?_
   have q':(n:Int)<((ns.length:Nat):Int):=by omega
   first
    | (rw [decide_eq_true q'] at h5;exact absurd h5 (by decide))
    | (simp at h5;omega)
  cases hwl with
  | cons w1 w2 =>
   cases w2
   cases w1 with
   | list ho hall=>exact ⟨_,_,ns,rfl,rfl,ho,ints_of_wellAll ns _ hall,hlen⟩
theorem post_true (l:OpenLaw) (args:List WData):l.row.toRowW.claim.post args (.bool true) args=true :=
 postW_of (r:=l.row.toRowW) (X:=(true==true))
  (show WShape.has [] (.bool true) .bool=true by first|rfl|decide|simp [WShape.has,WShape.arms,WShape.armsAll])
  (show (WTm.eq .res (.lit (.bool true))).value [] { args:=args,res:=some (.bool true),after:=args }=some (.bool (true==true)) from w_eq_bool (w_res rfl) w_lit) rfl
theorem attach_call {l:OpenLaw}{n:Nat}{q:Program}{loose:List Str}{XP:(Str→Option Value)→Heap→Prop}{YP:World→Heap→Prop}{d:DefRec}
 (hn:l.most=some n) (hdf:d.params.defaults=[])
 (call : ∀ (w:World) (s₀ s₁:Shared) (mg mb:Str→Option Value) (fa:Addr) (o:Obj) (pm cd doc:Value) (a:Addr) (vs:List Value) (ns:List Int),
 Ground q loose [] XP w s₀ mg mb s₁.heap→YP w s₁.heap →
 s₁.heap.get? fa=some o→o.data = .func (docDef d.name d.params d.body d.scope pm cd doc)→s₁.heap.CodeRec cd d.name→mg d.name=some (.ref fa) →
 s₁.heap.get? a=some { cls :=.type "list",data :=.seq vs.toArray }→IntsAre vs ns→ns.length≤n→s₁.gens = #[] →
  codeAny (model l.prog w) callerA (.call (.ref fa) ⟨[.ref a],[]⟩) (fun r s'=>r = .ok (.ret (.bool true))∧OldK s₁.heap s'.heap∧s'.os=s₁.os∧AllBare s'.gens) s₁) :
  WalkO q loose XP YP l.row.toRowW d [] (fun f vs=>PySem.call f vs):=by
  intro w s₀ s₁ mg mb G Y fa o pm cd doc dV kV ho hd hcd hD hmg hg args vals as hpre hlay hrd hwl hlo
  obtain rfl:dV = .none:=Dflts.none hD hdf
  obtain rfl:kV = .none:=Dflts.noKw hD
  obtain ⟨a,vs,ns,rfl,rfl,hobj,hints,hlen⟩:=script_of hn hpre hwl
  refine enter_call (codeAny_mono (call w s₀ s₁ mg mb fa o pm cd doc a vs ns G Y ho (fd_plain hd) hcd hmg hobj hints hlen hg) fun r s' hq=>?_)
  obtain ⟨rfl,h2,h3,h4⟩:=hq
  exact ⟨.inl ⟨.bool true,.bool true,[],rfl,fun _=>rfl,.bool true,post_true l _,fun _=>⟨List.Pairwise.nil,fun _ hm=>(nomatch hm)⟩⟩,h2,h3,h4⟩
section
variable {prog:Program}{w:World}{A:Around}{E:Value→Shared→Prop}{s:Shared}{K:Frag}
end
end Att
namespace L2
open PySem PySem.Spec PyProof.Rows
theorem vals_ints : ∀ {vs:List Value}{ns:List Int},IntsAre vs ns→Vals (ns.map V.int) vs
 | _,_,.nil => .nil
 | _,_,.cons n t h => .cons ⟨t,rfl⟩ (vals_ints h)
end L2
namespace L2
open PySem PySem.Spec PyProof.Rows
end L2
namespace L2
open PySem PySem.Spec PyProof.Rows
def defArgs (s:Stmt):Arguments:=match s with
 | .FunctionDef _ a _ _ _ _ _ _ _ _=>a
 | _=>{ posonlyargs:=[],args:=[],vararg:=none,kwonlyargs:=[],kw_defaults:=[],kwarg:=none,defaults:=[] }
def defBody (s:Stmt):List Stmt:=match s with
 | .FunctionDef _ _ b _ _ _ _ _ _ _=>b
 | _=>[]
def defScope (s:Stmt):Scope:=match s with
 | .FunctionDef _ _ _ _ _ _ sc _ _ _=>sc
 | _=>{ kind :=.function,names:=[],isGenerator:=false,isCoroutine:=false }
abbrev CX0:CXT:=fun _ _ _ _ _ _=>False
abbrev E0:XK:=fun _ _ _=>False
theorem pass0 {X:Cx}:Passes CX0 X E0:=fun _ _ _ _ _ _ _ h=>h.elim
structure Fun (K:PySem.W.Frag) (x qual:Str) (st:Stmt) (f:Addr) (fd:FuncData):Prop where
 ex : ∃ (oc:Value) (od:Option Addr) (kV doc pm:Value) (an:Option Addr) (cdv ct:Value) (osl:Array (Option Value)),
  fd=PySem.W.fnOf x qual (defArgs st) (defBody st) (defScope st) .none kV doc pm an cdv ct∧K.lookup f=some ⟨oc,od,.func fd,osl⟩∧PySem.W.codeIn K cdv qual=true
 kp:PySem.W.keepIn K (.ref f)=true
section
variable {P:Program}{w:World}{K:PySem.W.Frag}{mg:Str→Option Value}{base:Heap}
theorem Fun.ok {x qual:Str}{st:Stmt}{f:Addr}{fd:FuncData}{N ps:List Str}{k:Nat}{sp:Sp} (F:Fun K x qual st f fd) (S:FnScope N ps (defScope st)) (len : ∀ vs H Q E,sp vs H Q E→vs.length=ps.length)
 (hbody : ∀ (cdv:Value) (A:Around) (outer:List Env) (s:Shared) (H:Hp) (vs:List V) (Q:VK) (E:XK),Room k (A.deeper (envOfC qual (defScope st) s.heap.objs.size f cdv))→sp vs H Q E →
 ∃ t,PSs (cxOf CX0 P w K mg base N qual (defScope st) f cdv A outer s H E).nox (defBody st) t∧t { nx:=fun _ H'=>Q .non H',rt:=Q } (start N vs) H):FnOk P w K mg base CX0 (k+1) f fd ps sp:=by
  obtain ⟨oc,od,kV,doc,pm,an,cdv,ct,osl,rfl,lk,hcd⟩:=F.ex
  refine fn_of lk hcd S len fun A outer s H vs Q E hr hsp=>?_
  obtain ⟨t,h,q⟩:=hbody cdv A outer s H vs Q E hr hsp
  exact ⟨t,h.nox,q⟩
theorem Fun.binds {x qual:Str}{st:Stmt}{f:Addr}{fd:FuncData}{ps:List Str} (F:Fun K x qual st f fd)
 (h : ∀ (kV doc pm:Value) (an:Option Addr) (cdv ct:Value) (us:List Value),us.length=ps.length→bindArgs (PySem.W.fnOf x qual (defArgs st) (defBody st) (defScope st) .none kV doc pm an cdv ct) ⟨us,[]⟩=pure (ps.zip us)):Binds K fd ps []:=by
  obtain ⟨oc,od,kV,doc,pm,an,cdv,ct,osl,rfl,lk,hcd⟩:=F.ex
  exact .all (h kV doc pm an cdv ct)
theorem fun_mk {x qual:Str}{st:Stmt}{f:Addr}{oc:Value}{od an:Option Addr}{osl:Array (Option Value)}{kV doc pm cdv ct:Value} (l:K.lookup f=some ⟨oc,od,.func (PySem.W.fnOf x qual (defArgs st) (defBody st) (defScope st) .none kV doc pm an cdv ct),osl⟩)
 (c:PySem.W.codeIn K cdv qual=true) (k:PySem.W.keepIn K (.ref f)=true):Fun K x qual st f (PySem.W.fnOf x qual (defArgs st) (defBody st) (defScope st) .none kV doc pm an cdv ct):=⟨⟨oc,od,kV,doc,pm,an,cdv,ct,osl,rfl,l,c⟩,k⟩
end
theorem small1000 {n:Nat} (h:n≤1000):n<sizeLine:=Nat.lt_of_le_of_lt h (by decide)
section
variable {X:Cx}
theorem pv (i:Nat) {x:Str}{pos:Pos} (hN:X.N[i]?=some x:=by rfl) (hv:Vis X.env.scope x:=by first|exact Or.inl rfl|exact Or.inr (Or.inl rfl)|exact Or.inr (Or.inr rfl)) (hd:(x==("__debug__" : Str))=false:=by decide)
 (hcd:(x==("__classdict__" : Str))=false:=by decide):PE X (.Name x pos) (tVar i):=pe_var hN hv hd hcd
end
theorem iteF {A B:Prop} (h:B):if false=true then A else B:=by
 rw [if_neg Bool.false_ne_true]
 exact h
theorem iteT {A B:Prop} (h:A):if true=true then A else B:=by
 rw [if_pos rfl]
 exact h
theorem iteNS {c A B:Prop} [Decidable c] (hc:c) (h:B):if (!decide c)=true then A else B:=by
 rw [decide_eq_true hc]
 exact iteF h
def NoT:HO→Prop
 | .tbl _=>False
 | _=>True
structure Kp (o:HO) (x:Option HO):Prop where
 to:NoT o→x=some o
 tb : ∀ ps,o = .tbl ps → ∃ ps',x=some (.tbl ps')
theorem Kp.of {o:HO}{x:Option HO} (h:x=some o):Kp o x:=⟨fun _=>h,fun ps e=>⟨ps,by rw [h,e]⟩⟩
def Same (H H':Hp):Prop := ∀ b o,H b=some o→Kp o (H' b)
theorem tbl_or (o:HO):NoT o ∨ ∃ ps,o = .tbl ps:=by
 cases o <;> first|exact .inr ⟨_,rfl⟩|exact .inl trivial
theorem Same.of {H H':Hp} (h : ∀ b o,H b=some o→H' b=some o):Same H H':=fun b o e => .of (h b o e)
theorem Same.at {H H':Hp} (s:Same H H') {b:Addr}{o:HO} (e:H b=some o) (n:NoT o:=by trivial):H' b=some o:=(s b o e).to n
theorem Same.any {H H':Hp} (s:Same H H') {b:Addr}{o:HO} (e:H b=some o) : ∃ o',H' b=some o':=by
 rcases tbl_or o with n|⟨ps,rfl⟩
 ·exact ⟨o,(s b o e).to n⟩
 ·obtain ⟨ps',e'⟩:=(s b _ e).tb ps rfl
  exact ⟨_,e'⟩
theorem Same.refl (H:Hp):Same H H :=.of fun _ _ h=>h
theorem Same.trans {H H1 H2:Hp} (a:Same H H1) (b:Same H1 H2):Same H H2:=fun c o h=>⟨fun n=>(b c o ((a c o h).to n)).to n,fun ps e=>let ⟨ps',e'⟩:=(a c o h).tb ps e; (b c _ e').tb ps' rfl⟩
theorem Same.free {H H':Hp} (e:Same H H') {l:Addr} (h:H' l=Option.none):H l=Option.none:=by
 cases q:H l with
 | none=>rfl
 | some o =>
  obtain ⟨o',z⟩:=e.any q
  rw [z] at h
  cases h
theorem Same.seq {K:PySem.W.Frag}{H H':Hp}{a:Addr}{xs:List V} (e:Same H H') (h:SqL K H a xs):SqL K H' a xs:=by
 rcases h with (h|⟨o,h⟩)|h
 ·exact .inl (.inl (e.at h))
 ·exact .inl (.inr ⟨o,e.at h⟩)
 ·exact .inr h
end L2
namespace L2
open PySem PySem.Spec PyProof.Rows
def DictIs (h:Heap) (d:Addr) (es:Array DictEntry) (ep:Nat):Prop := ∃ o,h.get? d=some o∧o.ExactDict∧o.data = .dict es ep
section
variable {P:Program}{w:World}{A:Around}{E:Value→Shared→Prop}{s:Shared}{d:Addr}{es:Array DictEntry}{ep:Nat}
theorem dx_len0 {Q:Value→Shared→Prop} (hd:(d==sysModules)=false) (x:DictIs s.heap d es ep) (q:Q (.int (es.size:Int) s.toks) { s with toks:=s.toks+1 }):wpAny (model P w) A (call (.builtin "dict.__len__") [.ref d]) Q E s:=by
 obtain ⟨o,h1,h2,h3⟩:=id x
 refine wpAny_call_entry F.slot_dict_len ⟨o,h1,h2.1⟩ F.entry_dict_len ?_ (F.args_dict_len_1 _)
 unfold Builtin.«dict.__len__» Builtin.Dict.dictSlotNone Builtin.Dict.pendingCount dictSize
 wp_walk using wpAny_notOrdered_dict ⟨o,h1,h2.1⟩,wpAny_dictEntries h1 h3
 exact ⟨_,rfl,by simpa using q⟩
theorem dx_len {Q:Value→Shared→Prop} (hd:(d==sysModules)=false) (x:DictIs s.heap d es ep) (hz:es.size≤1000) (q:Q (.int (es.size:Int) (s.toks+1)) { s with toks:=s.toks+1+1 }):wpAny (model P w) A (call (.builtin "len") [.ref d]) Q E s:=by
 obtain ⟨o,h1,h2,h3⟩:=id x
 exact call_len_slot ⟨o,h1,h2.1⟩ F.slot_dict_len (fun Q' q'=>dx_len0 hd x q') (by omega) (by omega) q
end
abbrev PKy:=List (Int×Int)
def pk1 (p:Int×Int):List Key:=[.inl p.1,.inl p.2]
theorem pk1_inj {p q:Int×Int} (h:pk1 p=pk1 q):p=q:=by
 unfold pk1 at h
 injection h with h1 h2
 injection h1 with h1
 injection h2 with h2 _
 injection h2 with h2
 exact Prod.ext h1 h2
section
variable (P:Program) (w:World)
def Its2 (h:Heap):PKy→List Value→Prop
 | [],vs=>vs=[]
 | p::k,vs => ∃ c r,vs = .ref c::r∧(tupleKind (mixKind P w)).is h (pk1 p) c∧Its2 h k r
def IsPK (h:Heap) (k:PKy) (a:Addr):Prop := ∃ o items n,h.get? a=some o∧o.cls = .type "tuple" ∧ o.data = .seq items n∧Its2 P w h k items.toList
def pkHs (k:PKy):List Int:=k.map fun p=>(tupleKind (mixKind P w)).hash (pk1 p)
end
section
variable {P:Program}{w:World}{h h':Heap}{k k':PKy}{vs:List Value}{a:Addr}
theorem Its2.inj : ∀ {k k':PKy}{vs:List Value},Its2 P w h k vs→Its2 P w h k' vs→k=k'
 | [],[],_,_,_=>rfl
 | [],_::_,_,h1,h2=>by
  obtain ⟨c,r,e,_⟩:=h2
  rw [show _=[] from h1] at e;cases e
 | _::_,[],_,h1,h2=>by
  obtain ⟨c,r,e,_⟩:=h1
  rw [show _=[] from h2] at e;cases e
 | p::k,q::k',_,h1,h2=>by
  obtain ⟨c,r,rfl,i1,r1⟩:=h1
  obtain ⟨c',r',e,i2,r2⟩:=h2
  injection e with e1 e2
  injection e1 with e1
  subst e1 e2
  rw [pk1_inj ((tupleKind (mixKind P w)).inj i1 i2),Its2.inj r1 r2]
theorem Its2.len : ∀ {k:PKy}{vs:List Value},Its2 P w h k vs→vs.length=k.length
 | [],_,h1=>by rw [show _=[] from h1];rfl
 | _::_,_,h1=>by
  obtain ⟨c,r,rfl,_,r1⟩:=h1
  rw [List.length_cons,List.length_cons,Its2.len r1]
theorem Its2.keep (kk : ∀ q c,(tupleKind (mixKind P w)).is h q c→(tupleKind (mixKind P w)).is h' q c) : ∀ {k:PKy}{vs:List Value},Its2 P w h k vs→Its2 P w h' k vs
 | [],_,h1=>h1
 | _::_,_,h1=>by
  obtain ⟨c,r,e,i,r1⟩:=h1
  exact ⟨c,r,e,kk _ _ i,Its2.keep kk r1⟩
theorem Its2.at : ∀ {k:PKy}{vs:List Value}{j:Nat}{v:Value},Its2 P w h k vs→vs[j]?=some v → ∃ p c,k[j]?=some p∧v = .ref c∧(tupleKind (mixKind P w)).is h (pk1 p) c
 | [],_,j,v,h1,e=>by rw [show _=[] from h1] at e;cases e
 | p::k,_,0,v,h1,e=>by
  obtain ⟨c,r,rfl,i,r1⟩:=h1
  cases e
  exact ⟨p,c,rfl,rfl,i⟩
 | p::k,_,j+1,v,h1,e=>by
  obtain ⟨c,r,rfl,i,r1⟩:=h1
  exact Its2.at (k:=k) r1 (by simpa using e)
end
section
variable {P:Program}{w:World}{A:Around}{E:Value→Shared→Prop}{s:Shared}{k:PKy}{a:Addr}
theorem pk_loop {Q:Array Int→Shared→Prop} (hu:A.units<cLine) : ∀ {k:PKy}{vs:List Value}{s:Shared} (hs:Array Int),Its2 P w s.heap k vs →
 Q (hs++(pkHs P w k).toArray) { s with toks:=s.toks+3*k.length } →
    wpAny (model P w) A (forIn vs hs fun x r=>do
     let h ← pyHash x
     pure (ForInStep.yield (r.push h))) Q E s
  | [],_,s,hs,h1,q=>by
   rw [show _=[] from h1]
   rw [List.forIn_nil]
   refine wpAny_pure ?_
   simpa [pkHs] using q
  | p::k,_,s,hs,h1,q=>by
   obtain ⟨c,r,rfl,i,r1⟩:=h1
   rw [List.forIn_cons]
   refine wpAny_bind (wpAny_bind ((tupleKind (mixKind P w)).pyHash hu i (wpAny_pure ?_)))
   refine pk_loop hu _ r1 ?_
   have e1:hs.push ((tupleKind (mixKind P w)).hash (pk1 p))++(pkHs P w k).toArray=hs++(pkHs P w (p::k)).toArray:=by
    unfold pkHs;rw [List.map_cons];simp
   have e2:s.toks+(tupleKind (mixKind P w)).draws (pk1 p)+3*k.length=s.toks+3*(p::k).length:=by
    show s.toks+3+3*k.length=_
    rw [List.length_cons];omega
   rw [e1]
   show Q _ { s with toks:=s.toks+(tupleKind (mixKind P w)).draws (pk1 p)+3*k.length }
   rw [e2];exact q
theorem pk_hash {Q:Int→Shared→Prop} (hu:A.units+1<cLine) (i:IsPK P w s.heap k a) (q:Q (reduceHash (Builtin.Tuple.tupleHashOf (pkHs P w k))) { s with toks:=s.toks+(3*k.length+1) }):wpAny (model P w) A (pyHash (.ref a)) Q E s:=by
 obtain ⟨o,items,n,h1,h2,h3,h4⟩:=i
 have ty:s.TypeIs (.ref a) "tuple":=⟨o,h1,h2⟩
 unfold pyHash
 refine PySem.W.pyHash_slot ty F.slot_tuple_hash F.entry_tuple_hash (F.args_tuple_hash_1 _) (by decide) (.inr (by omega)) ?_
 unfold Builtin.«tuple.__hash__» Builtin.Tuple.tupleItemsOf seqItems?
 refine wpAny_bind (wpAny_pure (wpAny_bind (wpAny_bind (wpAny_bind (wpAny_load h1 ?_)))))
 rw [h3]
 refine wpAny_pure (wpAny_pure ?_)
 rw [← Array.forIn_toList]
 refine wpAny_bind (pk_loop hu #[] h4 ?_)
 wp_walk
 refine ⟨_,_,rfl,?_⟩
 simpa [Nat.add_assoc] using q
theorem pk_qloop {Q:Option Bool×Unit→Shared→Prop} (f:Value→Sem Bool) (hf : ∀ p c s' (Q':Bool→Shared→Prop),(tupleKind (mixKind P w)).is s'.heap (pk1 p) c→Q' true s'→wpAny (model P w) A (f (.ref c)) Q' E s') : ∀ {k:PKy}{vs:List Value}{s:Shared},Its2 P w s.heap k vs→Q (none,()) s →
 wpAny (model P w) A (forIn vs ((none,()):Option Bool×Unit) fun y _=>do
 let b ← f y
 if (!b)=true then pure (ForInStep.done (some false,())) else pure (ForInStep.yield (none,()))) Q E s
  | [],_,s,h1,q=>by
   rw [show _=[] from h1,List.forIn_nil]
   exact wpAny_pure q
  | p::k,_,s,h1,q=>by
   obtain ⟨c,r,rfl,i,r1⟩:=h1
   rw [List.forIn_cons]
   refine wpAny_bind (wpAny_bind (hf p c s _ i ?_))
   exact wpAny_pure (pk_qloop f hf r1 q)
theorem tup_sub:isSubtype (.type "tuple") (.type "tuple")=pure true:=by first|rfl|decide
theorem pk_quiet {Q:Bool→Shared→Prop} (i:IsPK P w s.heap k a) (q:Q true s):wpAny (model P w) A (eqIsQuiet 8 (.ref a)) Q E s:=by
 have q7 : ∀ (p:Int×Int) (c:Addr) (s':Shared) (Q':Bool→Shared→Prop),(tupleKind (mixKind P w)).is s'.heap (pk1 p) c→Q' true s'→wpAny (model P w) A (eqIsQuiet 7 (.ref c)) Q' E s':=fun p c s' Q' xx52 q'=>by
  obtain ⟨o,items,n,h1,h2,h3,h4⟩:=xx52
  have ty:s'.TypeIs (.ref c) "tuple":=⟨o,h1,h2⟩
  unfold eqIsQuiet
  refine wpAny_bind (wpAny_specialOf ty F.slot_tuple_eq.lookup ?_)
  refine wpAny_bind (wpAny_isInstance (b:=true) ty tup_sub ?_)
  show wpAny _ _ (seqItems? (.ref c) >>= _) _ _ _
  unfold seqItems?
  refine wpAny_bind (wpAny_bind (wpAny_load h1 ?_))
  rw [h3]
  refine wpAny_pure ?_
  show wpAny _ _ (forIn items _ _ >>= _) _ _ _
  rw [← Array.forIn_toList]
  have vals : ∀ x ∈ items.toList,carriedByValue x=true:=by
   have all : ∀ {ks:List Key}{l:List Value},ItemsAre (mixKind P w) ks l → ∀ x ∈ l,carriedByValue x=true:=fun {ks l} h=>by
    induction h with
    | nil=>intro x hx;cases hx
    | cons e _ ih =>
     intro x hx
     rcases List.mem_cons.mp hx with rfl|hx
     ·exact (mixKind P w).byValue _ _ e
     ·exact ih x hx
   exact all h4
  have lp : ∀ (l:List Value) (Q2:Option Bool×Unit→Shared→Prop),(∀ x ∈ l,carriedByValue x=true)→Q2 (none,()) s'→wpAny (model P w) A (forIn l ((none,()):Option Bool×Unit) fun y _=>do
   let b ← eqIsQuiet 6 y
   if (!b)=true then pure (ForInStep.done (some false,())) else pure (ForInStep.yield (none,()))) Q2 E s':=by
   intro l
   induction l with
   | nil=>intro Q2 _ h;rw [List.forIn_nil];exact wpAny_pure h
   | cons v l ih =>
    intro Q2 hv h
    rw [List.forIn_cons,eqIsQuiet_byValue 6 (hv v (by simp))]
    exact wpAny_bind (wpAny_bind (wpAny_pure (wpAny_pure (ih Q2 (fun x hx=>hv x (by simp [hx])) h))))
  exact wpAny_bind (lp _ _ vals (wpAny_pure q'))
 obtain ⟨o,items,n,h1,h2,h3,h4⟩:=i
 have ty:s.TypeIs (.ref a) "tuple":=⟨o,h1,h2⟩
 unfold eqIsQuiet
 refine wpAny_bind (wpAny_specialOf ty F.slot_tuple_eq.lookup ?_)
 refine wpAny_bind (wpAny_isInstance (b:=true) ty tup_sub ?_)
 show wpAny _ _ (seqItems? (.ref a) >>= _) _ _ _
 unfold seqItems?
 refine wpAny_bind (wpAny_bind (wpAny_load h1 ?_))
 rw [h3]
 refine wpAny_pure ?_
 show wpAny _ _ (forIn items _ _ >>= _) _ _ _
 rw [← Array.forIn_toList]
 exact wpAny_bind (pk_qloop (eqIsQuiet 7) q7 h4 (wpAny_pure q))
theorem pair_at {p q:Int×Int}{c d:Addr} (hu:A.units<cLine) (i:(tupleKind (mixKind P w)).is s.heap (pk1 p) c) (j:(tupleKind (mixKind P w)).is s.heap (pk1 q) d):SeqAt.EqAt A s (.ref c) (.ref d) (decide (p=q)):=by
 by_cases z:c=d
 ·subst z
  have e:=pk1_inj ((tupleKind (mixKind P w)).inj i j)
  subst e
  rw [decide_eq_true rfl]
  exact SeqAt.EqAt.same _
 obtain ⟨o,items,n,h1,h2,h3,h4⟩:=i
 obtain ⟨o',items',n',h1',h2',h3',h4'⟩:=j
 obtain ⟨a1,a2⟩:=p
 obtain ⟨b1,b2⟩:=q
 have key : ∀ {x1 x2:Int}{l:List Value},ItemsAre (mixKind P w) (pk1 (x1,x2)) l → ∃ t u,l=[.int x1 t,.int x2 u]:=fun {x1 x2 l} h=>by
  cases h with
  | cons e1 h=>cases h with
   | cons e2 h=>cases h with
    | nil =>
     rw [mixKind_is] at e1 e2
     rcases keyIs_shape e1 with ⟨i,t,ek,ev⟩|⟨x,t,ek,ev⟩
     ·rcases keyIs_shape e2 with ⟨i',t',ek',ev'⟩|⟨x',t',ek',ev'⟩
      ·injection ek with ek;injection ek' with ek';exact ⟨t,t',by rw [ev,ev',← ek,← ek']⟩
      ·cases ek'
     ·cases ek
 obtain ⟨t1,t2,e1⟩:=key h4
 obtain ⟨u1,u2,e2⟩:=key h4'
 have e1:items = #[.int a1 t1,.int a2 t2]:=by rw [← Array.toArray_toList (xs:=items),e1]
 have e2:items' = #[.int b1 u1,.int b2 u2]:=by rw [← Array.toArray_toList (xs:=items'),e2]
 subst e1 e2
 have r:=SeqAt.EqAt.of_refs z (SeqAt.RcAt.tuples (e:=fun k=>if k=0 then a1==b1 else a2==b2) ⟨o,h1,h2,n,h3⟩ ⟨o',h1',h2',n',h3'⟩ hu fun k k1 k2=>by
  have:k=0∨k=1:=by simp at k1;omega
  rcases this with rfl|rfl
  ·exact SeqAt.EqAt.int_int _ _ _ _
  ·exact SeqAt.EqAt.int_int _ _ _ _)
 have e:((List.range (min (#[Value.int a1 t1,.int a2 t2]:Array Value).size (#[Value.int b1 u1,.int b2 u2]:Array Value).size)).all (fun k=>if k=0 then a1==b1 else a2==b2)&&(#[Value.int a1 t1,.int a2 t2]:Array Value).size==(#[Value.int b1 u1,.int b2 u2]:Array Value).size)=decide ((a1,a2)=(b1,b2)):=by
  show (((if 0=0 then a1==b1 else a2==b2)&&((if 1=0 then a1==b1 else a2==b2)&&true))&&true)=_
  by_cases y1:a1=b1 <;> by_cases y2:a2=b2 <;> simp [y1,y2]
 rw [e] at r
 exact r
theorem pk_eq {Q:Bool→Shared→Prop}{k':PKy}{b:Addr} (hu:A.units+1<cLine) (i:IsPK P w s.heap k a) (j:IsPK P w s.heap k' b) (q:Q (decide (k=k')) s):wpAny (model P w) A (eqBool (.ref a) (.ref b)) Q E s:=by
 by_cases z:a=b
 ·subst z
  have e:k=k':=by
   obtain ⟨o,items,n,h1,h2,h3,h4⟩:=i
   obtain ⟨o',items',n',h1',h2',h3',h4'⟩:=j
   rw [h1] at h1';cases h1'
   rw [h3] at h3';cases h3'
   exact h4.inj h4'
  subst e
  rw [decide_eq_true rfl] at q
  exact SeqAt.EqAt.same _ _ _ _ _ q
 obtain ⟨o,items,n,h1,h2,h3,h4⟩:=i
 obtain ⟨o',items',n',h1',h2',h3',h4'⟩:=j
 have l1:items.size=k.length:=by rw [← h4.len];simp
 have l2:items'.size=k'.length:=by rw [← h4'.len];simp
 have r:=SeqAt.EqAt.of_refs (A:=A) z (SeqAt.RcAt.tuples (e:=fun m=>decide (k[m]?=k'[m]?)) ⟨o,h1,h2,n,h3⟩ ⟨o',h1',h2',n',h3'⟩ (by omega) fun m m1 m2=>by
  obtain ⟨p,c,ek,ev,ii⟩:=h4.at (j:=m) (v:=items[m]) (by simp)
  obtain ⟨p',c',ek',ev',ii'⟩:=h4'.at (j:=m) (v:=items'[m]) (by simp)
  rw [ev,ev',ek,ek']
  have:=pair_at (A:=A.in1) (s:=s) hu ii ii'
  simpa using this)
 refine r _ _ _ _ ?_
 have e:((List.range (min items.size items'.size)).all (fun m=>decide (k[m]?=k'[m]?))&&items.size==items'.size)=decide (k=k'):=by
  rw [l1,l2]
  by_cases y:k=k'
  ·subst y;simp
  ·rw [decide_eq_false y]
   by_cases hl:k.length=k'.length
   ·rw [Bool.and_eq_false_iff]
    left
    rw [List.all_eq_false]
    apply Classical.byContradiction
    intro ne
    apply y
    refine List.ext_getElem? fun m=>?_
    by_cases hm:m<k.length
    ·apply Classical.byContradiction
     intro nn
     exact ne ⟨m,by rw [List.mem_range];omega,by simpa using nn⟩
    ·rw [List.getElem?_eq_none (by omega),List.getElem?_eq_none (by omega)]
   ·simp [hl]
 rw [e];exact q
end
def pkKind (P:Program) (w:World):HeapKind P w PKy where
 is:=IsPK P w
 hash:=fun k=>reduceHash (Builtin.Tuple.tupleHashOf (pkHs P w k))
 draws:=fun k=>3*k.length+1
 room:=fun A=>A.units+1<cLine
 inj:=fun {h a x y} i j=>by
  obtain ⟨o,items,n,h1,h2,h3,h4⟩:=i
  obtain ⟨o',items',n',h1',h2',h3',h4'⟩:=j
  rw [h1] at h1';cases h1'
  rw [h3] at h3';cases h3'
  exact h4.inj h4'
 keeps:=fun {h h' k a d o es ep} i ho hd sb=>by
  obtain ⟨o',items,n,h1,h2,h3,h4⟩:=i
  have ne:a≠d:=fun z=>by
   subst z
   rw [h1] at ho;cases ho
   rw [h3] at hd;cases hd
  exact ⟨o',items,n,(sb.2 a ne).trans h1,h2,h3,h4.keep fun q c ii=>(tupleKind (mixKind P w)).keeps ii ho hd sb⟩
 pyHash:=fun hu i q=>pk_hash hu i q
 eqBool:=fun hu i j q=>pk_eq hu i j q
 quiet:=fun i q=>pk_quiet i q
def prD (p:Int×Int):PyData :=.tuple [.int p.1,.int p.2]
def pHash (p:Int×Int):Int:=reduceHash (Builtin.Tuple.tupleHashOf [hashInt p.1,hashInt p.2])
def kHash (k:PKy):Int:=reduceHash (Builtin.Tuple.tupleHashOf (k.map pHash))
abbrev XEnt:=PKy×Addr×Int
def Ents:List XEnt→List DictEntry→Prop
 | [],l=>l=[]
 | x::xs,l => ∃ t r,l=⟨kHash x.1,.ref x.2.1,.int x.2.2 t⟩::r∧Ents xs r
def DX (a:Addr) (xs:List XEnt):Heap→Prop:=fun h=>((a==sysModules)=false∧xs.length≤900∧(xs.map (·.1)).Nodup) ∧ ∃ es ep,DictIs h a es ep∧Ents xs es.toList
theorem Ents.len : ∀ {xs:List XEnt}{l:List DictEntry},Ents xs l→l.length=xs.length
 | [],_,h=>by rw [show _=[] from h];rfl
 | _::_,_,h=>by
  obtain ⟨t,r,rfl,h⟩:=h
  rw [List.length_cons,List.length_cons,Ents.len h]
theorem DX.obj {P:Program}{w:World}{H:Hp}{h:Heap}{a:Addr}{xs:List XEnt} (x:DX a xs h):ObjOk P w H h a (.ext (DX a xs)):=by
 obtain ⟨_,es,ep,⟨o,h1,_⟩,_⟩:=id x
 exact ⟨x,⟨o,h1⟩,fun g1 g2 y k=>by
  obtain ⟨z,es,ep,⟨o,h1,h2⟩,h3⟩:=y
  exact ⟨z,es,ep,⟨o,k o h1,h2⟩,h3⟩⟩
def Prs (K:PySem.W.Frag) (H:Hp):PKy→List V→Prop
 | [],ys=>ys=[]
 | p::k,ys => ∃ c r,ys = .ref c::r∧SqT K H c [.int p.1,.int p.2]∧Prs K H k r
def PkAt (K:PySem.W.Frag) (H:Hp) (k:PKy) (c:Addr):Prop := ∃ ys,SqT K H c ys∧Prs K H k ys
def xD (xs:List XEnt):List (PyData×PyData):=xs.map fun x=>(PyData.tuple (x.1.map prD),PyData.int x.2.2)
def DctX (K:PySem.W.Frag) (H:Hp) (a:Addr) (l:List (PyData×PyData)):Prop := ∃ xs,H a=some (.ext (DX a xs))∧l=xD xs ∧ ∀ x ∈ xs,PkAt K H x.1 x.2.1
def noTup:PyData→Bool
 | .tuple _=>false
 | _=>true
def DctK (H:Hp) (a:Addr) (l:List (PyData×PyData)):Prop := ∃ kvs,H a=some (.dK kvs)∧l.length=kvs.length ∧ ∀ e ∈ l,noTup e.1=true
theorem xD_len (xs:List XEnt):(xD xs).length=xs.length:=by unfold xD;rw [List.length_map]
end L2
namespace L2
open PySem PySem.Spec PyProof.Rows
mutual
def Is (K:PySem.W.Frag) (H:Hp):PyData→V→Prop
 | .none,v=>v = .non
 | .bool b,v=>v = .bl b
 | .int i,v=>v = .int i
 | .str x,v=>v = .str x
 | .list l,v => ∃ a xs,v = .ref a∧SqL K H a xs∧Iss K H l xs
 | .tuple l,v => ∃ a xs,v = .ref a∧SqT K H a xs∧Iss K H l xs
 | .dict l,v => ∃ a,v = .ref a∧(DctK H a l∨DctX K H a l)
def Iss (K:PySem.W.Frag) (H:Hp):List PyData→List V→Prop
 | [],xs=>xs=[]
 | d::l,xs => ∃ x r,xs=x::r∧Is K H d x∧Iss K H l r
end
instance {o:HO}{x:Option HO}:Coe (x=some o) (Kp o x):=⟨Kp.of⟩
instance {l:List V}{x:Option HO}:CoeOut (Kp (.lst l) x) (x=some (.lst l)):=⟨fun k=>k.to trivial⟩
instance {l:List V}{x:Option HO}:CoeOut (Kp (.tup l) x) (x=some (.tup l)):=⟨fun k=>k.to trivial⟩
instance {l:List (Key×V)}{x:Option HO}:CoeOut (Kp (.dK l) x) (x=some (.dK l)):=⟨fun k=>k.to trivial⟩
instance {l:List (List Key×V)}{x:Option HO}:CoeOut (Kp (.dT l) x) (x=some (.dT l)):=⟨fun k=>k.to trivial⟩
instance {C d:Addr}{l:List (Str×V)}{x:Option HO}:CoeOut (Kp (.ins C d l) x) (x=some (.ins C d l)):=⟨fun k=>k.to trivial⟩
instance {f:Heap→Prop}{x:Option HO}:CoeOut (Kp (.ext f) x) (x=some (.ext f)):=⟨fun k=>k.to trivial⟩
theorem same_rd {H H':Hp}{a:Addr}{u:HO} (s:Same H H') (h:Rd H a u) (n:NoT u:=by trivial):Rd H' a u:=by
 rcases h with h|⟨o,h⟩
 ·exact .inl (s.at h n)
 ·exact .inr ⟨o,s.at h⟩
theorem same_seqT {K:PySem.W.Frag}{H H':Hp}{a:Addr}{xs:List V} (s:Same H H') (h:SqT K H a xs):SqT K H' a xs:=by
 rcases h with h|h
 ·exact .inl (same_rd s h)
 ·exact .inr h
theorem Prs.mono {K:PySem.W.Frag}{H H':Hp} (s:Same H H') : ∀ {k:PKy}{ys:List V},Prs K H k ys→Prs K H' k ys
 | [],_,h=>h
 | _::_,_,h=>by
  obtain ⟨c,r,e,q,h⟩:=h
  exact ⟨c,r,e,same_seqT s q,Prs.mono s h⟩
theorem PkAt.mono {K:PySem.W.Frag}{H H':Hp}{k:PKy}{c:Addr} (s:Same H H') (h:PkAt K H k c):PkAt K H' k c:=by
 obtain ⟨ys,q,r⟩:=h
 exact ⟨ys,same_seqT s q,r.mono s⟩
theorem same_new {H:Hp}{p:Addr}{o:HO} (h:H p=none):Same H (upd H p o) :=.of fun b u e=>by
 rw [upd_ne (ne_of_none e h)];exact e
mutual
theorem Is.mono {K:PySem.W.Frag}{H H':Hp} (s:Same H H') : ∀ {d:PyData}{v:V},Is K H d v→Is K H' d v
 | .none,_,h=>by unfold Is at h ⊢;exact h
 | .bool _,_,h=>by unfold Is at h ⊢;exact h
 | .int _,_,h=>by unfold Is at h ⊢;exact h
 | .str _,_,h=>by unfold Is at h ⊢;exact h
 | .list l,_,h=>by
  unfold Is at h ⊢
  obtain ⟨a,xs,e,q,r⟩:=h
  exact ⟨a,xs,e,s.seq q,Iss.mono s r⟩
 | .tuple l,_,h=>by
  unfold Is at h ⊢
  obtain ⟨a,xs,e,q,r⟩:=h
  exact ⟨a,xs,e,same_seqT s q,Iss.mono s r⟩
 | .dict _,_,h=>by
  unfold Is at h ⊢
  obtain ⟨a,e,⟨kvs,q,m⟩|⟨xs,q,m,k⟩⟩:=h
  ·exact ⟨a,e,.inl ⟨kvs,s.at q,m⟩⟩
  ·exact ⟨a,e,.inr ⟨xs,s.at q,m,fun x hx=>(k x hx).mono s⟩⟩
theorem Iss.mono {K:PySem.W.Frag}{H H':Hp} (s:Same H H') : ∀ {l:List PyData}{xs:List V},Iss K H l xs→Iss K H' l xs
 | [],_,h=>by unfold Iss at h ⊢;exact h
 | d::l,_,h=>by
  unfold Iss at h ⊢
  obtain ⟨x,r,e,p,q⟩:=h
  exact ⟨x,r,e,Is.mono s p,Iss.mono s q⟩
end
section
variable {K:PySem.W.Frag}{H H':Hp}
theorem is_non:Is K H .none .non:=by unfold Is;rfl
theorem is_bl (b:Bool):Is K H (.bool b) (.bl b):=by unfold Is;rfl
theorem is_int (i:Int):Is K H (.int i) (.int i):=by unfold Is;rfl
theorem is_str (x:Str):Is K H (.str x) (.str x):=by unfold Is;rfl
theorem is_lst {a:Addr}{xs:List V}{l:List PyData} (h:SqL K H a xs) (r:Iss K H l xs):Is K H (.list l) (.ref a):=by unfold Is;exact ⟨a,xs,rfl,h,r⟩
theorem is_tup {a:Addr}{xs:List V}{l:List PyData} (h:SqT K H a xs) (r:Iss K H l xs):Is K H (.tuple l) (.ref a):=by unfold Is;exact ⟨a,xs,rfl,h,r⟩
theorem iss_nil:Iss K H [] []:=by unfold Iss;rfl
theorem iss_cons {d:PyData}{l:List PyData}{x:V}{xs:List V} (h:Is K H d x) (r:Iss K H l xs):Iss K H (d::l) (x::xs):=by unfold Iss;exact ⟨x,xs,rfl,h,r⟩
theorem Is.bl_inv {b:Bool}{v:V} (h:Is K H (.bool b) v):v = .bl b:=by unfold Is at h;exact h
theorem Is.int_inv {i:Int}{v:V} (h:Is K H (.int i) v):v = .int i:=by unfold Is at h;exact h
theorem Is.non_inv {v:V} (h:Is K H .none v):v = .non:=by unfold Is at h;exact h
theorem Is.lst_inv {l:List PyData}{v:V} (h:Is K H (.list l) v) : ∃ a xs,v = .ref a∧SqL K H a xs∧Iss K H l xs:=by unfold Is at h;exact h
theorem Is.tup_inv {l:List PyData}{v:V} (h:Is K H (.tuple l) v) : ∃ a xs,v = .ref a∧SqT K H a xs∧Iss K H l xs:=by unfold Is at h;exact h
theorem Is.dct_inv {l:List (PyData×PyData)}{v:V} (h:Is K H (.dict l) v) : ∃ a,v = .ref a∧(DctK H a l∨DctX K H a l):=by unfold Is at h;exact h
theorem is_dctX {a:Addr}{l:List (PyData×PyData)} (h:DctX K H a l):Is K H (.dict l) (.ref a):=by unfold Is;exact ⟨a,rfl,.inr h⟩
theorem Iss.nil_inv {xs:List V} (h:Iss K H [] xs):xs=[]:=by unfold Iss at h;exact h
theorem Iss.cons_inv {d:PyData}{l:List PyData}{xs:List V} (h:Iss K H (d::l) xs) : ∃ x r,xs=x::r∧Is K H d x∧Iss K H l r:=by unfold Iss at h;exact h
theorem Iss.len : ∀ {l:List PyData}{xs:List V},Iss K H l xs→xs.length=l.length
 | [],_,h=>by rw [h.nil_inv];rfl
 | d::l,_,h=>by
  obtain ⟨x,r,rfl,_,q⟩:=h.cons_inv
  simp [Iss.len q]
theorem Iss.get : ∀ {l:List PyData}{xs:List V}{i:Nat}{d:PyData},Iss K H l xs→l[i]?=some d → ∃ x,xs[i]?=some x∧Is K H d x
 | [],_,i,d,h,e=>by simp at e
 | d'::l,_,0,d,h,e=>by
  obtain ⟨x,r,rfl,p,q⟩:=h.cons_inv
  simp at e;subst e
  exact ⟨x,rfl,p⟩
 | d'::l,_,i+1,d,h,e=>by
  obtain ⟨x,r,rfl,p,q⟩:=h.cons_inv
  obtain ⟨y,e1,e2⟩:=Iss.get q (show l[i]?=some d by simpa using e)
  exact ⟨y,by simpa using e1,e2⟩
theorem Iss.get' : ∀ {l:List PyData}{xs:List V}{i:Nat}{x:V},Iss K H l xs→xs[i]?=some x → ∃ d,l[i]?=some d∧Is K H d x:=fun {l xs i x} h e=>by
 have hl:=h.len
 have hi:i<xs.length:=(List.getElem?_eq_some_iff.mp e).1
 obtain ⟨d,hd⟩ : ∃ d,l[i]?=some d:=⟨l[i]'(by omega),List.getElem?_eq_getElem _⟩
 obtain ⟨y,e1,e2⟩:=h.get hd
 rw [e] at e1;cases e1
 exact ⟨d,hd,e2⟩
theorem iss_append : ∀ {l m:List PyData}{xs ys:List V},Iss K H l xs→Iss K H m ys→Iss K H (l++m) (xs++ys)
 | [],m,_,ys,h,h'=>by rw [h.nil_inv];exact h'
 | d::l,m,_,ys,h,h'=>by
  obtain ⟨x,r,rfl,p,q⟩:=h.cons_inv
  exact iss_cons p (iss_append q h')
theorem iss_take : ∀ {l:List PyData}{xs:List V} (n:Nat),Iss K H l xs→Iss K H (l.take n) (xs.take n)
 | _,_,0,_=>iss_nil
 | [],_,n+1,h=>by rw [h.nil_inv];exact iss_nil
 | d::l,_,n+1,h=>by
  obtain ⟨x,r,rfl,p,q⟩:=h.cons_inv
  exact iss_cons p (iss_take n q)
theorem iss_drop : ∀ {l:List PyData}{xs:List V} (n:Nat),Iss K H l xs→Iss K H (l.drop n) (xs.drop n)
 | _,_,0,h=>h
 | [],_,n+1,h=>by rw [h.nil_inv];exact iss_nil
 | d::l,_,n+1,h=>by
  obtain ⟨x,r,rfl,p,q⟩:=h.cons_inv
  exact iss_drop n q
theorem iss_ints : ∀ ns:List Int,Iss K H (ns.map .int) (ns.map V.int)
 | []=>iss_nil
 | n::ns=>iss_cons (is_int n) (iss_ints ns)
theorem Iss.ints_inv : ∀ {ns:List Int}{xs:List V},Iss K H (ns.map .int) xs→xs=ns.map V.int
 | [],_,h=>h.nil_inv
 | n::ns,_,h=>by
  obtain ⟨x,r,rfl,p,q⟩:=h.cons_inv
  rw [p.int_inv,Iss.ints_inv q];rfl
end
section
variable {X:Cx}{pins:List (Addr×Obj)}{σ:St}{H:Hp}{s:Shared}
mutual
theorem Is.reads (I:Inv X pins σ H s) : ∀ {d:PyData}{x:V}{u:Value},d.canLay0=true→Is X.K H d x→RelV x u → ∃ as,Reads s.heap u d as
 | .none,_,u,_,h,r=>by
  rw [h.non_inv] at r;cases r;exact ⟨_,.none⟩
 | .bool b,_,u,_,h,r=>by
  rw [h.bl_inv] at r;cases r;exact ⟨_,.bool b⟩
 | .int i,_,u,_,h,r=>by
  rw [h.int_inv] at r;obtain ⟨t,rfl⟩:=r;exact ⟨_,.int i t⟩
 | .str x,_,u,_,h,r=>by
  unfold Is at h
  subst h
  obtain ⟨t,rfl⟩:=r;exact ⟨_,.str x t⟩
 | .list l,_,u,z,h,r=>by
  obtain ⟨a,xs,rfl,q,p⟩:=h.lst_inv
  cases r
  obtain ⟨its,rv,pl,_⟩:=I.list q
  obtain ⟨o,ho,hc,n,hd⟩:=pl.isList
  obtain ⟨as,ra⟩:=Iss.reads I (by simpa [PyData.canLay0] using z) p rv
  exact ⟨_,.list ho hc hd (by rw [List.toList_toArray];exact ra)⟩
 | .tuple l,_,u,z,h,r=>by
  obtain ⟨a,xs,rfl,q,p⟩:=h.tup_inv
  cases r
  obtain ⟨its,rv,pl,_⟩:=I.tuple q
  obtain ⟨o,ho,hc,n,hd⟩:=pl
  obtain ⟨as,ra⟩:=Iss.reads I (by simpa [PyData.canLay0] using z) p rv
  exact ⟨_,.tuple ho hc hd (by rw [List.toList_toArray];exact ra)⟩
 | .dict _,_,u,z,h,r=>by simp [PyData.canLay0] at z
theorem Iss.reads (I:Inv X pins σ H s) : ∀ {l:List PyData}{xs:List V}{us:List Value},PyData.canLayAll0 l=true→Iss X.K H l xs→Vals xs us → ∃ as,ReadsAll s.heap us l as
 | [],_,us,_,h,r=>by
  rw [h.nil_inv] at r;cases r;exact ⟨_,.nil⟩
 | d::l,_,us,z,h,r=>by
  have z':d.canLay0=true∧PyData.canLayAll0 l=true:=by simpa [PyData.canLayAll0] using z
  obtain ⟨x,y,rfl,p,q⟩:=h.cons_inv
  cases r with
  | cons r1 r2 =>
   obtain ⟨as,ra⟩:=Is.reads I z'.1 p r1
   obtain ⟨bs,rb⟩:=Iss.reads I z'.2 q r2
   exact ⟨_,.cons ra rb⟩
end
end
section
variable {X:Cx}
def rEqD (K:PySem.W.Frag):R2:=fun x y H Q => ∃ d e,Is K H d x∧Is K H e y∧SeqAt.shaped d=true∧SeqAt.shaped e=true∧Q (.bl (PyData.eqv d e)) H
def rNeD (K:PySem.W.Frag):R2:=fun x y H Q => ∃ d e,Is K H d x∧Is K H e y∧SeqAt.shaped d=true∧SeqAt.shaped e=true∧Q (.bl (!PyData.eqv d e)) H
theorem op_eqD (hu:X.A.units+64<cLine):OpR X (compareOp .Eq) (rEqD X.K):=by
 intro pins s σ H x y v u Q I rx ry h
 obtain ⟨d,e,h1,h2,z1,z2,q⟩:=h
 obtain ⟨as,ra⟩:=Is.reads I (Bool.and_eq_true_iff.mp z1).1 h1 rx
 obtain ⟨bs,rb⟩:=Is.reads I (Bool.and_eq_true_iff.mp z2).1 h2 ry
 exact SeqAt.compareEq_shaped ra rb z1 z2 hu ⟨.bl (PyData.eqv d e),H,I,rfl,q⟩
theorem op_neD (hu:X.A.units+64<cLine):OpR X (compareOp .NotEq) (rNeD X.K):=by
 intro pins s σ H x y v u Q I rx ry h
 obtain ⟨d,e,h1,h2,z1,z2,q⟩:=h
 obtain ⟨as,ra⟩:=Is.reads I (Bool.and_eq_true_iff.mp z1).1 h1 rx
 obtain ⟨bs,rb⟩:=Is.reads I (Bool.and_eq_true_iff.mp z2).1 h2 ry
 exact SeqAt.compareNe_shaped ra rb z1 z2 hu ⟨.bl (!PyData.eqv d e),H,I,rfl,q⟩
theorem op_mulB:OpR X (binaryOp .Mult) (rI IntMulOk fun i j => .int (i*j)):=opI fun _ _ _ _ _ _ _ hc q=>mul_int q hc
def CDivB (_ j:Int):Prop:=j≠0∧Builtin.Int.intBits j≤9000
theorem op_fdivB:OpR X (binaryOp .FloorDiv) (rI CDivB fun i j => .int (i.fdiv j)):=opI fun i j _ _ _ _ _ hc q=>by
 refine floordiv_int hc.1 q (.inl (PyProof.noPylong_of_log2 ?_))
 have h:=hc.2
 unfold Builtin.Int.intBits at h
 rw [if_neg (by simpa using hc.1)] at h
 omega
def rCatS (K:PySem.W.Frag):R2:=fun x y H Q => ∃ a b xs zs,x = .ref a∧y = .ref b∧SqL K H a xs∧SqL K H b zs∧xs.length+zs.length≤sizeLine ∧
 ∀ p,H p=none→Q (.ref p) (upd H p (.lst (xs++zs)))
theorem op_catS:OpR X (binaryOp .Add) (rCatS X.K):=by
 intro pins s σ H x y v u Q I rx ry h
 obtain ⟨a,b,xs,zs,rfl,rfl,hA,hB,hz,q⟩:=h
 cases rx
 cases ry
 obtain ⟨its,r,pl,z1⟩:=I.list hA
 obtain ⟨its2,r2,pl2,z2⟩:=I.list hB
 have l1:=r.length
 have l2:=r2.length
 obtain ⟨⟨cls,dd,data,sl⟩,ho,hc,n,hd⟩:=pl.isList
 obtain ⟨⟨cls2,dd2,data2,sl2⟩,ho2,hc2,n2,hd2⟩:=pl2.isList
 simp only at hc hd hc2 hd2
 subst hc hd hc2 hd2
 have e:its.toArray++its2.toArray=(its++its2).toArray:=by simp
 refine concat_meets ⟨_,ho,rfl⟩ ⟨_,ho2,rfl⟩ noFill_list_add seq_list_add PySem.F.slot_list_add PySem.F.entry_list_add (PySem.F.args_list_add_2 _ _) (list_addW a b its.toArray its2.toArray n n2 dd dd2 sl sl2 (by simp only [List.size_toArray];omega)) ⟨ho,ho2,?_⟩
 rw [e]
 exact ⟨.ref _,_,I.lnew (t':=s.toks) (r.append r2) (by rw [List.length_append];omega),rfl,q _ I.fresh⟩
def tyD:PyData→String
 | .none => "NoneType"
 | .bool _ => "bool"
 | .int _ => "int"
 | .str _ => "str"
 | .list _ => "list"
 | .tuple _ => "tuple"
 | .dict _ => "dict"
theorem isinst_D {pins:List (Addr×Obj)}{σ:St}{H:Hp}{s:Shared}{A:Around}{E:Value→Shared→Prop}{Q:Value→Shared→Prop}{c:Value}{b:Bool}{d:PyData}{x:V}{u:Value}
 (I:Inv X pins σ H s) (hd:Is X.K H d x) (rx:RelV x u) (e:PySem.W.kitOne X.K (.type (tyD d)) c=some b) (h : ∀ tk,Q (.bool b) { s with toks:=tk }) :
  wpAny (model X.prog X.w) A (call (.builtin "isinstance") [u,c]) Q E s:=by
  cases d with
  | none=>rw [hd.non_inv] at rx;cases rx;exact PySem.W.kia_one PySem.W.kitx_none I.kIn True.intro e (fun z=>nomatch z) h
  | bool y=>rw [hd.bl_inv] at rx;cases rx;exact PySem.W.kia_one PySem.W.kitx_bool I.kIn True.intro e (fun z=>nomatch z) h
  | int i=>rw [hd.int_inv] at rx;obtain ⟨t,rfl⟩:=rx;exact PySem.W.kia_one PySem.W.kitx_int I.kIn True.intro e (fun z=>nomatch z) h
  | str y =>
   unfold Is at hd
   subst hd
   obtain ⟨t,rfl⟩:=rx;exact PySem.W.kia_one PySem.W.kitx_str I.kIn True.intro e (fun z=>nomatch z) h
  | list l =>
   obtain ⟨a,xs,rfl,q,_⟩:=hd.lst_inv
   cases rx
   obtain ⟨its,_,pl,_⟩:=I.list q
   obtain ⟨o,ho,hc,_⟩:=pl.isList
   exact PySem.W.kia_one PySem.W.kitx_list I.kIn ⟨o,ho,hc⟩ e (fun z=>nomatch z) h
  | tuple l =>
   obtain ⟨a,xs,rfl,q,_⟩:=hd.tup_inv
   cases rx
   obtain ⟨its,_,pl,_⟩:=I.tuple q
   obtain ⟨o,ho,hc,_⟩:=pl
   exact PySem.W.kia_one PySem.W.kitx_tuple I.kIn ⟨o,ho,hc⟩ e (fun z=>nomatch z) h
  | dict l =>
   obtain ⟨a,rfl,⟨kvs,q,_⟩|⟨xs,q,_⟩⟩:=hd.dct_inv
   ·cases rx
    obtain ⟨_,_,vs,_,p⟩:=(show ObjOk X.prog X.w H s.heap a (.dK kvs) from I.hok a _ q)
    obtain ⟨o,es,ep,h1,h2,_⟩:=p
    exact PySem.W.kia_one PySem.W.kitx_dict I.kIn ⟨o,h1,h2.1⟩ e (fun z=>nomatch z) h
   ·cases rx
    obtain ⟨⟨_,es,ep,⟨o,h1,h2,_⟩,_⟩,_⟩:=(show ObjOk X.prog X.w H s.heap a (.ext (DX a xs)) from I.hok a _ q)
    exact PySem.W.kia_one PySem.W.kitx_dict I.kIn ⟨o,h1,h2.1⟩ e (fun z=>nomatch z) h
def rIsD (K:PySem.W.Frag):List V→Hp→VK→Prop:=fun xs H Q => ∃ d x n b,xs=[x,.ty n]∧Is K H d x∧PySem.W.kitOne K (.type (tyD d)) (.type n)=some b∧Q (.bl b) H
theorem call_isi:CallR X (.builtin "isinstance") (rIsD X.K):=by
 intro pins s σ H xs us Q I r h
 obtain ⟨d,x,n,b,rfl,hd,e,q⟩:=h
 obtain ⟨u,c,rfl,rx,rc⟩:=vals2 r
 cases rc
 exact isinst_D I hd rx e fun tk=>⟨.bl b,H,I.tok tk,rfl,q⟩
theorem Iss.atI {K:PySem.W.Frag}{H:Hp}{l:List PyData}{xs:List V}{i:Int}{d:PyData} (h:Iss K H l xs) (e:L2.atI l i=some d) : ∃ x,L2.atI xs i=some x∧Is K H d x:=by
 unfold L2.atI at e ⊢
 rw [h.len]
 cases q:ixN l.length i with
 | none=>rw [q] at e;cases e
 | some j =>
  rw [q] at e
  exact h.get e
end
def Ite (K:PySem.W.Frag) (a:Addr):It :=
 ⟨fun i H => ∃ xs x,SqL K H a xs∧xs[i]?=some x,fun i H v H' => ∃ p x,(∀ xs,SqL K H a xs→xs[i]?=some x)∧H p=none∧v = .ref p∧H'=upd H p (.tup [.int i,x]),fun i H => ∃ xs,SqL K H a xs∧xs.length≤i⟩
theorem turn_enum {P:Program}{w:World}{K:PySem.W.Frag}{elts:List Expr}{x1:Nat}{tpos:Pos} (a e it:Addr) (hne:e≠it) :
 Turn P w K (.Tuple elts x1 tpos) (Ite K a) [e,it] e (fun i h=>(∃ old,IsEnum h e it (i:Nat) old)∧h.IsListIter it a i) where
  mem:=by simp
  obj:=fun i h st b hb=>by
   obtain ⟨⟨old,s1⟩,s2⟩:=st
   have hb':b=e∨b=it:=by simpa using hb
   rcases hb' with rfl|rfl
   ·exact ⟨_,s1,fun v z=>by have z':Data.fields _=Data.cell v:=z;cases z'⟩
   ·obtain ⟨o,q,c,d⟩:=s2
    exact ⟨o,q,fun v z=>by rw [d] at z;cases z⟩
  keep:=fun i h h' st k=>by
   obtain ⟨⟨old,s1⟩,s2⟩:=st
   exact ⟨⟨old,k e (by simp) _ s1⟩,s2.at fun o q=>k it (by simp) o q⟩
  item:=by
   intro X hP hw hK hc i pins s σ H E I hf st hg
   subst hP hw hK
   obtain ⟨xs,x,hq,hx⟩:=hg
   obtain ⟨its,rv,p,hz⟩:=I.list hq
   obtain ⟨u,hu,ru⟩:=rv.get hx
   obtain ⟨⟨old,s1⟩,s2⟩:=st
   obtain ⟨f0,f1,f2,f3,f4,f5⟩:=hf e (by simp)
   obtain ⟨g0,g1,g2,g3,g4,g5⟩:=hf it (by simp)
   have hel:e<s.heap.objs.size:=Heap.lt_size s1
   refine wpAny_pyNext_enum_item s1 s2 p.isList (x:=u) (by simpa using hu) hne fun h₁ ho hi ht hz₁ hk=>⟨_,rfl,?_⟩
   refine wpAny_letOwnedTupleGo_enum (s:={ s with heap:=h₁,toks:=s.toks+1 }) ho fun h₂ he₂ hs₂=>?_
   replace hs₂:Heap.SameBut e h₁ h₂:=hs₂
   have fresh:H s.heap.objs.size=none:=I.hok.fresh (Nat.le_refl _)
   have kk : ∀ b o,b≠e→b≠it→s.heap.get? b=some o→h₂.get? b=some o:=fun b o b1 b2 q=>hs₂.extBut b o b1 (hk b o b1 b2 q)
   have nb : ∀ b v,H b=some v→b≠e∧b≠it:=fun b v q=>⟨fun z=>(by rw [z,f0] at q;cases q),fun z=>(by rw [z,g0] at q;cases q)⟩
   have ht₂:h₂.get? s.heap.objs.size=some { cls :=.type "tuple",data :=.seq #[.int i s.toks,u] }:=(hs₂.2 _ (Nat.ne_of_gt hel)).trans ht
   have I1:Inv X pins σ (upd H s.heap.objs.size (.tup [.int i,x])) { s with heap:=h₂,toks:=s.toks+1 }:=by
    refine I.step (g':=s.gens) (d':=s.drawn) (ch:=[e,it]) (fun b hb=>?_) (fun b o _ _ hc q _=>kk b o (fun z=>hc (by simp [z])) (fun z=>hc (by simp [z])) q)
     (fun b o _ _ hc q _=>⟨o.slots,kk b o (fun z=>hc (by simp [z])) (fun z=>hc (by simp [z])) q⟩) (fun b o _ q n=>by rw [upd_ne (Nat.ne_of_lt (Heap.lt_size q))];exact n)
     (fun b o hc q=>⟨o,kk b o (fun z=>hc (by simp [z])) (fun z=>hc (by simp [z])) q⟩) (fun b ys q=>by rw [upd_ne (ne_of_none q fresh)];exact q) (fun b o v q=>by rw [upd_ne (ne_of_none q fresh)];exact q)
     (fun b ps q=>⟨#[],by rw [upd_ne (ne_of_none q fresh),q];simp,.nil⟩) (fun m hm=>?_) (fun b v q=>?_) I.bare
    ·have hb':b=e∨b=it:=by simpa using hb
     rcases hb' with rfl|rfl
     ·exact ⟨f3,f1,f4,f5⟩
     ·exact ⟨g3,g1,g4,g5⟩
    ·obtain ⟨o,es,ep,ho',r⟩:=hm
     exact ⟨o,es,ep,kk _ o (Ne.symm f1) (Ne.symm g1) ho',r⟩
    ·by_cases hb:b=s.heap.objs.size
     ·subst hb
      rw [upd_same] at q
      cases q
      exact ⟨(by show 2≤sizeLine;decide),[.int i s.toks,u],.cons ⟨s.toks,rfl⟩ (.cons ru .nil),⟨_,ht₂,rfl,_,rfl⟩⟩
     ·rw [upd_ne hb] at q
      refine (I.hok b v q).stay (fun c ob hc z=>?_) (fun c z=>by rw [upd_ne (ne_of_none z fresh)];exact z) fun c ys z=>by rw [upd_ne (ne_of_none z fresh)];exact z
      rcases hc with hc|hc
      ·subst hc;exact kk _ _ (nb _ _ q).1 (nb _ _ q).2 z
      ·exact kk _ _ (nb _ _ hc).1 (nb _ _ hc).2 z
   refine ⟨.ref s.heap.objs.size,_,I1,rfl,⟨s.heap.objs.size,x,fun ys hy=>by rw [I.list_inj hy hq];exact hx,fresh,rfl,rfl⟩,⟨⟨u,?_⟩,?_⟩,fun b hb=>?_⟩
   ·have e1:((i+1:Nat):Int)=(i:Int)+1:=by push_cast;rfl
    rw [e1];exact he₂
   ·exact hi.extBut hs₂.extBut (Ne.symm hne)
   ·have hb':b=e∨b=it:=by simpa using hb
    have hlt:b<s.heap.objs.size:=by
     rcases hb' with rfl|rfl
     ·exact hel
     ·obtain ⟨o,q,_⟩:=s2;exact Heap.lt_size q
    rw [upd_ne (Nat.ne_of_lt hlt)]
    exact (hf b hb).1
  done:=by
   intro X hP hw hK hc i pins s σ H E I hf st hg
   subst hP hw hK
   obtain ⟨xs,hq,hx⟩:=hg
   obtain ⟨its,rv,p,hz⟩:=I.list hq
   obtain ⟨⟨old,s1⟩,s2⟩:=st
   obtain ⟨g0,g1,g2,g3,g4,g5⟩:=hf it (by simp)
   have hl:=rv.length
   exact wpAny_pyNext_enum_end (I.ok.hd hc) s1 s2 p.isList (by simp;omega) fun h' eb=>⟨rfl,I.turned (t':=s.toks) (fun b o hb q=>eb b o hb q) g0 g1 g3 g4 g5⟩
  self:=fun A i s Q E st h=>by
   obtain ⟨⟨old,s1⟩,s2⟩:=st
   exact wpAny_pyIter_enum s1 h
section
variable {X:Cx}{elts:List Expr}{x1:Nat}{tpos:Pos}
def iEnum (K:PySem.W.Frag) (ta:TA):TI:=fun σ H R=>ta σ H fun vs H1 => ∃ a,vs=[.ref a]∧(∃ xs,SqL K H1 a xs)∧R (Ite K a) H1
theorem pi_enum {a:Expr}{ta:TA}{p pos:Pos} (hg:Gl X "enumerate") (hm:X.mg "enumerate" = none) (ha:PA X [a] ta) (hs:starEach [a] X.env=[(false,eval a X.env)]:=by rfl) :
 PI X (.Tuple elts x1 tpos) (.Call (.Name "enumerate" p) [a] [] pos) (iEnum X.K ta):=by
 intro pins s σ H R I h
 refine Call_ (ld_blt I hg hm boot_enumerate (PyProof.Rows.callWith_type1 (thn (ha pos pins s σ H _ I h) fun us s1 xx53=>?_) hs rfl))
 obtain ⟨vs,H1,I1,r1,q1⟩:=xx53
 obtain ⟨l,e,⟨xs,hq⟩,q⟩:=q1
 subst e
 cases r1 with
 | cons r rr =>
  cases rr
  cases r
  obtain ⟨its,rv,pl,hz⟩:=I1.list hq
  refine call_enumerate_list pl.isList fun h' he hi hz' hk=>?_
  refine wpAny_pyIter_enum he ?_
  have I2:Inv X pins σ H1 { s1 with heap:=h' }:=I1.kept (t':=s1.toks) hk
  refine ⟨s1.heap.objs.size+1,[s1.heap.objs.size+1,s1.heap.objs.size],_,_,H1,rfl,I2,turn_enum l _ _ (Nat.succ_ne_self _),⟨⟨_,he⟩,hi⟩,fun b hb=>?_,q⟩
  have hb':b=s1.heap.objs.size+1∨b=s1.heap.objs.size:=by simpa using hb
  have hle:s1.heap.objs.size≤b:=by
   rcases hb' with rfl|rfl
   ·exact Nat.le_succ _
   ·exact Nat.le_refl _
  exact I1.fpOk hle (I1.hok.fresh hle)
end
theorem szl {α:Type}{l:List α} (h:decide (l.length≤1000)=true:=by rfl):l.length≤sizeLine:=Nat.le_of_lt (small1000 (of_decide_eq_true h))
theorem eqv_int (i j:Int):PyData.eqv (.int i) (.int j)=(i==j):=by simp only [PyData.eqv]
theorem ite_ne {i j:Int}{A B:Prop} (h1:i≠j→A) (h2:i=j→B):if (!PyData.eqv (.int i) (.int j))=true then A else B:=by
 rw [eqv_int]
 by_cases h:i=j
 ·subst h;simpa using h2 rfl
 ·have e:(i==j)=false:=by simpa using h
  rw [e];simpa using h1 h
theorem ite_eq {i j:Int}{A B:Prop} (h1:i=j→A) (h2:i≠j→B):if (PyData.eqv (.int i) (.int j))=true then A else B:=by
 rw [eqv_int]
 by_cases h:i=j
 ·subst h;simpa using h1 rfl
 ·have e:(i==j)=false:=by simpa using h
  rw [e];simpa using h2 h
theorem iteD {p A B:Prop} [Decidable p] (h1:p→A) (h2 : ¬ p→B):if decide p=true then A else B:=by
 by_cases h:p
 ·simpa [h] using h1 h
 ·simpa [h] using h2 h
theorem atI_ints {ns:List Int}{i:Int} (h0:0≤i) (h1:i<ns.length) : ∃ n,L2.atI (ns.map PyData.int) i=some (.int n):=by
 have hi:i.toNat<ns.length:=by omega
 refine ⟨ns[i.toNat],?_⟩
 have e:(ns.map PyData.int)[i.toNat]?=some (.int ns[i.toNat]):=by simp [hi]
 have:=atI_nat e
 rwa [Int.toNat_of_nonneg h0] at this
theorem boot_abs:bootBuiltins "abs" = some (.builtin "abs"):=by decide +kernel
theorem boot_len:bootBuiltins "len" = some (.builtin "len"):=by decide +kernel
theorem boot_isinstance:bootBuiltins "isinstance" = some (.builtin "isinstance"):=by decide +kernel
theorem boot_int:bootBuiltins "int" = some (.type "int"):=by decide +kernel
theorem boot_bool:bootBuiltins "bool" = some (.type "bool"):=by decide +kernel
theorem boot_tuple:bootBuiltins "tuple" = some (.type "tuple"):=by decide +kernel
theorem boot_list:bootBuiltins "list" = some (.type "list"):=by decide +kernel
section
variable {K:PySem.W.Frag}
end
structure Def (K:PySem.W.Frag) (mg:Str→Option Value) (x:Str) (st:Stmt) (ps:List Str):Prop where
 ex : ∃ (f:Addr) (fd:FuncData),Fun K x x st f fd∧mg x=some (.ref f)∧Binds K fd ps []
structure Ok (P:Program) (w:World) (K:PySem.W.Frag) (mg:Str→Option Value) (base:Heap) (x:Str) (k:Nat) (ps:List Str) (sp:Sp):Prop where
 ex : ∃ (f:Addr) (fd:FuncData),FnOk P w K mg base CX0 k f fd ps sp∧mg x=some (.ref f)∧PySem.W.keepIn K (.ref f)=true∧Binds K fd ps []
section
variable {P:Program}{w:World}{K:PySem.W.Frag}{mg:Str→Option Value}{base:Heap}
theorem Def.ok {x:Str}{st:Stmt}{N ps:List Str}{k:Nat}{sp:Sp} (F:Def K mg x st ps) (S:FnScope N ps (defScope st)) (len : ∀ vs H Q E,sp vs H Q E→vs.length=ps.length)
 (hbody : ∀ (f:Addr) (cdv:Value) (A:Around) (outer:List Env) (s:Shared) (H:Hp) (vs:List V) (Q:VK) (E:XK),Room k (A.deeper (envOfC x (defScope st) s.heap.objs.size f cdv))→sp vs H Q E →
 ∃ t,PSs (cxOf CX0 P w K mg base N x (defScope st) f cdv A outer s H E).nox (defBody st) t∧t { nx:=fun _ H'=>Q .non H',rt:=Q } (start N vs) H):Ok P w K mg base x (k+1) ps sp:=by
  obtain ⟨f,fd,Fn,hm,hb⟩:=F.ex
  exact ⟨f,fd,Fn.ok S len (hbody f),hm,Fn.kp,hb⟩
end
section
variable {X:Cx}{x:Str}{k:Nat}{ps:List Str}{sp:Sp}{p pos:Pos}{e:Expr}{es:List Expr}{t:TA}
structure OkC (X:Cx) (x:Str) (k:Nat) (ps:List Str) (sp:Sp):Prop where
 ex : ∃ sp0,Ok X.prog X.w X.K X.mg X.base x k ps sp0 ∧ ∀ (pins:List (Addr×Obj)) (σ:St) (H:Hp) (s:Shared) (vs:List V) (Q:VK) (E:XK),Inv X pins σ H s→sp vs H Q E→sp0 vs H Q E
theorem Ok.c (O:Ok X.prog X.w X.K X.mg X.base x k ps sp):OkC X x k ps sp:=⟨sp,O,fun _ _ _ _ _ _ _ _ h=>h⟩
theorem pe_fn (O:OkC X x k ps sp) (hr:Room k X.A) (ha:PA X (e::es) t) (hg:Gl X x:=by rfl) (hdb:(x==("__debug__" : Str))=false:=by decide)
 (he:starEach (e::es) X.env=(false,eval e X.env)::starEach es X.env:=by rfl) (hpl:(backTo pos (starEach es X.env)).any (·.1)=false:=by rfl):PE X (.Call (.Name x p) (e::es) [] pos) (tCall sp [] E0 t):=by
 obtain ⟨sp0,⟨f,fd,F,hm,hk,hb⟩,up⟩:=O.ex
 intro pins s σ H Q I h
 refine wpAny_Call_Name_kw (ld_glob I hg hm ?_ hdb)
 refine PySem.W.callWith_K (h₀:=X.base) I.ok.mod.kin hk (thn (ha pos pins s σ H _ I h) fun us s1 ⟨vs,H1,I1,r,q⟩=>⟨I1.kIn,?_⟩) he hpl
 exact run_fn F hr hb .nil pass0 I1 r (up _ _ _ _ _ _ _ I1 q)
theorem pe_append {o:Expr}{to:TE}{te:TE}{apos cpos:Pos} (ho:PE X o to) (he:PE X e te) (hbase:attributeBase o "append" X.env (eval o X.env)=eval o X.env:=by rfl)
 (hfew:((backTo cpos (starEach [e] X.env)).all (fun x => !x.1)&&(backToKw cpos (keywordEach [] X.env)).all (fun x=>x.1.isSome)
  && decide ([e].length+([]:List Keyword).length+(if ([]:List Keyword).isEmpty then 0 else 1)<30))=true:=by rfl)
 (hline:(apos.endLine==cpos.line)=true:=by rfl) (hs:starEach [e] X.env=(false,eval e X.env)::starEach [] X.env:=by rfl) (hplain:(backTo cpos (starEach [] X.env)).any (·.1)=false:=by rfl) :
 PE X (.Call (.Attribute o "append" apos) [e] [] cpos) (tBM X.K "list" rAppend to (tCons te tNil)) :=
 pe_bm PySem.F.plainAttrs_list PySem.F.slot_list_append PySem.F.type_list_append mt_append ho (pa_cons he pa_nil hs) hbase hfew hline hs hplain
end
end L2
namespace L2
open PySem PySem.Spec PyProof.Rows
def closL (cells:List (Str×Addr)):List (Str×NameKind)→List (Str×Addr)→List (Str×Addr)
 | [],acc=>acc
 | (n,k)::r,acc=>if (k == .free)=true then (match cells.lookup n with|some c=>closL cells r ((n,c)::acc)|none=>closL cells r acc) else closL cells r acc
theorem closL_mem {cells:List (Str×Addr)} : ∀ {names:List (Str×NameKind)}{acc:List (Str×Addr)}{p:Str×Addr},p ∈ closL cells names acc→p ∈ acc∨cells.lookup p.1=some p.2
 | [],acc,p,h => .inl h
 | (n,k)::r,acc,p,h=>by
  unfold closL at h
  split at h
  ·split at h
   ·rename_i c hc
    rcases closL_mem h with h|h
    ·rcases List.mem_cons.mp h with h|h
     ·subst h;exact .inr hc
     ·exact .inl h
    ·exact .inr h
   ·exact closL_mem h
  ·exact closL_mem h
theorem closL_has {cells:List (Str×Addr)} : ∀ {names:List (Str×NameKind)}{acc:List (Str×Addr)}{x:Str},((∃ c,(x,c) ∈ acc)∨((x,NameKind.free) ∈ names ∧ ∃ c,cells.lookup x=some c)) → ∃ c,(x,c) ∈ closL cells names acc
 | [],acc,x,h=>by
  rcases h with h|h
  ·exact h
  ·exact absurd h.1 (by simp)
 | (n,k)::r,acc,x,h=>by
  unfold closL
  split
  ·rename_i hk
   split
   ·rename_i c hc
    refine closL_has ?_
    rcases h with ⟨d,h⟩|⟨h,d,hd⟩
    ·exact .inl ⟨d,List.mem_cons_of_mem _ h⟩
    ·rcases List.mem_cons.mp h with h|h
     ·cases h;exact .inl ⟨c,by simp⟩
     ·exact .inr ⟨h,d,hd⟩
   ·rename_i hc
    refine closL_has ?_
    rcases h with h|⟨h,d,hd⟩
    ·exact .inl h
    ·rcases List.mem_cons.mp h with h|h
     ·cases h;rw [hd] at hc;cases hc
     ·exact .inr ⟨h,d,hd⟩
  ·rename_i hk
   refine closL_has ?_
   rcases h with h|⟨h,d,hd⟩
   ·exact .inl h
   ·rcases List.mem_cons.mp h with h|h
    ·cases h;exact absurd rfl hk
    ·exact .inr ⟨h,d,hd⟩
theorem cf_new {x:Str}{c:Addr} : ∀ {names:List (Str×NameKind)}{n:Nat}{acc:List (Str×Addr)},(cellsFrom n names acc).lookup x=some c→(n≤c∧(x,NameKind.cell) ∈ names)∨acc.lookup x=some c
 | [],_,_,h => .inr h
 | (y,k)::r,n,acc,h=>by
  unfold cellsFrom at h
  split at h
  ·rename_i hk
   rcases cf_new h with ⟨h1,h2⟩|h1
   ·exact .inl ⟨by omega,List.mem_cons_of_mem _ h2⟩
   ·by_cases e:x=y
    ·subst e
     have hb:(x==x)=true:=by simp
     rw [List.lookup_cons,hb] at h1
     have hk':k = .cell:=by simpa using hk
     subst hk'
     cases h1
     exact .inl ⟨Nat.le_refl _,by simp⟩
    ·have hb:(x==y)=false:=by simpa using e
     rw [List.lookup_cons,hb] at h1
     exact .inr h1
  ·rcases cf_new h with ⟨h1,h2⟩|h1
   ·exact .inl ⟨h1,List.mem_cons_of_mem _ h2⟩
   ·exact .inr h1
theorem cf_old {x:Str} : ∀ {names:List (Str×NameKind)}{n:Nat}{acc:List (Str×Addr)},(x,NameKind.cell) ∉ names→(cellsFrom n names acc).lookup x=acc.lookup x
 | [],_,_,_=>rfl
 | (y,k)::r,n,acc,h=>by
  have hr:(x,NameKind.cell) ∉ r:=fun z=>h (List.mem_cons_of_mem _ z)
  unfold cellsFrom
  split
  ·rename_i hk
   have hk':k = .cell:=by simpa using hk
   subst hk'
   have e:x≠y:=fun z=>h (by rw [z];simp)
   have hb:(x==y)=false:=by simpa using e
   rw [cf_old hr,List.lookup_cons,hb]
  ·exact cf_old hr
theorem cf_above {x:Str}{c lo:Nat} : ∀ {names:List (Str×NameKind)}{n:Nat}{acc:List (Str×Addr)},lo≤n→((x,NameKind.cell) ∈ names ∨ ∃ a,acc.lookup x=some a∧lo≤a)→(cellsFrom n names acc).lookup x=some c→lo≤c
 | [],_,acc,_,h,e=>by
  rcases h with h|⟨a,h1,h2⟩
  ·simp at h
  ·have e:acc.lookup x=some c:=e
   rw [h1] at e
   cases e
   exact h2
 | (y,k)::r,n,acc,hn,h,e=>by
  unfold cellsFrom at e
  split at e
  ·rename_i hk
   refine cf_above (lo:=lo) (by omega) ?_ e
   by_cases z:x=y
   ·subst z
    have hb:(x==x)=true:=by simp
    exact .inr ⟨n,by rw [List.lookup_cons,hb],hn⟩
   ·have hb:(x==y)=false:=by simpa using z
    rcases h with h|⟨a,h1,h2⟩
    ·rcases List.mem_cons.mp h with h|h
     ·cases h;exact absurd rfl z
     ·exact .inl h
    ·exact .inr ⟨a,by rw [List.lookup_cons,hb];exact h1,h2⟩
  ·rename_i hk
   refine cf_above hn ?_ e
   rcases h with h|h
   ·rcases List.mem_cons.mp h with h|h
    ·cases h;exact absurd rfl hk
    ·exact .inl h
   ·exact .inr h
theorem cf_inj {x y:Str}{c:Addr} : ∀ {names:List (Str×NameKind)}{n:Nat}{acc:List (Str×Addr)},(∀ z a,acc.lookup z=some a→a<n)→n≤c→(cellsFrom n names acc).lookup x=some c→(cellsFrom n names acc).lookup y=some c→x=y
 | [],n,acc,hA,hn,h,_=>absurd (hA x c h) (Nat.not_lt.mpr hn)
 | (w,k)::r,n,acc,hA,hn,h,h'=>by
  unfold cellsFrom at h h'
  split at h
  ·rename_i hk
   rw [if_pos hk] at h'
   have hA' : ∀ z a,((w,n)::acc).lookup z=some a→a<n+1:=fun z a q=>by
    rw [List.lookup_cons] at q
    split at q
    ·cases q;exact Nat.lt_succ_self _
    ·exact Nat.lt_succ_of_lt (hA z a q)
   have at_n : ∀ z,((w,n)::acc).lookup z=some n→z=w:=fun z q=>by
    rw [List.lookup_cons] at q
    split at q
    ·rename_i hb;exact beq_iff_eq.mp hb
    ·exact absurd (hA z n q) (Nat.lt_irrefl _)
   by_cases e:c=n
   ·subst e
    have a1:x=w:=by
     rcases cf_new h with ⟨q,_⟩|q
     ·exact absurd q (Nat.not_succ_le_self _)
     ·exact at_n x q
    have a2:y=w:=by
     rcases cf_new h' with ⟨q,_⟩|q
     ·exact absurd q (Nat.not_succ_le_self _)
     ·exact at_n y q
    rw [a1,a2]
   ·exact cf_inj hA' (Nat.lt_of_le_of_ne hn (Ne.symm e)) h h'
  ·rename_i hk
   rw [if_neg hk] at h'
   exact cf_inj hA hn h h'
theorem cf_cell {x:Str}{c:Addr} : ∀ {names:List (Str×NameKind)}{h:Heap}{acc:List (Str×Addr)},(cellsFrom h.objs.size names acc).lookup x=some c→acc.lookup x=some c∨(pushCells h names).IsCell c none
 | [],_,_,e => .inl e
 | (y,k)::r,h,acc,e=>by
  unfold cellsFrom at e
  unfold pushCells
  split at e
  ·rename_i hk
   rw [if_pos hk]
   have e':(cellsFrom (h.push { cls :=.type "cell",data :=.cell none }).objs.size r ((y,h.objs.size)::acc)).lookup x=some c:=by rw [Heap.size_push];exact e
   rcases cf_cell e' with q|q
   ·rw [List.lookup_cons] at q
    split at q
    ·have q:=Option.some.inj q
     subst q
     exact .inr ⟨_,pushCells_keeps _ _ _ _ (Heap.get?_push_size _ rfl),rfl⟩
    ·exact .inl q
   ·exact .inr q
  ·rename_i hk
   rw [if_neg hk]
   exact cf_cell e
theorem nfe_cells {M:Model}{A:Around}{E:Value→Shared→Prop}{s:Shared}{scope:Scope}{globals:Addr}{cl:List (Str×Addr)}{qual:Str}{outer:Env}{Q:Env→Shared→Prop}
 (hQ:Q (newEnv scope s.heap.objs.size globals (cellsFrom (s.heap.objs.size+1) scope.names cl) qual none .none (some outer) builtinsNs) { s with heap:=pushCells (s.heap.push { cls :=.type "dict",data :=.dict #[] }) scope.names }) :
  wpAny M A (newFunctionEnv scope globals cl [] qual none .none (some outer)) Q E s:=by
  simp only [newFunctionEnv,Option.isSome_some,if_true]
  refine wpAny_bind (wpAny_alloc ?_)
  refine wpAny_bind (wpAny_layCells _ (fun name kind cells=>by cases hkc:kind==NameKind.cell <;> simp [hkc]) _ _ _ _ ?_)
  rw [show ({ s with heap:=s.heap.push { cls :=.type "dict",data :=.dict #[] } }:Shared).heap.objs.size=s.heap.objs.size+1 from Heap.size_push ..]
  rw [List.forIn_nil]
  exact wpAny_bind (wpAny_pure (wpAny_pure hQ))
structure CompScope (env:Env) (scope:Scope) (caps:List Str):Prop where
 clos:closureFor scope env=pure (closL env.cells scope.names [])
 kind:scope.kind = .function
 cells:scope.names.all (fun y => !(y.2 == .cell)||scope.names.lookup y.1==some .cell)=true
 names:scope.names.all (fun y => !(y.2 == .local)||scope.names.lookup y.1==some .local)=true
 free:scope.names.all (fun y => !(y.2 == .free)||(env.cells.lookup y.1).isSome)=true
 cap:caps.all (fun x=>scope.names.lookup x==some .free&&(env.scope.names.lookup x==some .cell||env.scope.names.lookup x==some .free))=true
theorem mem_lookup {β:Type} : ∀ {l:List (Str×β)}{x:Str}{c:β},l.lookup x=some c→(x,c) ∈ l:=fun h=>PySem.mem_of_lookup h
theorem lookup_mem : ∀ {l:List (Str×Addr)}{x:Str}{c:Addr},(x,c) ∈ l → ∃ d,l.lookup x=some d
 | [],_,_,h=>by simp at h
 | (y,d)::r,x,c,h=>by
  by_cases e:x=y
  ·subst e;exact ⟨d,by simp⟩
  ·have hb:(x==y)=false:=by simpa using e
   rcases List.mem_cons.mp h with h|h
   ·cases h;exact absurd rfl e
   ·obtain ⟨d',hd⟩:=lookup_mem h
    exact ⟨d',by rw [List.lookup_cons,hb];exact hd⟩
section
variable {env:Env}{scope:Scope}{caps:List Str}
abbrev clOf (scope:Scope) (env:Env):List (Str×Addr):=closL env.cells scope.names []
theorem CompScope.sub (S:CompScope env scope caps) {x:Str}{c:Addr} (h:(clOf scope env).lookup x=some c):env.cells.lookup x=some c:=by
 rcases closL_mem (mem_lookup h) with h|h
 ·simp at h
 ·exact h
theorem relabel_mem {x:Str}{k:NameKind} (h:(relabel scope env).names.lookup x=some k) : ∃ k',(x,k') ∈ scope.names∧(k'=k∨(k' = .free∧k = .cell)):=by
 have hm:=mem_lookup h
 obtain ⟨⟨n,k0⟩,h1,h2⟩:=List.mem_map.mp hm
 dsimp only at h2
 split at h2
 ·rename_i hc
  cases h2
  have:k0 = .free:=by
   have:=(Bool.and_eq_true_iff.mp (Bool.and_eq_true_iff.mp hc).1).1
   simpa using this
  subst this
  exact ⟨_,h1,.inr ⟨rfl,rfl⟩⟩
 ·cases h2
  exact ⟨_,h1,.inl rfl⟩
abbrev nclOf (scope:Scope) (env:Env) (n:Nat):List (Str×Addr):=cellsFrom n scope.names (clOf scope env)
theorem CompScope.hasF (S:CompScope env scope caps) {x:Str} (key:(x,NameKind.free) ∈ scope.names) : ∃ c,(clOf scope env).lookup x=some c:=by
 have:=List.all_eq_true.mp S.free _ key
 have hs:(env.cells.lookup x).isSome=true:=by simpa using this
 obtain ⟨c,hc⟩:=Option.isSome_iff_exists.mp hs
 obtain ⟨d,hd⟩:=closL_has (cells:=env.cells) (names:=scope.names) (acc:=[]) (.inr ⟨key,c,hc⟩)
 exact lookup_mem hd
theorem CompScope.isC (S:CompScope env scope caps) {x:Str} (h:(x,NameKind.cell) ∈ scope.names):scope.names.lookup x=some .cell:=by
 have:=List.all_eq_true.mp S.cells _ h
 simpa using this
theorem CompScope.has (S:CompScope env scope caps) {x:Str} (n:Nat) (h:(relabel scope env).names.lookup x=some .cell∨(relabel scope env).names.lookup x=some .free) : ∃ c,(nclOf scope env n).lookup x=some c:=by
 have key:scope.names.lookup x=some .cell∨(x,NameKind.free) ∈ scope.names:=by
  rcases h with h|h
  ·obtain ⟨k',h1,h2⟩:=relabel_mem h
   rcases h2 with rfl|⟨rfl,_⟩
   ·exact .inl (S.isC h1)
   ·exact .inr h1
  ·obtain ⟨k',h1,h2⟩:=relabel_mem h
   rcases h2 with rfl|⟨_,h2⟩
   ·exact .inr h1
   ·cases h2
 refine Option.isSome_iff_exists.mp (PySem.W.cellsFrom_some scope.names n _ ?_)
 rcases key with k|k
 ·exact .inl k
 ·obtain ⟨c,hc⟩:=S.hasF k
  exact .inr (by rw [hc];rfl)
theorem CompScope.look (S:CompScope env scope caps) {x:Str}{n:Nat}{c:Addr} (h:(nclOf scope env n).lookup x=some c):(n≤c∧(x,NameKind.cell) ∈ scope.names)∨env.cells.lookup x=some c:=by
 rcases cf_new h with q|q
 ·exact .inl q
 ·exact .inr (S.sub q)
end
def blk (X:Cx) (pins:List (Addr×Obj)) (scope:Scope) (N':List Str) (s3:Shared) (H:Hp) (ex:List Addr):Cx where
 prog:=X.prog
 w:=X.w
 K:=X.K
 mg:=X.mg
 base:=X.base
 A:=X.A
 N:=N'
 s₀:=s3
 H₀:=H
 env:=compEnvC scope (nclOf scope X.env (s3.heap.objs.size+1)) s3.heap.objs.size X.env
 outer:=X.stack
 stack:=X.stack
 ex:=ex
 fn:=fun x=>scope.names.lookup x==some .cell
 calm:=X.calm
 pn:=X.pn++pins
 xe:=fun _ _=>False
def capS (ix:List Nat) (k:Nat) (σ:St):St:=ix.map (fun i=>(σ[i]?).join)++List.replicate k none
def tComp (ix:List Nat) (k:Nat) (wi:TI) (g:TG) (te:TE):TE:=fun σ H Q=>wi σ H fun J H1 => ∃ W:Nat→Nat→List V→St→Hp→Prop,(∃ m,W 0 m [] (capS ix k σ) H1) ∧ ∀ i m ys σ1 H2,W i m ys σ1 H2 →
 (J.stop i H2∧ys.length≤sizeLine ∧ ∀ p,H2 p=none→Q (.ref p) (upd H2 p (.lst ys))) ∨
 (J.go i H2∧ys.length<sizeLine ∧ ∃ N:V→St→Hp→Prop,(∀ y σ2 H5,N y σ2 H5 → ∃ m',m'<m∧W (i+1) m' (ys++[y]) σ2 H5) ∧ ∀ x H3,J.yld i H2 x H3→g x σ1 H3 fun σ2 H4=>te σ2 H4 fun y H5=>N y σ2 H5)
theorem codeAny_compLoop_any {prog:Program}{w:World}{A:Around}{R:Result→Shared→Prop}{s:Shared}{elt target iter:Expr}{scope:Scope}{pos:Pos}{it acc:Value}{env:Env} (I:Nat→Shared→Prop)
 (turn : ∀ n s,I n s→wpAny (model prog w) A (pyNext it) (fun r s₁=>match r with
  | none=>R (.ok .next) s₁
  | some v=>wpAny (model prog w) A (letOwnedTupleGo target it v) (fun _ s₁'=>wpAny (model prog w) A (assign target env v) (fun _ s₂=>wpAny (model prog w) A (eval elt env) (fun x s₃ =>
   wpAny (model prog w) A (call (.builtin "list.append") [acc,x]) (fun _ s₄ => ∃ m,m<n∧I m s₄) (notedBy (model prog w) A env fun e s'=>R (.error e) s') s₃)
   (notedBy (model prog w) A env fun e s'=>R (.error e) s') s₂) (notedBy (model prog w) A env fun e s'=>R (.error e) s') s₁') (notedBy (model prog w) A env fun e s'=>R (.error e) s') s₁) (notedBy (model prog w) A env fun e s'=>R (.error e) s') s)
  (n:Nat) (h:I n s):codeAny (model prog w) A (.compLoop (.ListComp elt [⟨target,iter,[],0⟩] scope pos) 0 it acc env) R s:=by
  refine codeAny_loop rfl I (fun n s hI=>?_) n h
  show wpAny _ _ ((compTurn (.ListComp elt [⟨target,iter,[],0⟩] scope pos) 0 it acc env).onRaise (fun x=>do noteFrame x env;theTreesLotGoes x)) _ _ s
  refine wpAny_noted ?_
  rw [compTurn_list1]
  refine wpAny_bind (wpAny_standAt (wpAny_bind (wpAny_mono (turn n s hI) (fun r s₁ h₁=>?_) fun _ _ h'=>h')))
  cases r with
  | none=>exact wpAny_pure h₁
  | some v =>
   exact wpAny_bind (wpAny_mono h₁ (fun _ s₁' h₁'=>wpAny_bind (wpAny_mono h₁' (fun _ s₂ h₂=>wpAny_bind (wpAny_bind (wpAny_mono h₂ (fun x s₃ h₃=>wpAny_bind (wpAny_mono h₃
    (fun _ s₄ h₄=>wpAny_pure (wpAny_pure ⟨rfl,h₄⟩)) fun _ _ h'=>h')) fun _ _ h'=>h'))) fun _ _ h'=>h')) fun _ _ h'=>h')
section
variable {X:Cx}{elt target iter:Expr}{scope:Scope}{pos:Pos}{caps own:List Str}{ix:List Nat}{wi:TI}{g:TG}{te:TE}
def tYes:TT:=fun _ H Q=>Q true H
abbrev TstT:=Env→(Bool→Shared→Prop)→(Value→Shared→Prop)→Shared→Prop
def LoopR (prog:Program) (w:World) (A:Around) (elt target iter:Expr) (cs:List Expr) (scope:Scope) (pos:Pos) (Tst:TstT):Prop := ∀ {R:Result→Shared→Prop}{s:Shared}{it acc:Value}{env:Env} (I:Nat→Shared→Prop)
 (turn : ∀ n s,I n s→wpAny (model prog w) A (pyNext it) (fun r s₁=>match r with
  | none=>R (.ok .next) s₁
  | some v=>wpAny (model prog w) A (letOwnedTupleGo target it v) (fun _ s₁'=>wpAny (model prog w) A (assign target env v) (fun _ s₂=>Tst env (fun b s₂'=>match b with
   | true=>wpAny (model prog w) A (eval elt env) (fun x s₃ =>
    wpAny (model prog w) A (call (.builtin "list.append") [acc,x]) (fun _ s₄ => ∃ m,m<n∧I m s₄) (notedBy (model prog w) A env fun e s'=>R (.error e) s') s₃)
    (notedBy (model prog w) A env fun e s'=>R (.error e) s') s₂'
   | false => ∃ m,m<n∧I m s₂') (notedBy (model prog w) A env fun e s'=>R (.error e) s') s₂) (notedBy (model prog w) A env fun e s'=>R (.error e) s') s₁') (notedBy (model prog w) A env fun e s'=>R (.error e) s') s₁) (notedBy (model prog w) A env fun e s'=>R (.error e) s') s)
 (n:Nat) (h:I n s),codeAny (model prog w) A (.compLoop (.ListComp elt [⟨target,iter,cs,0⟩] scope pos) 0 it acc env) R s
theorem comp_core {cs:List Expr}{tt:TT}{Tst:TstT} (hloop:LoopR X.prog X.w X.A elt target iter cs scope pos Tst) (hc:X.calm=true) (S:CompScope X.env scope caps) (hi:PI X target iter wi)
 (hg : ∀ pins s3 H ex,PG (blk X pins scope (caps++own) s3 H ex) target g)
 (he : ∀ pins s3 H ex,PE (blk X pins scope (caps++own) s3 H ex) elt te)
 (htst : ∀ pins s3 H ex pins' s σ H' Qb P E,Inv (blk X pins scope (caps++own) s3 H ex) pins' σ H' s→tt σ H' Qb→(∀ b s' H'',Inv (blk X pins scope (caps++own) s3 H ex) pins' σ H'' s'→Qb b H''→P b s')→Tst (blk X pins scope (caps++own) s3 H ex).env P E s)
 (hix:caps.length=ix.length) (hcapB:(caps.zip ix).all (fun p=>X.N[p.2]?==some p.1)=true)
 (hs : ∀ x,foldedSetIterable iter X.env x=pure x) {use:Option (Value→Sem Unit)}{Q0:Value→Shared→Prop}{Qv:VK}{pins:List (Addr×Obj)}{s:Shared}{σ:St}{H:Hp}{pos':Pos} (I:Inv X pins σ H s) {Inner:It→Hp→Prop} (h:wi σ H Inner)
 (hin : ∀ J H1,Inner J H1 → ∃ W:Nat→Nat→List V→St→Hp→Prop,(∃ m,W 0 m [] (capS ix own.length σ) H1) ∧ ∀ i m ys σ1 H2,W i m ys σ1 H2 →
 (J.stop i H2∧ys.length≤sizeLine ∧ ∀ p,H2 p=none→Qv (.ref p) (upd H2 p (.lst ys))) ∨
 (J.go i H2∧ys.length<sizeLine ∧ ∃ (N:V→St→Hp→Prop) (N0:St→Hp→Prop),(∀ y σ2 H5,N y σ2 H5 → ∃ m',m'<m∧W (i+1) m' (ys++[y]) σ2 H5)∧(∀ σ2 H5,N0 σ2 H5 → ∃ m',m'<m∧W (i+1) m' ys σ2 H5) ∧
 ∀ x H3,J.yld i H2 x H3→g x σ1 H3 fun σ2 H4=>tt σ2 H4 fun b H5=>match b with|true=>te σ2 H5 fun y H6=>N y σ2 H6|false=>N0 σ2 H5))
 (fin : ∀ (D C:Addr) (s6:Shared) (H6:Hp) (m6:Str→Option Value),s6.heap.Ns C m6→Inv X pins σ H6 s6→H6 C=none→C≠X.env.locals→C ∉ X.fs→(C ∈ X.ex∨X.s₀.heap.objs.size≤C)→(∀ x c,X.env.cells.lookup x=some c→c≠C)→(∀ p ∈ X.pn++pins,p.1≠C)→Qv (.ref D) H6 →
 compPost (model X.prog X.w) X.A X.xe use Q0 (.ref D) C (.ok .next) s6) :
 wpAny (model X.prog X.w) X.A (comprehension (.ListComp elt [⟨target,iter,cs,0⟩] scope pos) scope X.env pos' (newList []) false (eval iter X.env) use) Q0 X.xe s:=by
  have hcap : ∀ (j:Nat) (x:Str) (i:Nat),caps[j]?=some x→ix[j]?=some i→X.N[i]?=some x:=fun j x i h1 h2=>by
   have hm:(x,i) ∈ caps.zip ix:=by
    have:(caps.zip ix)[j]?=some (x,i):=by rw [List.getElem?_zip_eq_some];exact ⟨h1,h2⟩
    exact List.mem_of_getElem? this
   have:=List.all_eq_true.mp hcapB _ hm
   simpa using this
  have hnm : ∀ y ∈ scope.names,y.2 = .local→scope.names.lookup y.1=some .local:=fun y hy hl=>by
   have:=List.all_eq_true.mp S.names y hy
   rw [hl] at this
   simpa using this
  refine wpAny_comprehension_free (use:=use) rfl hs S.clos S.kind hnm (thn (hi pins s σ H _ I h) fun v s1 h1=>thn h1 fun itv s2 h2=>?_)
  obtain ⟨it,fp,tn,J,H2,e,I2,T,st2,f2,hJ⟩:=h2
  obtain ⟨W,⟨m0,w0⟩,turn⟩:=hin J H2 hJ
  subst e
  refine wpAny_newObj_type (nfe_cells ?_)
  dsimp only
  generalize eh0:s2.heap.push { cls :=.type "list",data :=.seq #[] }=h3
  have hns₁:(pushCells (h3.push { cls :=.type "dict",data :=.dict #[] }) scope.names).Ns h3.objs.size (fun _=>none):=(Heap.Ns.new h3 (.type "dict")).keeps (pushCells_keeps _ _)
  have hkp : ∀ b o,h3.get? b=some o→(pushCells (h3.push { cls :=.type "dict",data :=.dict #[] }) scope.names).get? b=some o:=fun b o q=>pushCells_keeps _ _ b o (Heap.get?_push_of_some _ q)
  have hcl₁ : ∀ x c,(nclOf scope X.env (h3.objs.size+1)).lookup x=some c→(clOf scope X.env).lookup x=some c∨(pushCells (h3.push { cls :=.type "dict",data :=.dict #[] }) scope.names).IsCell c none:=fun x c q=>by
   refine cf_cell (h:=h3.push { cls :=.type "dict",data :=.dict #[] }) ?_
   rw [Heap.size_push];exact q
  generalize pushCells (h3.push { cls :=.type "dict",data :=.dict #[] }) scope.names=h₁ at hns₁ hkp hcl₁ ⊢
  obtain ⟨s3,hs3⟩ : ∃ s3:Shared,s3={ s2 with heap:=h3 }:=⟨_,rfl⟩
  have e3:h3=s3.heap:=by rw [hs3]
  subst e3
  have eh:s3.heap=s2.heap.push { cls :=.type "list",data :=.seq ([]:List Value).toArray }:=eh0.symm
  have hC:s3.heap.objs.size=s2.heap.objs.size+1:=by rw [eh,Heap.size_push]
  have hDlt:s2.heap.objs.size<s3.heap.objs.size:=by omega
  have k23 : ∀ b o,s2.heap.get? b=some o→s3.heap.get? b=some o:=fun b o q=>by rw [eh];exact Heap.get?_push_of_some _ q
  have hD3:s3.heap.get? s2.heap.objs.size=some { cls :=.type "list",data :=.seq ([]:List Value).toArray }:=by rw [eh];exact Heap.get?_push_size _ rfl
  have I3:Inv X pins σ H2 s3:=by rw [hs3];exact I2.kept (t':=s2.toks) k23
  have k34 : ∀ b o,s3.heap.get? b=some o→h₁.get? b=some o:=hkp
  have fpl : ∀ b ∈ fp,b<s2.heap.objs.size:=fun b hb=>by
   obtain ⟨o,q,_⟩:=T.obj 0 _ st2 b hb
   exact Heap.lt_size q
  have cel : ∀ x c,X.env.cells.lookup x=some c→c<s2.heap.objs.size:=fun x c q=>by
   obtain ⟨v,o,z,_⟩:=I2.cell x c q
   exact Heap.lt_size z
  have ncl : ∀ x c,(nclOf scope X.env (s3.heap.objs.size+1)).lookup x=some c→X.env.cells.lookup x=some c∨s3.heap.objs.size<c:=fun x c q=>(S.look q).elim (fun z => .inr z.1) .inl
  have pnl : ∀ p ∈ X.pn++pins,p.1<s2.heap.objs.size:=fun p hp=>Heap.lt_size (I2.pin p hp).1
  have hDn:H2 s2.heap.objs.size=none:=I2.hok.fresh (Nat.le_refl _)
  have ok:(blk X pins scope (caps++own) s3 H2 (s2.heap.objs.size::fp)).Ok:=by
   refine ⟨I2.mod,S.kind,I2.ok.glob,I2.ok.blt,Nat.le_refl _,fun x y c h1 h2=>?_,fun x hx=>S.has _ hx,fun x c hf q=>?_,I2.ok.hd,I2.ok.frames,.inl rfl,fun b hb=>?_,I3.bs,?_,fun b o q hb=>?_,fun b hb=>?_,I3.stack,I3.stkFree⟩
   ·rcases ncl x c h1 with q1|q1
    ·rcases ncl y c h2 with q2|q2
     ·exact I2.ok.inj x y c q1 q2
     ·exact absurd (Nat.lt_trans (cel x c q1) hDlt) (Nat.not_lt.mpr (Nat.le_of_lt q2))
    ·exact cf_inj (n:=s3.heap.objs.size+1) (acc:=clOf scope X.env) (fun z a q=>Nat.lt_succ_of_lt (Nat.lt_trans (cel z a (S.sub q)) hDlt)) q1 h1 h2
   ·exact Nat.le_trans (Nat.le_succ _) (cf_above (lo:=s3.heap.objs.size+1) (Nat.le_refl _) (.inl (mem_lookup (beq_iff_eq.mp hf))) q)
   ·have hb':b=s2.heap.objs.size∨b ∈ fp:=List.mem_cons.mp hb
    rcases hb' with rfl|hb'
    ·exact ⟨Nat.ne_of_lt hDlt,fun x c q=>(ncl x c q).elim (fun z=>Nat.ne_of_lt (cel x c z)) fun z=>Nat.ne_of_gt (Nat.lt_trans hDlt z)⟩
    ·exact ⟨Nat.ne_of_lt (Nat.lt_trans (fpl b hb') hDlt),fun x c q=>(ncl x c q).elim (fun z=>(f2 b hb').2.2.2.2.1 x c z) fun z=>Nat.ne_of_gt (Nat.lt_trans (fpl b hb') (Nat.lt_trans hDlt z))⟩
   ·exact Nat.le_trans I2.ok.bsz I3.sz
   ·have hlt:b<X.base.objs.size:=Heap.lt_size q
    have hb':b=s2.heap.objs.size∨b ∈ fp:=List.mem_cons.mp hb
    have h1:=I2.ok.bsz
    have h2:=I2.sz
    rcases hb' with rfl|hb'
    ·exact absurd hlt (Nat.not_lt.mpr (Nat.le_trans h1 h2))
    ·rcases (f2 b hb').2.2.2.1 with z|z
     ·exact I2.ok.noex b o q z
     ·exact absurd hlt (Nat.not_lt.mpr (Nat.le_trans h1 z))
   ·have hb':b=s2.heap.objs.size∨b ∈ fp:=List.mem_cons.mp hb
    intro z
    have z':=I2.stkSub b z
    rcases hb' with rfl|hb'
    ·rcases List.mem_cons.mp z' with z'|z'
     ·exact Nat.ne_of_gt I2.lt z'
     ·exact I2.nofs (Nat.le_refl _) z'
    ·rcases List.mem_cons.mp z' with z'|z'
     ·exact (f2 b hb').2.1 z'
     ·exact (f2 b hb').2.2.1 z'
  have len0:(capS ix own.length σ).length=(caps++own).length:=by unfold capS;simp [hix]
  have I4:Inv (blk X pins scope (caps++own) s3 H2 (s2.heap.objs.size::fp)) [] (capS ix own.length σ) H2 { s2 with heap:=h₁ }:=by
   obtain ⟨mX,nsX,lkX⟩:=I3.loc
   refine ⟨ok,(by show s2.os=s3.os;rw [hs3]),I2.bare,Un.kept k34,⟨_,hns₁,fun j x v h1 h2 h3=>?_⟩,fun x c q=>?_,I3.hok.fresh (Nat.le_refl _),fun x c q=>(ncl x c q).elim (fun z=>I3.freeC x c z) fun z=>I3.hok.fresh (Nat.le_of_lt z),fun p hp=>?_,I3.hok.kept k34,len0⟩
   ·-- a captured name
    have hj:j<ix.length:=by
     unfold capS at h2
     by_cases hj:j<ix.length
     ·exact hj
     ·rw [List.getElem?_append_right (by simpa using hj),List.getElem?_replicate] at h2
      split at h2 <;> cases h2
    have h1':caps[j]?=some x:=by
     have:(caps++own)[j]?=some x:=h1
     rwa [List.getElem?_append_left (by omega)] at this
    have hij:ix[j]?=some ix[j]:=List.getElem?_eq_getElem hj
    have hv:σ[ix[j]]?=some (some v):=by
     unfold capS at h2
     rw [List.getElem?_append_left (by simpa using hj),List.getElem?_map,hij] at h2
     have h2':(σ[ix[j]]?).join=some v:=by simpa using h2
     cases q:σ[ix[j]]? with
     | none=>rw [q] at h2';cases h2'
     | some o=>rw [q] at h2';cases o with
      | none=>cases h2'
      | some y=>have:y=v:=by simpa using h2'
                rw [this]
    have hk:=List.all_eq_true.mp S.cap x (List.mem_of_getElem? h1')
    obtain ⟨k1,k2⟩:=Bool.and_eq_true_iff.mp hk
    have k1':scope.names.lookup x=some .free:=by simpa using k1
    have k2':X.env.scope.names.lookup x=some .cell∨X.env.scope.names.lookup x=some .free:=by simpa using k2
    obtain ⟨u,ru,lk⟩:=lkX ix[j] x v (hcap j x _ h1' hij) hv (k2'.elim (fun z => .inr (.inl z)) (fun z => .inr (.inr z)))
    refine ⟨u,ru,?_⟩
    have hrel:(relabel scope X.env).names.lookup x=some .cell∨(relabel scope X.env).names.lookup x=some .free:=by
     rcases h3 with h3|h3|h3
     ·have h3':(relabel scope X.env).names.lookup x=some NameKind.local:=h3
      obtain ⟨k',m1,m2⟩:=relabel_mem h3'
      rcases m2 with rfl|⟨_,m2⟩
      ·have:=hnm _ m1 rfl
       rw [k1'] at this;cases this
      ·cases m2
     ·exact .inl h3
     ·exact .inr h3
    have hxc:(x,NameKind.cell) ∉ scope.names:=fun z=>by
     have:=S.isC z
     rw [k1'] at this;cases this
    obtain ⟨c,hcl⟩:=S.hasF (mem_lookup k1')
    have hcl':(nclOf scope X.env (s3.heap.objs.size+1)).lookup x=some c:=(cf_old hxc).trans hcl
    rcases lk with ⟨kl,_⟩|⟨_,c',ec,ic⟩
    ·have kl':X.env.scope.names.lookup x=some .local:=kl
     rcases k2' with z|z <;> (rw [kl'] at z;cases z)
    ·have:=S.sub hcl
     have ee:c'=c:=by rw [ec] at this;exact Option.some.inj this
     exact .inr ⟨hrel,c,hcl',ee ▸ ic.keeps k34⟩
   ·rcases hcl₁ x c q with z|z
    ·obtain ⟨v,ic⟩:=I3.cell x c (S.sub z)
     exact ⟨v,ic.keeps k34⟩
    ·exact ⟨_,z⟩
   ·have hp':p ∈ X.pn++pins:=by simpa [blk] using hp
    obtain ⟨q1,q2,q3,q4,q5⟩:=I3.pin p hp'
    refine ⟨k34 _ _ q1,q2,Nat.ne_of_lt (Nat.lt_trans (pnl p hp') hDlt),fun z=>?_,q5⟩
    rcases List.mem_cons.mp (I3.stkSub p.1 z) with z'|z'
    ·exact q3 z'
    ·exact q4 z'
  have hD4:h₁.get? s2.heap.objs.size=some { cls :=.type "list",data :=.seq ([]:List Value).toArray }:=k34 _ _ hD3
  have st4:tn 0 h₁:=T.keep _ _ _ st2 fun b _ o q=>k34 b o (k23 b o q)
  have fpk : ∀ {H':Hp}{ob:Obj},(∀ b ∈ fp,H' b=none) → ∀ b ∈ fp,FpOk (blk X pins scope (caps++own) s3 H2 (s2.heap.objs.size::fp)) [(s2.heap.objs.size,ob)] H' b:=fun {H' ob} hn b hb=>by
   obtain ⟨_,a1,a2,a3,a4,a5⟩:=f2 b hb
   refine ⟨hn b hb,Nat.ne_of_lt (Nat.lt_trans (fpl b hb) hDlt),fun z=>?_,.inl (List.mem_cons_of_mem _ hb),fun x c q=>(ncl x c q).elim (fun z=>a4 x c z) fun z=>Nat.ne_of_gt (Nat.lt_trans (fpl b hb) (Nat.lt_trans hDlt z)),fun p hp=>?_⟩
   ·rcases List.mem_cons.mp (I2.stkSub b z) with z'|z'
    ·exact a1 z'
    ·exact a2 z'
   ·have hp':p ∈ X.pn++pins∨p=(s2.heap.objs.size,ob):=by simpa [blk,or_assoc] using hp
    rcases hp' with hp'|rfl
    ·exact a5 p hp'
    ·exact Nat.ne_of_gt (fpl b hb)
  have loop : ∀ s5:Shared,s5=({ s2 with heap:=h₁ }:Shared) →
   codeAny (model X.prog X.w) X.A (.compLoop (.ListComp elt [⟨target,iter,cs,0⟩] scope pos) 0 (.ref it) (.ref s2.heap.objs.size) (compEnvC scope (nclOf scope X.env (s3.heap.objs.size+1)) s3.heap.objs.size X.env))
    (compPost (model X.prog X.w) X.A X.xe use Q0 (.ref s2.heap.objs.size) s3.heap.objs.size) s5:=by
   rintro s5 rfl
   refine hloop (fun n s' => ∃ i ys its cp σ' H',Inv (blk X pins scope (caps++own) s3 H2 (s2.heap.objs.size::fp)) [] σ' H' s'∧tn i s'.heap∧(∀ b ∈ fp,H' b=none)∧H' s2.heap.objs.size=none ∧
    s'.heap.get? s2.heap.objs.size=some { cls :=.type "list",data :=.seq (its:List Value).toArray cp }∧Vals ys its∧W i n ys σ' H') ?_ m0 ⟨0,[],[],_,_,H2,I4,st4,fun b hb=>(f2 b hb).1,hDn,hD4,.nil,w0⟩
   rintro n s5 ⟨i,ys,its,cp,σ5,H5,I5,st5,fr5,hD5,gD5,rv5,w5⟩
   have Dfs:s2.heap.objs.size ∉ (blk X pins scope (caps++own) s3 H2 (s2.heap.objs.size::fp)).fs:=fun z=>by
    rcases List.mem_cons.mp (I2.stkSub _ z) with z'|z'
    ·exact Nat.ne_of_gt I2.lt z'
    ·exact I2.nofs (Nat.le_refl _) z'
   have I5':Inv (blk X pins scope (caps++own) s3 H2 (s2.heap.objs.size::fp)) [(s2.heap.objs.size,{ cls :=.type "list",data :=.seq its.toArray cp })] σ5 H5 s5:=by
    refine I5.pins_of fun p hp=>?_
    have hp':p ∈ (blk X pins scope (caps++own) s3 H2 (s2.heap.objs.size::fp)).pn++[]∨p=(s2.heap.objs.size,{ cls :=.type "list",data :=.seq its.toArray cp }):=by
     first
      | exact .inr (List.mem_singleton.mp hp)
      | (rcases List.mem_append.mp hp with z|z
         ·exact .inl (List.mem_append_left _ z)
         ·exact .inr (List.mem_singleton.mp z))
    rcases hp' with z|rfl
    ·exact I5.pin p z
    ·exact ⟨gD5,hD5,Nat.ne_of_lt hDlt,Dfs,fun v z=>by cases z⟩
   rcases turn i n ys σ5 H5 w5 with ⟨stop,hz,qn⟩|⟨go,hz,N,N0,hN,hN0,step⟩
   ·refine thn (T.done (blk X pins scope (caps++own) s3 H2 (s2.heap.objs.size::fp)) rfl rfl rfl hc i _ s5 σ5 H5 _ I5' (fpk fr5) st5 stop) fun r s6 ⟨hr,I6⟩=>?_
    subst hr
    obtain ⟨m6,ns6,_⟩:=id I6.loc
    have gD6:=(I6.pin _ (List.mem_append_right _ (List.mem_singleton.mpr rfl))).1
    have kC : ∀ b o,b≠s3.heap.objs.size→s6.heap.get? b=some o→s6.heap.get? b=some o:=fun b o _ q=>q
    have bne : ∀ b o,s2.heap.get? b=some o→b≠s3.heap.objs.size:=fun b o q=>Nat.ne_of_lt (Nat.lt_trans (Heap.lt_size q) hDlt)
    have bnD : ∀ b o,s2.heap.get? b=some o→b≠s2.heap.objs.size:=fun b o q=>Nat.ne_of_lt (Heap.lt_size q)
    have nC : ∀ b u,H5 b=some u→b≠s3.heap.objs.size:=fun b u q z=>by
     have z1:H5 s3.heap.objs.size=none:=I6.free
     rw [z,z1] at q;cases q
    have U:=I6.base
    have IX:Inv X pins σ (upd H5 s2.heap.objs.size (.lst ys)) s6:=by
     refine I2.call' (ch:=s2.heap.objs.size::fp) ?_ ?_ ?_ I6.bare ?_
     ·show s6.os=s2.os
      rw [I6.os];show s3.os=s2.os;rw [hs3]
     ·refine ⟨fun b o q n hb hx=>kC b o (bne b o q) (U.keep b o (k23 b o q) n hb hx),fun b o q n hb hx=>?_,fun b o q n hx=>?_,fun b o q hx=>?_,fun b xs q=>?_,fun b o u q=>?_,fun b ps q=>?_⟩
      ·obtain ⟨sl,z⟩:=U.slot b o (k23 b o q) n hb hx
       exact ⟨sl,kC b _ (bne b o q) z⟩
      ·rw [upd_ne (bnD b o q)];exact U.free b o (k23 b o q) n hx
      ·obtain ⟨o',z⟩:=U.there b o (k23 b o q) hx
       exact ⟨o',kC b _ (bne b o q) z⟩
      ·have:=U.tups b xs q
       rw [upd_ne (ne_of_none this hD5)];exact this
      ·have:=U.frzs b o u q
       rw [upd_ne (ne_of_none this hD5)];exact this
      ·obtain ⟨more,z,gm⟩:=U.tbls b ps q
       exact ⟨more,by rw [upd_ne (ne_of_none z hD5)];exact z,gm.mono fun b o u q=>by rw [upd_ne (ne_of_none q hD5)];exact q⟩
     ·intro b u q
      by_cases hb:b=s2.heap.objs.size
      ·subst hb
       rw [upd_same] at q
       cases q
       exact ⟨hz,its,cp,rv5,kC _ _ (Nat.ne_of_lt hDlt) gD6⟩
      ·rw [upd_ne hb] at q
       refine (I6.hok b u q).stay (fun c ob hc z=>kC c ob ?_ z) (fun c z=>by rw [upd_ne (ne_of_none z hD5)];exact z) fun c xs z=>by rw [upd_ne (ne_of_none z hD5)];exact z
       rcases hc with hc|hc
       ·rw [hc];exact nC b u q
       ·exact nC c _ hc
     ·intro b hb
      have hb':b=s2.heap.objs.size∨b ∈ fp:=List.mem_cons.mp hb
      rcases hb' with rfl|hb'
      ·exact ⟨.inr I2.sz,Nat.ne_of_gt I2.lt,fun x c q=>Nat.ne_of_lt (cel x c q),fun p hp=>Nat.ne_of_lt (pnl p hp)⟩
      ·obtain ⟨_,a1,_,a3,a4,a5⟩:=f2 b hb'
       exact ⟨a3,a1,a4,a5⟩
    have hCH:(upd H5 s2.heap.objs.size (.lst ys)) s3.heap.objs.size=none:=by
     rw [upd_ne (Nat.ne_of_gt hDlt)];exact I6.free
    exact fin _ _ s6 _ m6 ns6 IX hCH (Nat.ne_of_gt (Nat.lt_trans I2.lt hDlt)) (I2.nofs (Nat.le_of_lt hDlt)) (.inr (Nat.le_trans I2.sz (Nat.le_of_lt hDlt))) (fun x c q=>Nat.ne_of_lt (Nat.lt_trans (cel x c q) hDlt)) (fun p hp=>Nat.ne_of_lt (Nat.lt_trans (pnl p hp) hDlt)) (qn _ hD5)
   ·refine thn (T.item (blk X pins scope (caps++own) s3 H2 (s2.heap.objs.size::fp)) rfl rfl rfl hc i _ s5 σ5 H5 _ I5' (fpk fr5) st5 go) fun r s6 ⟨u,hr,h6⟩=>?_
    subst hr
    refine thn h6 fun _ s7 xx59=>?_
    obtain ⟨x,H7,I7,r7,y7,st7,fr7⟩:=xx59
    have I7':=I7.pinned (fpk fr7) (T.obj _ _ st7)
    refine wpAny_mono (hg pins s3 H2 _ _ s7 σ5 H7 x u _ I7' r7 (step x H7 y7)) (fun _ s8 xx58=>?_) fun _ _ z=>z.elim
    obtain ⟨σ8,H8,I8,q8⟩:=xx58
    refine htst pins s3 H2 _ _ s8 σ8 H8 _ _ _ I8 q8 fun bt s8' H8' I8' q8'=>?_
    cases bt with
    | false =>
     have q9:N0 σ8 H8':=q8'
     obtain ⟨m',hm',w9⟩:=hN0 σ8 H8' q9
     have gD9:=(I8'.pin (s2.heap.objs.size,{ cls :=.type "list",data :=.seq its.toArray cp }) (List.mem_append_right _ (List.mem_append_left _ (List.mem_singleton.mpr rfl))))
     have pin8 : ∀ b ∈ fp,∀ o,s7.heap.get? b=some o→s8'.heap.get? b=some o∧H8' b=none:=fun b hb o q=>by
      have z:=I8'.pin (b,o) (List.mem_append_right _ (List.mem_append_right _ (mem_pinsAt hb q)))
      exact ⟨z.1,z.2.1⟩
     refine ⟨m',hm',i+1,ys,its,cp,σ8,H8',?_,?_,fun b hb=>?_,gD9.2.1,gD9.1,rv5,w9⟩
     ·exact (I8'.pins_of (pins':=[]) (fun p hp=>by
       first
        | exact absurd hp (by simp)
        | (rw [List.append_nil] at hp;exact I8'.pin p (List.mem_append_left _ hp))))
     ·exact T.keep _ _ _ st7 fun b hb o q=>(pin8 b hb o q).1
     ·obtain ⟨o,q,_⟩:=T.obj _ _ st7 b hb
      exact (pin8 b hb o q).2
    | true =>
     refine wpAny_mono (he pins s3 H2 _ _ s8' σ8 H8' _ I8' q8') (fun uy s9 xx57=>?_) fun _ _ z=>z.elim
     obtain ⟨y,H9,I9,r9,n9⟩:=xx57
     obtain ⟨m',hm',w9⟩:=hN y σ8 H9 n9
     have gD9:=(I9.pin (s2.heap.objs.size,{ cls :=.type "list",data :=.seq its.toArray cp }) (List.mem_append_right _ (List.mem_append_left _ (List.mem_singleton.mpr rfl))))
     have pin9 : ∀ b ∈ fp,∀ o,s7.heap.get? b=some o→s9.heap.get? b=some o∧H9 b=none:=fun b hb o q=>by
      have z:=I9.pin (b,o) (List.mem_append_right _ (List.mem_append_right _ (mem_pinsAt hb q)))
      exact ⟨z.1,z.2.1⟩
     have hl9:=rv5.length
     refine call_meets PySem.F.slot_list_append ⟨_,gD9.1,rfl⟩ PySem.F.entry_list_append (PySem.F.args_list_append_2 _ _) (PySem.list_append s2.heap.objs.size its.toArray cp uy (by rw [List.size_toArray];omega)) ⟨gD9.1,?_⟩
     have qD:=PySem.IsL.update gD9.1 (fun xs=>xs.push uy)
     have ep:its.toArray.push uy=(its++[uy]).toArray:=by simp
     rw [ep] at qD
     have up : ∀ b o,b≠s2.heap.objs.size→s9.heap.get? b=some o→(s9.heap.update s2.heap.objs.size (Obj.mapSeq fun xs=>xs.push uy)).get? b=some o:=fun b o hb q=>(Heap.get?_update_other s9.heap _ (Ne.symm hb)).trans q
     refine ⟨m',hm',i+1,ys++[y],its++[uy],_,σ8,H9,?_,?_,fun b hb=>?_,gD9.2.1,qD,rv5.append (.cons r9 .nil),w9⟩
     ·refine (I9.pins_of (pins':=[]) (fun p hp=>by
       first
        | exact absurd hp (by simp)
        | (rw [List.append_nil] at hp;exact I9.pin p (List.mem_append_left _ hp)))).turned (it:=s2.heap.objs.size) up gD9.2.1 (Nat.ne_of_lt hDlt) (.inl (List.mem_cons_self ..)) (fun x c q=>(ncl x c q).elim (fun z=>Nat.ne_of_lt (cel x c z)) fun z=>Nat.ne_of_gt (Nat.lt_trans hDlt z)) fun p hp=>?_
      have hp':p ∈ X.pn++pins:=by simpa [blk] using hp
      exact Nat.ne_of_lt (pnl p hp')
     ·exact T.keep _ _ _ st7 fun b hb o q=>up b o (Nat.ne_of_lt (fpl b hb)) (pin9 b hb o q).1
     ·obtain ⟨o,q,_⟩:=T.obj _ _ st7 b hb
      exact (pin9 b hb o q).2
  exact codeAny_compStart_list (loop _ rfl) (T.self _ 0 _ _ _ st4 (loop _ rfl))
theorem comp_core0 (hc:X.calm=true) (S:CompScope X.env scope caps) (hi:PI X target iter wi)
 (hg : ∀ pins s3 H ex,PG (blk X pins scope (caps++own) s3 H ex) target g)
 (he : ∀ pins s3 H ex,PE (blk X pins scope (caps++own) s3 H ex) elt te)
 (hix:caps.length=ix.length) (hcapB:(caps.zip ix).all (fun p=>X.N[p.2]?==some p.1)=true)
 (hs : ∀ x,foldedSetIterable iter X.env x=pure x) {use:Option (Value→Sem Unit)}{Q0:Value→Shared→Prop}{Qv:VK}{pins:List (Addr×Obj)}{s:Shared}{σ:St}{H:Hp}{pos':Pos} (I:Inv X pins σ H s) (h:tComp ix own.length wi g te σ H Qv)
 (fin : ∀ (D C:Addr) (s6:Shared) (H6:Hp) (m6:Str→Option Value),s6.heap.Ns C m6→Inv X pins σ H6 s6→H6 C=none→C≠X.env.locals→C ∉ X.fs→(C ∈ X.ex∨X.s₀.heap.objs.size≤C)→(∀ x c,X.env.cells.lookup x=some c→c≠C)→(∀ p ∈ X.pn++pins,p.1≠C)→Qv (.ref D) H6 →
 compPost (model X.prog X.w) X.A X.xe use Q0 (.ref D) C (.ok .next) s6) :
 wpAny (model X.prog X.w) X.A (comprehension (.ListComp elt [⟨target,iter,[],0⟩] scope pos) scope X.env pos' (newList []) false (eval iter X.env) use) Q0 X.xe s:=by
  refine comp_core (cs:=[]) (tt:=tYes) (Tst:=fun _ P _ s=>P true s) (fun J turn n h=>codeAny_compLoop_any J turn n h) hc S hi hg he (fun _ _ _ _ _ s _ H' _ _ _ I q k=>k true s H' I q) hix hcapB hs I h (fun J H1 z=>?_) fin
  obtain ⟨W,w0,turn⟩:=z
  refine ⟨W,w0,fun i m ys σ1 H2 w=>?_⟩
  rcases turn i m ys σ1 H2 w with z|z
  ·exact .inl z
  ·obtain ⟨go,hz,N,hN,step⟩:=z
   exact .inr ⟨go,hz,N,fun _ _=>False,hN,fun _ _ z=>z.elim,step⟩
theorem pe_comp (hc:X.calm=true) (S:CompScope X.env scope caps) (hi:PI X target iter wi)
 (hg : ∀ pins s3 H ex,PG (blk X pins scope (caps++own) s3 H ex) target g)
 (he : ∀ pins s3 H ex,PE (blk X pins scope (caps++own) s3 H ex) elt te)
 (hix:caps.length=ix.length:=by rfl) (hcapB:(caps.zip ix).all (fun p=>X.N[p.2]?==some p.1)=true:=by rfl)
  (hs : ∀ x,foldedSetIterable iter X.env x=pure x:=by intro _;rfl):PE X (.ListComp elt [⟨target,iter,[],0⟩] scope pos) (tComp ix own.length wi g te):=by
  intro pins s σ H Q I h
  rw [eval_ListComp]
  exact comp_core0 (use:=none) (Q0:=EP X pins σ Q) hc S hi hg he hix hcapB hs I h fun D C s6 H6 m6 ns6 IX c1 c2 c3 c4 c5 c6 q=>⟨m6,ns6,fun h' sb=>⟨.ref D,H6,IX.turned (t':=s6.toks) (it:=C) (fun b o hb q=>sb.extBut b o hb q) c1 c2 c4 c5 c6,rfl,q⟩⟩
end
end L2
namespace L2
open PySem PySem.Spec PyProof.Rows
inductive Sl where
 | non
 | val (d:PyData)
 | own (ds:List PyData)
 | pen (ds:List PyData)
 | new (d:PyData)
 | exc (C:Addr)
  | «at» (v:V)
  | obj (a C:Addr) (nm:List Str) (fs:List (Str×PyData))
abbrev Sto:=List Sl
def gS:Sto→Nat→Sl
 | [],_ => .non
 | s::_,0=>s
 | _::r,i+1=>gS r i
def Sl.mut:Sl→Bool
 | .own _=>true
 | .pen _=>true
 | _=>false
def vS (σ:St) (i:Nat):Option V:=(σ[i]?).join
theorem gS_set : ∀ (e:Sto) (i j:Nat) (s:Sl),gS (e.set i s) j=if i=j∧i<e.length then s else gS e j
 | [],i,j,s=>by simp [gS]
 | x::e,0,0,s=>by simp [gS]
 | x::e,0,j+1,s=>by simp [gS]
 | x::e,i+1,0,s=>by simp [gS]
 | x::e,i+1,j+1,s=>by
  simp only [List.set_cons_succ,gS,gS_set e i j s,List.length_cons,Nat.add_right_cancel_iff,Nat.add_lt_add_iff_right]
theorem gS_out : ∀ {e:Sto}{i:Nat},e.length≤i→gS e i = .non
 | [],_,_=>by simp [gS]
 | x::e,0,h=>by simp at h
 | x::e,i+1,h=>by simp only [gS];exact gS_out (by simpa using h)
theorem vS_set (σ:St) (i j:Nat) (v:Option V):vS (σ.set i v) j=if i=j∧i<σ.length then v else vS σ j:=by
 unfold vS
 rw [List.getElem?_set]
 by_cases h:i=j
 ·subst h
  by_cases h2:i<σ.length
  ·simp [h2]
  ·simp [h2]
 ·simp [h]
theorem vS_some {σ:St}{i:Nat}{v:V} (h:vS σ i=some v):σ[i]?=some (some v):=by
 unfold vS at h
 cases e:σ[i]? with
 | none=>rw [e] at h;cases h
 | some o=>rw [e] at h;cases o with
  | none=>cases h
  | some u=>simpa using h
structure Frm where
 B:Hp
 He:Hp
 F0:Hp
mutual
def IsN (K:PySem.W.Frag) (H:Hp):PyData→V→Prop
 | .none,v=>v = .non
 | .bool b,v=>v = .bl b
 | .int i,v=>v = .int i
 | .str x,v=>v = .str x
 | .list l,v => ∃ a xs,v = .ref a∧H a=some (.lst xs)∧IssN K H l xs
 | .tuple l,v => ∃ a xs,v = .ref a∧H a=some (.tup xs)∧IssN K H l xs
 | .dict _,_=>False
def IssN (K:PySem.W.Frag) (H:Hp):List PyData→List V→Prop
 | [],xs=>xs=[]
 | d::l,xs => ∃ x r,xs=x::r∧IsN K H d x∧IssN K H l r
end
mutual
theorem IsN.is {K:PySem.W.Frag}{H H':Hp} (s:Same H H') : ∀ {d:PyData}{v:V},IsN K H d v→Is K H' d v
 | .none,_,h=>by unfold IsN at h;unfold Is;exact h
 | .bool _,_,h=>by unfold IsN at h;unfold Is;exact h
 | .int _,_,h=>by unfold IsN at h;unfold Is;exact h
 | .str _,_,h=>by unfold IsN at h;unfold Is;exact h
 | .list l,_,h=>by
  unfold IsN at h;unfold Is
  obtain ⟨a,xs,e,q,r⟩:=h
  exact ⟨a,xs,e,SqL.of (s _ _ q),IssN.is s r⟩
 | .tuple l,_,h=>by
  unfold IsN at h;unfold Is
  obtain ⟨a,xs,e,q,r⟩:=h
  exact ⟨a,xs,e,SqT.of (s _ _ q),IssN.is s r⟩
 | .dict _,_,h=>by unfold IsN at h;exact h.elim
theorem IssN.is {K:PySem.W.Frag}{H H':Hp} (s:Same H H') : ∀ {l:List PyData}{xs:List V},IssN K H l xs→Iss K H' l xs
 | [],_,h=>by unfold IssN at h;unfold Iss;exact h
 | d::l,_,h=>by
  unfold IssN at h;unfold Iss
  obtain ⟨x,r,e,p,q⟩:=h
  exact ⟨x,r,e,IsN.is s p,IssN.is s q⟩
end
mutual
theorem IsN.mono {K:PySem.W.Frag}{H H':Hp} (s:Same H H') : ∀ {d:PyData}{v:V},IsN K H d v→IsN K H' d v
 | .none,_,h=>by unfold IsN at h ⊢;exact h
 | .bool _,_,h=>by unfold IsN at h ⊢;exact h
 | .int _,_,h=>by unfold IsN at h ⊢;exact h
 | .str _,_,h=>by unfold IsN at h ⊢;exact h
 | .list l,_,h=>by
  unfold IsN at h ⊢
  obtain ⟨a,xs,e,q,r⟩:=h
  exact ⟨a,xs,e,s _ _ q,IssN.mono s r⟩
 | .tuple l,_,h=>by
  unfold IsN at h ⊢
  obtain ⟨a,xs,e,q,r⟩:=h
  exact ⟨a,xs,e,s _ _ q,IssN.mono s r⟩
 | .dict _,_,h=>by unfold IsN at h;exact h.elim
theorem IssN.mono {K:PySem.W.Frag}{H H':Hp} (s:Same H H') : ∀ {l:List PyData}{xs:List V},IssN K H l xs→IssN K H' l xs
 | [],_,h=>by unfold IssN at h ⊢;exact h
 | d::l,_,h=>by
  unfold IssN at h ⊢
  obtain ⟨x,r,e,p,q⟩:=h
  exact ⟨x,r,e,IsN.mono s p,IssN.mono s q⟩
end
theorem issN_nil {K:PySem.W.Frag}{H:Hp}:IssN K H [] []:=by unfold IssN;rfl
theorem issN_cons {K:PySem.W.Frag}{H:Hp}{d:PyData}{l:List PyData}{x:V}{xs:List V} (h:IsN K H d x) (r:IssN K H l xs):IssN K H (d::l) (x::xs):=by unfold IssN;exact ⟨x,xs,rfl,h,r⟩
def newF (M:Frm) (F:Hp):Hp:=fun b=>if (M.He b).isNone=true∧(M.B b).isNone=true then F b else none
theorem newF_le {M:Frm}{F:Hp}:Same (newF M F) F:=fun b o e=>by
 unfold newF at e;split at e
 ·exact .of e
 ·cases e
theorem newF_mono {M:Frm}{F F':Hp} (s:Same F F'):Same (newF M F) (newF M F'):=fun b o e=>by
 unfold newF at e ⊢;split at e
 ·rename_i h;rw [if_pos h];exact s b o e
 ·cases e
theorem newF_at {M:Frm}{F:Hp}{a:Addr}{o:HO} (h1:M.He a=none) (h2:M.B a=none) (h3:F a=some o):newF M F a=some o:=by
 unfold newF;rw [if_pos ⟨by rw [h1];rfl,by rw [h2];rfl⟩];exact h3
theorem newF_inv {M:Frm}{F:Hp}{a:Addr}{o:HO} (h:newF M F a=some o):M.He a=none∧M.B a=none∧F a=some o:=by
 unfold newF at h;split at h
 ·rename_i z;exact ⟨Option.isNone_iff_eq_none.mp z.1,Option.isNone_iff_eq_none.mp z.2,h⟩
 ·cases h
def excO (C ea:Addr):HO :=.ext fun h => ∃ o,h.get? ea=some o∧o.cls = .ref C
section
variable (K:PySem.W.Frag) (M:Frm) (F H:Hp)
def SlotOk:Sl→Option V→Prop
 | .non,_=>True
 | .val d,x => ∃ v,x=some v∧Is K F d v
 | .own ds,x => ∃ a vs,x=some (.ref a)∧H a=some (.lst vs)∧F a=none∧M.B a=none∧M.He a=none∧Iss K F ds vs
 | .pen ds,x => ∃ a vs,x=some (.ref a)∧H a=some (.lst vs)∧F a=none∧M.B a=none∧(∃ o,M.He a=some o)∧Iss K F ds vs
 | .new d,x => ∃ v,x=some v∧IsN K (newF M F) d v
 | .exc C,x => ∃ ea,x=some (.ref ea)∧F ea=some (excO C ea)
 | .at v,x=>x=some v
 | .obj a C nm fs,x => ∃ dx vs,x=some (.ref a)∧M.B a=some (.ins C dx vs)∧vs.map (·.1)=nm ∧ ∀ f d,(f,d) ∈ fs → ∃ v,vs.lookup f=some v∧Is K F d v
structure EnvOk (env:Sto) (σ:St):Prop where
 len:env.length=σ.length
 slot : ∀ i,SlotOk K M F H (gS env i) (vS σ i)
 dis : ∀ i j a,i≠j→(gS env i).mut=true→(gS env j).mut=true→vS σ i=some (.ref a)→vS σ j=some (.ref a)→False
 f0:Same M.F0 F
 fe:Same M.F0 M.He
 fh:Same F H
 bh:Same M.B H
 new : ∀ b o,F b=some o→M.F0 b=some o∨M.He b=none
 dom : ∀ b o,M.He b=some o → ∃ o',H b=some o'
end
structure Go (F H F' H':Hp):Prop where
 f:Same F F'
 h:Same H H'
 fh:Same F' H'
 new : ∀ b o,F' b=some o→F b=some o∨H b=none
theorem same_none {H H':Hp} (s:Same H H') {b:Addr} (h:H' b=none):H b=none:=s.free h
theorem Go.refl {F H:Hp} (s:Same F H):Go F H F H:=⟨.refl _,.refl _,s,fun _ _ h => .inl h⟩
theorem Go.trans {F H F1 H1 F2 H2:Hp} (a:Go F H F1 H1) (b:Go F1 H1 F2 H2):Go F H F2 H2 :=
 ⟨a.f.trans b.f,a.h.trans b.h,b.fh,fun c o h=>(b.new c o h).elim (fun q=>a.new c o q) fun q => .inr (same_none a.h q)⟩
theorem Go.put {F H:Hp}{p:Addr}{o:HO} (s:Same F H) (h:H p=none):Go F H (upd F p o) (upd H p o):=by
 refine ⟨same_new (same_none s h),same_new h,fun b u e=>?_,fun b u e=>?_⟩
 ·unfold upd at e ⊢
  split at e
  ·rename_i z;rw [if_pos z];exact .of e
  ·rename_i z;rw [if_neg z];exact s b u e
 ·unfold upd at e
  split at e
  ·rename_i z;subst z;exact .inr h
  ·exact .inl e
theorem Go.side {F H:Hp}{p:Addr}{o:HO} (s:Same F H) (h:H p=none):Go F H F (upd H p o) :=
 ⟨.refl _,same_new h,s.trans (same_new h),fun _ _ e => .inl e⟩
section
variable {K:PySem.W.Frag}{M:Frm}{F H F' H':Hp}{env:Sto}{σ:St}
theorem SlotOk.go {s:Sl}{x:Option V} (h:SlotOk K M F H s x) (g:Go F H F' H'):SlotOk K M F' H' s x:=by
 have nf : ∀ {a:Addr}{o:HO},H a=some o→F a=none→F' a=none:=fun {a o} h1 h2=>by
  cases e:F' a with
  | none=>rfl
  | some u=>rcases g.new a u e with q|q
            ·rw [h2] at q;cases q
            ·rw [h1] at q;cases q
 cases s with
 | non=>trivial
 | val d=>obtain ⟨v,e,i⟩:=h;exact ⟨v,e,i.mono g.f⟩
 | own ds=>obtain ⟨a,vs,e,h1,h2,h3,h4,h5⟩:=h;exact ⟨a,vs,e,g.h _ _ h1,nf h1 h2,h3,h4,h5.mono g.f⟩
 | pen ds=>obtain ⟨a,vs,e,h1,h2,h3,hx,h5⟩:=h;exact ⟨a,vs,e,g.h _ _ h1,nf h1 h2,h3,hx,h5.mono g.f⟩
 | new d=>obtain ⟨v,e,i⟩:=h;exact ⟨v,e,i.mono (newF_mono g.f)⟩
 | exc C=>obtain ⟨ea,e,i⟩:=h;exact ⟨ea,e,g.f.at i⟩
 | «at» v=>exact h
 | obj a0 C nm fs=>obtain ⟨dx,vs,e,b,hn,i⟩:=h;exact ⟨dx,vs,e,b,hn,fun f d m=>let ⟨v,l,j⟩:=i f d m; ⟨v,l,j.mono g.f⟩⟩
theorem EnvOk.go (I:EnvOk K M F H env σ) (g:Go F H F' H'):EnvOk K M F' H' env σ where
 len:=I.len
 slot:=fun i=>(I.slot i).go g
 dis:=I.dis
 f0:=I.f0.trans g.f
 fe:=I.fe
 fh:=g.fh
 bh:=I.bh.trans g.h
 new:=fun b o e=>(g.new b o e).elim (fun q=>I.new b o q) fun q=>by
  refine .inr ?_
  cases z:M.He b with
  | none=>rfl
  | some u=>obtain ⟨o',q'⟩:=I.dom b u z;rw [q] at q';cases q'
 dom:=fun b o e=>let ⟨o',q⟩:=I.dom b o e;g.h.any q
theorem EnvOk.he (I:EnvOk K M F H env σ) {a:Addr} (h:H a=none):M.He a=none:=by
 cases z:M.He a with
 | none=>rfl
 | some u=>obtain ⟨o',q'⟩:=I.dom a u z;rw [h] at q';cases q'
theorem EnvOk.setv (I:EnvOk K M F H env σ) {i:Nat}{d:PyData}{v:V} (h:Is K F d v):EnvOk K M F H (env.set i (.val d)) (σ.set i (some v)) where
 len:=by rw [List.length_set,List.length_set];exact I.len
 slot:=fun j=>by
  rw [gS_set,vS_set,I.len]
  split
  ·exact ⟨v,rfl,h⟩
  ·exact I.slot j
 dis:=fun j k a hjk h1 h2 h3 h4=>by
  rw [gS_set] at h1 h2
  rw [vS_set] at h3 h4
  rw [I.len] at h1 h2
  split at h1
  ·cases h1
  ·rename_i z1
   split at h2
   ·cases h2
   ·rename_i z2
    rw [if_neg z1] at h3
    rw [if_neg z2] at h4
    exact I.dis j k a hjk h1 h2 h3 h4
 f0:=I.f0
 fe:=I.fe
 fh:=I.fh
 bh:=I.bh
 new:=I.new
 dom:=I.dom
theorem EnvOk.seto (I:EnvOk K M F H env σ) {i:Nat}{ds:List PyData}{a:Addr}{vs:List V} (h1:H a=some (.lst vs)) (h2:F a=none) (h3:M.B a=none) (h4:M.He a=none)
 (h5 : ∀ j,(gS env j).mut=true→vS σ j≠some (.ref a)) (h6:Iss K F ds vs):EnvOk K M F H (env.set i (.own ds)) (σ.set i (some (.ref a))) where
  len:=by rw [List.length_set,List.length_set];exact I.len
  slot:=fun j=>by
   rw [gS_set,vS_set,I.len]
   split
   ·exact ⟨a,vs,rfl,h1,h2,h3,h4,h6⟩
   ·exact I.slot j
  dis:=fun j k b hjk m1 m2 e1 e2=>by
   rw [gS_set] at m1 m2
   rw [vS_set] at e1 e2
   rw [I.len] at m1 m2
   by_cases z1:i=j∧i<σ.length
   ·rw [if_pos z1] at m1 e1
    have z2 : ¬ (i=k∧i<σ.length):=fun z=>hjk (z1.1.symm.trans z.1)
    rw [if_neg z2] at m2 e2
    injection e1 with e1;injection e1 with e1;subst e1
    exact h5 k m2 e2
   ·rw [if_neg z1] at m1 e1
    by_cases z2:i=k∧i<σ.length
    ·rw [if_pos z2] at m2 e2
     injection e2 with e2;injection e2 with e2;subst e2
     exact h5 j m1 e1
    ·rw [if_neg z2] at m2 e2
     exact I.dis j k b hjk m1 m2 e1 e2
  f0:=I.f0
  fe:=I.fe
  fh:=I.fh
  bh:=I.bh
  new:=I.new
  dom:=I.dom
def Sl.upd:Sl→List PyData→Sl
 | .own _,ds => .own ds
 | .pen _,ds => .pen ds
 | s,_=>s
def Sl.cnt:Sl→List PyData
 | .own ds=>ds
 | .pen ds=>ds
 | _=>[]
theorem SlotOk.addr {s:Sl}{x:Option V} (h:SlotOk K M F H s x) (m:s.mut=true) : ∃ a vs,x=some (.ref a)∧H a=some (.lst vs)∧F a=none∧M.B a=none∧Iss K F s.cnt vs:=by
 cases s with
 | non=>cases m
 | val d=>cases m
 | own ds=>obtain ⟨a,vs,e,h1,h2,h3,h4,h5⟩:=h;exact ⟨a,vs,e,h1,h2,h3,h5⟩
 | pen ds=>obtain ⟨a,vs,e,h1,h2,h3,hx,h5⟩:=h;exact ⟨a,vs,e,h1,h2,h3,h5⟩
 | new d=>cases m
 | exc C=>cases m
 | «at» v=>cases m
 | obj a0 C nm fs=>cases m
theorem gS_lt {e:Sto}{i:Nat} (h:(gS e i).mut=true):i<e.length:=by
 by_cases z:i<e.length
 ·exact z
 ·rw [gS_out (by omega)] at h;cases h
theorem EnvOk.chg (I:EnvOk K M F H env σ) {i:Nat}{a:Addr}{ds:List PyData}{vs:List V} (m:(gS env i).mut=true) (ea:vS σ i=some (.ref a)) (h:Iss K F ds vs):EnvOk K M F (upd H a (.lst vs)) (env.set i ((gS env i).upd ds)) σ:=by
 obtain ⟨a',vs0,e,h1,h2,h3,h5⟩:=(I.slot i).addr m
 rw [ea] at e;injection e with e;injection e with e;subst e
 have hi:=gS_lt m
 have mu:((gS env i).upd ds).mut=true:=by
  cases q:gS env i with
  | non=>rw [q] at m;cases m
  | val d=>rw [q] at m;cases m
  | own d=>rfl
  | pen d=>rfl
  | new d=>rw [q] at m;cases m
  | exc C=>rw [q] at m;cases m
  | «at» v=>rw [q] at m;cases m
  | obj a0 C nm fs=>rw [q] at m;cases m
 have muj : ∀ j,(gS (env.set i ((gS env i).upd ds)) j).mut=(gS env j).mut:=fun j=>by
  rw [gS_set]
  split
  ·rename_i z;rw [mu,← z.1,m]
  ·rfl
 refine ⟨by rw [List.length_set];exact I.len,fun j=>?_,fun j k b hjk m1 m2 e1 e2=>I.dis j k b hjk (muj j ▸ m1) (muj k ▸ m2) e1 e2,I.f0,I.fe,fun b o e=>?_,fun b o e=>?_,I.new,fun b o e=>?_⟩
 ·rw [gS_set]
  by_cases z:i=j
  ·subst z
   rw [if_pos ⟨rfl,hi⟩]
   have S:=I.slot i
   cases q:gS env i with
   | non=>rw [q] at m;cases m
   | val d=>rw [q] at m;cases m
   | own ds0 =>
    rw [q] at S
    obtain ⟨a',vs',e,g1,g2,g3,g4,g5⟩:=S
    rw [ea] at e;injection e with e;injection e with e;subst e
    exact ⟨a,vs,ea,upd_same,g2,g3,g4,h⟩
   | pen ds0 =>
    rw [q] at S
    obtain ⟨a',vs',e,g1,g2,g3,gx,g5⟩:=S
    rw [ea] at e;injection e with e;injection e with e;subst e
    exact ⟨a,vs,ea,upd_same,g2,g3,gx,h⟩
   | new d=>rw [q] at m;cases m
   | exc C=>rw [q] at m;cases m
   | «at» v=>rw [q] at m;cases m
   | obj a0 C nm fs=>rw [q] at m;cases m
  ·rw [if_neg (fun y=>z y.1)]
   have S:=I.slot j
   cases q:gS env j with
   | non=>trivial
   | val d=>rw [q] at S;exact S
   | own ds0 =>
    rw [q] at S
    obtain ⟨b,vs',e,g1,g2,g3,g4,g5⟩:=S
    have hb:b≠a:=fun y=>by subst y;exact I.dis i j b z m (by rw [q];rfl) ea e
    exact ⟨b,vs',e,by rw [upd_ne hb];exact g1,g2,g3,g4,g5⟩
   | pen ds0 =>
    rw [q] at S
    obtain ⟨b,vs',e,g1,g2,g3,gx,g5⟩:=S
    have hb:b≠a:=fun y=>by subst y;exact I.dis i j b z m (by rw [q];rfl) ea e
    exact ⟨b,vs',e,by rw [upd_ne hb];exact g1,g2,g3,gx,g5⟩
   | new d=>rw [q] at S;exact S
   | exc C=>rw [q] at S;exact S
   | «at» v=>rw [q] at S;exact S
   | obj a0 C nm fs=>rw [q] at S;exact S
 ·rw [upd_ne (ne_of_none e h2)];exact I.fh b o e
 ·rw [upd_ne (ne_of_none e h3)];exact I.bh b o e
 ·obtain ⟨o',q⟩:=I.dom b o e
  by_cases z:b=a
  ·subst z;exact ⟨_,upd_same⟩
  ·exact ⟨o',by rw [upd_ne z];exact q⟩
theorem EnvOk.frz (I:EnvOk K M F H env σ) {a:Addr}{vs:List V} (h1:H a=some (.lst vs)) (h2:F a=none) (h4:M.He a=none) (h5 : ∀ j,(gS env j).mut=true→vS σ j≠some (.ref a)) :
 EnvOk K M (upd F a (.lst vs)) H env σ∧Same F (upd F a (.lst vs)):=by
  have sF:Same F (upd F a (.lst vs)):=same_new h2
  refine ⟨⟨I.len,fun j=>?_,I.dis,I.f0.trans sF,I.fe,fun b o e=>?_,I.bh,fun b o e=>?_,I.dom⟩,sF⟩
  ·have S:=I.slot j
   have n5:=h5 j
   cases q:gS env j with
   | non=>trivial
   | val d=>rw [q] at S;obtain ⟨v,e,i⟩:=S;exact ⟨v,e,i.mono sF⟩
   | own ds0 =>
    rw [q] at S n5
    obtain ⟨b,vs',e,g1,g2,g3,g4,g5⟩:=S
    have hb:b≠a:=fun y=>by subst y;exact n5 rfl e
    exact ⟨b,vs',e,g1,by rw [upd_ne hb];exact g2,g3,g4,g5.mono sF⟩
   | pen ds0 =>
    rw [q] at S n5
    obtain ⟨b,vs',e,g1,g2,g3,gx,g5⟩:=S
    have hb:b≠a:=fun y=>by subst y;exact n5 rfl e
    exact ⟨b,vs',e,g1,by rw [upd_ne hb];exact g2,g3,gx,g5.mono sF⟩
   | new d=>rw [q] at S;obtain ⟨v,e,i⟩:=S;exact ⟨v,e,i.mono (newF_mono sF)⟩
   | exc C=>rw [q] at S;obtain ⟨ea,e,i⟩:=S;exact ⟨ea,e,sF.at i⟩
   | «at» v=>rw [q] at S;exact S
   | obj a0 C nm fs=>rw [q] at S;obtain ⟨dx,vs',e,b',hn,i⟩:=S;exact ⟨dx,vs',e,b',hn,fun f d m=>let ⟨v,l,j⟩:=i f d m; ⟨v,l,j.mono sF⟩⟩
  ·by_cases z:b=a
   ·subst z;rw [upd_same] at e;rw [h1];exact .of e
   ·rw [upd_ne z] at e;exact I.fh b o e
  ·by_cases z:b=a
   ·subst z;exact .inr h4
   ·rw [upd_ne z] at e;exact I.new b o e
theorem EnvOk.drop (I:EnvOk K M F H env σ) (i:Nat):EnvOk K M F H (env.set i .non) σ where
 len:=by rw [List.length_set];exact I.len
 slot:=fun j=>by
  rw [gS_set]
  split
  ·trivial
  ·exact I.slot j
 dis:=fun j k a hjk h1 h2 h3 h4=>by
  rw [gS_set] at h1 h2
  split at h1
  ·cases h1
  ·split at h2
   ·cases h2
   ·exact I.dis j k a hjk h1 h2 h3 h4
 f0:=I.f0
 fe:=I.fe
 fh:=I.fh
 bh:=I.bh
 new:=I.new
 dom:=I.dom
theorem EnvOk.tell (I:EnvOk K M F H env σ) {i:Nat}{d:PyData}{v:V} (e:vS σ i=some v) (h:Is K F d v):EnvOk K M F H (env.set i (.val d)) σ where
 len:=by rw [List.length_set];exact I.len
 slot:=fun j=>by
  rw [gS_set]
  split
  ·rename_i z;rw [← z.1];exact ⟨v,e,h⟩
  ·exact I.slot j
 dis:=fun j k a hjk h1 h2 h3 h4=>by
  rw [gS_set] at h1 h2
  split at h1
  ·cases h1
  ·split at h2
   ·cases h2
   ·exact I.dis j k a hjk h1 h2 h3 h4
 f0:=I.f0
 fe:=I.fe
 fh:=I.fh
 bh:=I.bh
 new:=I.new
 dom:=I.dom
def Sl.fz:Sl→Sl
 | .own ds => .val (.list ds)
 | s=>s
theorem EnvOk.freeze (I:EnvOk K M F H env σ) (i:Nat) : ∃ F',EnvOk K M F' H (env.set i (gS env i).fz) σ∧Same F F':=by
 have same : ∀ s,gS env i=s→env.set i s=env:=fun s h=>by
  subst h
  apply List.ext_getElem?
  intro j
  rw [List.getElem?_set]
  split
  ·rename_i z
   subst z
   split
   ·rename_i hi
    have : ∀ (e:Sto) (n:Nat) (h:n<e.length),some (gS e n)=e[n]?:=by
     intro e
     induction e with
     | nil=>intro n h;simp at h
     | cons x e ih=>intro n h;cases n with
      | zero=>rfl
      | succ n=>simp only [gS,List.getElem?_cons_succ];exact ih n (by simpa using h)
    exact this env i hi
   ·rename_i hi
    rw [List.getElem?_eq_none (by omega)]
  ·rfl
 cases q:gS env i with
 | non=>exact ⟨F,by rw [show Sl.fz .non = .non from rfl,same _ q];exact I,.refl _⟩
 | val d=>exact ⟨F,by rw [show Sl.fz (.val d) = .val d from rfl,same _ q];exact I,.refl _⟩
 | pen ds=>exact ⟨F,by rw [show Sl.fz (.pen ds) = .pen ds from rfl,same _ q];exact I,.refl _⟩
 | new d=>exact ⟨F,by rw [show Sl.fz (.new d) = .new d from rfl,same _ q];exact I,.refl _⟩
 | exc C=>exact ⟨F,by rw [show Sl.fz (.exc C) = .exc C from rfl,same _ q];exact I,.refl _⟩
 | «at» v=>exact ⟨F,by rw [show Sl.fz (.at v) = .at v from rfl,same _ q];exact I,.refl _⟩
 | obj a0 C nm fs=>exact ⟨F,by rw [show Sl.fz (.obj a0 C nm fs) = .obj a0 C nm fs from rfl,same _ q];exact I,.refl _⟩
 | own ds =>
  have S:=I.slot i
  rw [q] at S
  obtain ⟨a,vs,e,h1,h2,h3,h4,h5⟩:=S
  obtain ⟨J,s⟩:=(I.drop i).frz h1 h2 h4 (fun j m z=>by
   rw [gS_set] at m
   split at m
   ·cases m
   ·rename_i hn
    by_cases hij:i=j
    ·subst hij
     exact hn ⟨rfl,gS_lt (by rw [q];rfl)⟩
    ·exact I.dis i j a hij (by rw [q];rfl) m e z)
  have T:=J.tell (i:=i) (d :=.list ds) e (is_lst (SqL.of upd_same) (h5.mono s))
  rw [List.set_set] at T
  exact ⟨_,T,s⟩
end
end L2
namespace L2
open PySem PySem.Spec PyProof.Rows
abbrev WE:=Sto→(PyData→Sto→Prop)→Prop
abbrev WF:=Sto→(List PyData→Sto→Prop)→Prop
abbrev WT:=Sto→(Bool→Sto→Prop)→Prop
inductive Ret where
 | val (d:PyData)
 | own (ds:List PyData)
 | new (d:PyData)
def Ret.data:Ret→PyData
 | .val d=>d
 | .own ds => .list ds
 | .new d=>d
structure WEnds where
 nx:Sto→Prop
 rt:Ret→Sto→Prop
 bk:Sto→Prop:=fun _=>False
 ct:Sto→Prop:=fun _=>False
abbrev WS:=WEnds→Sto→Prop
abbrev WG:=PyData→Sto→(Sto→Prop)→Prop
abbrev WGs:=List PyData→Sto→(Sto→Prop)→Prop
abbrev D2:=PyData→PyData→(PyData→Prop)→Prop
abbrev DC:=List PyData→(PyData→Prop)→Prop
section
variable (K:PySem.W.Frag)
def liftE (W:WE):TE:=fun σ H R => ∃ M env F Q,EnvOk K M F H env σ∧W env Q ∧ ∀ d v F' H' env',EnvOk K M F' H' env' σ→Same F F'→Is K F' d v→Q d env'→R v H'
def liftF (W:WF):TE:=fun σ H R => ∃ M env F Q,EnvOk K M F H env σ∧W env Q ∧ ∀ a vs ds F' H' env',EnvOk K M F' H' env' σ→Same F F'→H' a=some (.lst vs)→F' a=none→M.B a=none→M.He a=none →
 (∀ i,(gS env' i).mut=true→vS σ i≠some (.ref a))→Iss K F' ds vs→Q ds env'→R (.ref a) H'
def liftA (W:WF):TA:=fun σ H R => ∃ M env F Q,EnvOk K M F H env σ∧W env Q ∧ ∀ ds vs F' H' env',EnvOk K M F' H' env' σ→Same F F'→Iss K F' ds vs→Q ds env'→R vs H'
def liftT (W:WT):TT:=fun σ H R => ∃ M env F Q,EnvOk K M F H env σ∧W env Q ∧ ∀ b F' H' env',EnvOk K M F' H' env' σ→Same F F'→Q b env'→R b H'
def RetOk (M:Frm) (F H:Hp):Ret→V→Prop
 | .val d,v=>Is K F d v
 | .own ds,v => ∃ a vs,v = .ref a∧H a=some (.lst vs)∧F a=none∧M.B a=none∧M.He a=none∧Iss K F ds vs
 | .new d,v=>IsN K (newF M F) d v
structure EndsOk (M:Frm) (F:Hp) (DD:WEnds) (D:Ends):Prop where
 nx : ∀ env' F' H' σ',EnvOk K M F' H' env' σ'→Same F F'→DD.nx env'→D.nx σ' H'
 rt : ∀ r v env' F' H' σ',EnvOk K M F' H' env' σ'→Same F F'→RetOk K M F' H' r v→DD.rt r env'→D.rt v H'
 bk : ∀ env' F' H' σ',EnvOk K M F' H' env' σ'→Same F F'→DD.bk env'→D.bk σ' H'
 ct : ∀ env' F' H' σ',EnvOk K M F' H' env' σ'→Same F F'→DD.ct env'→D.ct σ' H'
def liftS (W:WS):TS:=fun D σ H => ∃ M env F DD,EnvOk K M F H env σ∧W DD env∧EndsOk K M F DD D
def liftG (W:WG):TG:=fun v σ H R => ∃ M env F d Q,EnvOk K M F H env σ∧Is K F d v∧W d env Q ∧ ∀ F' H' env' σ',EnvOk K M F' H' env' σ'→Same F F'→Q env'→R σ' H'
def liftGs (W:WGs):TGs:=fun vs σ H R => ∃ M env F ds Q,EnvOk K M F H env σ∧Iss K F ds vs∧W ds env Q ∧ ∀ F' H' env' σ',EnvOk K M F' H' env' σ'→Same F F'→Q env'→R σ' H'
def lift2 (r:D2):R2:=fun x y H Q => ∃ F dx dy q,Same F H∧Is K F dx x∧Is K F dy y∧r dx dy q ∧ ∀ d v F' H',Go F H F' H'→Is K F' d v→q d→Q v H'
def liftC (r:DC):List V→Hp→VK→Prop:=fun vs H Q => ∃ F ds q,Same F H∧Iss K F ds vs∧r ds q ∧ ∀ d v F' H',Go F H F' H'→Is K F' d v→q d→Q v H'
def liftCF (r:List PyData→(List PyData→Prop)→Prop):List V→Hp→VK→Prop:=fun vs H Q => ∃ F ds q,Same F H∧Iss K F ds vs∧r ds q ∧ ∀ l a xs F' H',Go F H F' H'→H a=none→F' a=none→H' a=some (.lst xs)→Iss K F' l xs→q l→Q (.ref a) H'
structure ItD (J:It) (F:Hp) (ds:List PyData):Prop where
 go : ∀ i H,Same F H→i<ds.length→J.go i H
 stop : ∀ H,Same F H→J.stop ds.length H
 yld : ∀ i H x H' F1,Same F F1→Same F1 H→i<ds.length→J.yld i H x H' → ∃ d F2,ds[i]?=some d∧Go F1 H F2 H'∧Is K F2 d x
def liftI (W:WF):TI:=fun σ H R => ∃ M env F Q,EnvOk K M F H env σ∧W env Q ∧ ∀ ds J F' H' env',EnvOk K M F' H' env' σ→Same F F'→ItD K J F' ds→Q ds env'→R J H'
end
section
variable {K:PySem.W.Frag}{M:Frm}{F F':Hp}{DD:WEnds}{D:Ends}
theorem EndsOk.mono (h:EndsOk K M F DD D) (s:Same F F'):EndsOk K M F' DD D :=
 ⟨fun e f g i j k=>h.nx e f g i j (s.trans k),fun r v e f g i j k=>h.rt r v e f g i j (s.trans k),fun e f g i j k=>h.bk e f g i j (s.trans k),fun e f g i j k=>h.ct e f g i j (s.trans k)⟩
end
def VE (X:Cx) (e:Expr) (W:WE):Prop:=PE X e (liftE X.K W)
def VF (X:Cx) (e:Expr) (W:WF):Prop:=PE X e (liftF X.K W)
def VA (X:Cx) (e:List Expr) (W:WF):Prop:=PA X e (liftA X.K W)
def VT (X:Cx) (e:Expr) (W:WT):Prop:=PT X e (liftT X.K W)
def VW (X:Cx) (e:Expr) (W:WT):Prop:=PW X e (liftT X.K W)
theorem VW.pt {X:Cx}{e:Expr}{W:WT} (h:VW X e W):VT X e W:=PW.pt h
def VS (X:Cx) (st:Stmt) (W:WS):Prop:=PS X st (liftS X.K W)
def VSs (X:Cx) (st:List Stmt) (W:WS):Prop:=PSs X st (liftS X.K W)
def VG (X:Cx) (e:Expr) (W:WG):Prop:=PG X e (liftG X.K W)
def VGs (X:Cx) (e:List Expr) (W:WGs):Prop:=PGs X e (liftGs X.K W)
def VI (X:Cx) (tg e:Expr) (W:WF):Prop:=PI X tg e (liftI X.K W)
def OpV (X:Cx) (f:Value→Value→Sem Value) (r:D2):Prop:=OpR X f (lift2 X.K r)
def CallV (X:Cx) (f:Value) (r:DC):Prop:=CallR X f (liftC X.K r)
def CallVF (X:Cx) (f:Value) (r:List PyData→(List PyData→Prop)→Prop):Prop:=CallR X f (liftCF X.K r)
section
variable {X:Cx}
theorem PE.imp {e:Expr}{t t':TE} (h:PE X e t) (i : ∀ σ H Q,t' σ H Q→t σ H Q):PE X e t':=fun pins s σ H Q I q=>h pins s σ H Q I (i σ H Q q)
theorem PA.imp {e:List Expr}{t t':TA} (h:PA X e t) (i : ∀ σ H Q,t' σ H Q→t σ H Q):PA X e t':=fun pos pins s σ H Q I q=>h pos pins s σ H Q I (i σ H Q q)
theorem PT.imp {e:Expr}{t t':TT} (h:PT X e t) (i : ∀ σ H Q,t' σ H Q→t σ H Q):PT X e t':=fun pins s σ H Q I q=>h pins s σ H Q I (i σ H Q q)
theorem PW.imp {e:Expr}{t t':TT} (h:PW X e t) (i : ∀ σ H Q,t' σ H Q→t σ H Q):PW X e t':=fun wh pins s σ H Q I q=>h wh pins s σ H Q I (i σ H Q q)
theorem PS.imp {e:Stmt}{t t':TS} (h:PS X e t) (i : ∀ D σ H,t' D σ H→t D σ H):PS X e t':=fun pins s σ H D I q=>h pins s σ H D I (i D σ H q)
theorem PSs.imp {e:List Stmt}{t t':TS} (h:PSs X e t) (i : ∀ D σ H,t' D σ H→t D σ H):PSs X e t':=fun pins s σ H D I q=>h pins s σ H D I (i D σ H q)
theorem PG.imp {e:Expr}{t t':TG} (h:PG X e t) (i : ∀ v σ H Q,t' v σ H Q→t v σ H Q):PG X e t':=fun pins s σ H v u Q I r q=>h pins s σ H v u Q I r (i v σ H Q q)
theorem PGs.imp {e:List Expr}{t t':TGs} (h:PGs X e t) (i : ∀ v σ H Q,t' v σ H Q→t v σ H Q):PGs X e t':=fun pins s σ H v u Q I r q=>h pins s σ H v u Q I r (i v σ H Q q)
theorem PI.imp {tg e:Expr}{t t':TI} (h:PI X tg e t) (i : ∀ σ H Q,t' σ H Q→t σ H Q):PI X tg e t':=fun pins s σ H Q I q=>h pins s σ H Q I (i σ H Q q)
theorem OpR.imp {f:Value→Value→Sem Value}{r r':R2} (h:OpR X f r) (i : ∀ x y H Q,r' x y H Q→r x y H Q):OpR X f r':=fun pins s σ H x y v u Q I a b q=>h pins s σ H x y v u Q I a b (i x y H Q q)
theorem CallR.imp {f:Value}{r r':List V→Hp→VK→Prop} (h:CallR X f r) (i : ∀ x H Q,r' x H Q→r x H Q):CallR X f r':=fun pins s σ H x u Q I a q=>h pins s σ H x u Q I a (i x H Q q)
theorem IxR.imp {r r':R2} (h:IxR X r) (i : ∀ x y H Q,r' x y H Q→r x y H Q):IxR X r':=fun value slice pins s σ H x y v u Q I a b q=>h value slice pins s σ H x y v u Q I a b (i x y H Q q)
def wVar (i:Nat):WE:=fun env Q=>match gS env i with | .val d=>Q d env | .new d=>Q d env|_=>False
theorem ve_var (i:Nat) {x:Str}{pos:Pos} (hN:X.N[i]?=some x:=by rfl) (hv:Vis X.env.scope x:=by first|exact Or.inl rfl|exact Or.inr (Or.inl rfl)|exact Or.inr (Or.inr rfl)) (hd:(x==("__debug__" : Str))=false:=by decide)
 (hcd:(x==("__classdict__" : Str))=false:=by decide):VE X (.Name x pos) (wVar i):=(pe_var hN hv hd hcd).imp fun σ H R xx62=>by
 obtain ⟨M,env,F,Q,I,h,k⟩:=xx62
 have S:=I.slot i
 unfold wVar at h
 cases q:gS env i with
 | val d =>
  rw [q] at S h
  obtain ⟨v,e,j⟩:=S
  exact ⟨v,vS_some e,k d v F H env I (.refl _) j h⟩
 | new d =>
  rw [q] at S h
  obtain ⟨v,e,j⟩:=S
  exact ⟨v,vS_some e,k d v F H env I (.refl _) (j.is newF_le) h⟩
 | non=>rw [q] at h;exact h.elim
 | own ds=>rw [q] at h;exact h.elim
 | pen ds=>rw [q] at h;exact h.elim
 | exc C=>rw [q] at h;exact h.elim
 | «at» v=>rw [q] at h;exact h.elim
 | obj a0 C nm fs=>rw [q] at h;exact h.elim
def wC (d:PyData):WE:=fun env Q=>Q d env
theorem ve_c {e:Expr}{v:V}{d:PyData} (h:PE X e (tC v)) (i : ∀ F,Is X.K F d v):VE X e (wC d):=h.imp fun σ H R xx63=>by obtain ⟨M,env,F,Q,I,h,k⟩:=xx63;exact k d v F H env I (.refl _) (i F) h
theorem ve_int {i j pos}:VE X (.Constant (.int i) j pos) (wC (.int i)):=ve_c pe_int fun _=>is_int i
theorem ve_bl {b j pos}:VE X (.Constant (.bool b) j pos) (wC (.bool b)):=ve_c pe_bl fun _=>is_bl b
theorem ve_globI {x:Str}{i:Int}{pos:Pos} (h : ∃ t,X.mg x=some (.int i t)) (hg:Gl X x:=by rfl) (hd:(x==("__debug__" : Str))=false:=by decide):VE X (.Name x pos) (wC (.int i)):=by
 obtain ⟨t,hm⟩:=h
 exact ve_c (pe_glob (v :=.int i) hg hm ⟨t,rfl⟩ hd) fun _=>is_int i
def wOp (r:D2) (Wa Wb:WE):WE:=fun env Q=>Wa env fun x e1=>Wb e1 fun y e2=>r x y fun d=>Q d e2
theorem op_lift {r:D2}{Wa Wb:WE}{σ:St}{H:Hp}{R:VK} (h:liftE X.K (wOp r Wa Wb) σ H R):tOp (lift2 X.K r) (liftE X.K Wa) (liftE X.K Wb) σ H R:=by
 obtain ⟨M,env,F,Q,I,h,k⟩:=h
 exact ⟨M,env,F,_,I,h,fun d v F1 H1 e1 I1 s1 i1 h1=>⟨M,e1,F1,_,I1,h1,fun d2 v2 F2 H2 e2 I2 s2 i2 h2 =>
  ⟨F2,d,d2,_,I2.fh,i1.mono s2,i2,h2,fun d3 v3 F3 H3 g i3 q=>k d3 v3 F3 H3 e2 (I2.go g) (s1.trans (s2.trans g.f)) i3 q⟩⟩⟩
section
variable {a b c:Expr}{Wa Wb Wc:WE}{pos:Pos}
theorem ve_op {op:Operator}{r:D2} (ho:OpV X (binaryOp op) r) (ha:VE X a Wa) (hb:VE X b Wb):VE X (.BinOp a op b pos) (wOp r Wa Wb) :=
 (pe_op ho ha hb).imp fun _ _ _ h=>op_lift h
theorem ve_cmp {op:CmpOp}{r:D2} (ho:OpV X (compareOp op) r) (ha:VE X a Wa) (hb:VE X b Wb) (hm:behindInMarks op b=false:=by first|exact nomark _|with_unfolding_all rfl):VE X (.Compare a [op] [b] pos) (wOp r Wa Wb) :=
 (pe_cmpR ho ha hb hm).imp fun _ _ _ h=>op_lift h
def wTest (W:WE):WT:=fun env Q=>W env fun d e=>match d with | .bool b=>Q b e|_=>False
theorem test_lift {W:WE}{σ:St}{H:Hp}{R:Bool→Hp→Prop} (h:liftT X.K (wTest W) σ H R):liftE X.K W σ H fun x H' => ∃ k,x = .bl k∧R k H':=by
 obtain ⟨M,env,F,Q,I,h,k⟩:=h
 refine ⟨M,env,F,_,I,h,fun d v F1 H1 e1 I1 s1 i1 h1=>?_⟩
 cases d with
 | bool b=>exact ⟨b,i1.bl_inv,k b F1 H1 e1 I1 s1 h1⟩
 | _=>exact False.elim h1
theorem vt_cmp {op:CmpOp}{r:D2} (ho:OpV X (compareOp op) r) (ha:VE X a Wa) (hb:VE X b Wb) (hm:behindInMarks op b=false:=by first|exact nomark _|with_unfolding_all rfl):VT X (.Compare a [op] [b] pos) (wTest (wOp r Wa Wb)) :=
 (pt_cmpR ho ha hb hm).imp fun σ H R h=>op_lift (test_lift h)
theorem vt_val {e:Expr}{W:WE} (h:VE X e W) (he : ∀ whole,isTrue e X.env whole=(do let v ← whole;standAt e.pos;holding [v] (truthy v)):=by intro _;rfl):VT X e (wTest W) :=
 (pt_val h he).imp fun σ H R h=>test_lift h
def wChain (r r':D2) (Wa Wb Wc:WE):WE:=fun env Q=>Wa env fun x e1=>Wb e1 fun y e2=>r x y fun z=>match z with
 | .bool k=>if k=true then Wc e2 fun w e3=>r' y w fun d=>Q d e3 else Q (.bool false) e2
 | _=>False
theorem chain_lift {r r':D2}{σ:St}{H:Hp}{R:VK} (h:liftE X.K (wChain r r' Wa Wb Wc) σ H R):tChain (lift2 X.K r) (lift2 X.K r') (liftE X.K Wa) (liftE X.K Wb) (liftE X.K Wc) σ H R:=by
 obtain ⟨M,env,F,Q,I,h,k⟩:=h
 refine ⟨M,env,F,_,I,h,fun d v F1 H1 e1 I1 s1 i1 h1=>⟨M,e1,F1,_,I1,h1,fun d2 v2 F2 H2 e2 I2 s2 i2 h2=>⟨F2,d,d2,_,I2.fh,i1.mono s2,i2,h2,fun d3 v3 F3 H3 g i3 q=>?_⟩⟩⟩
 have I3:=I2.go g
 have s3:=s1.trans (s2.trans g.f)
 cases d3 with
 | bool b =>
  refine ⟨b,i3.bl_inv,?_⟩
  cases b with
  | false=>exact iteF (k _ _ F3 H3 e2 I3 s3 (is_bl false) q)
  | true=>exact iteT ⟨M,e2,F3,_,I3,q,fun d4 v4 F4 H4 e4 I4 s4 i4 h4=>⟨F4,d2,d4,_,I4.fh,(i2.mono g.f).mono s4,i4,h4,fun d5 v5 F5 H5 g5 i5 q5=>k d5 v5 F5 H5 e4 (I4.go g5) (s3.trans (s4.trans g5.f)) i5 q5⟩⟩
 | _=>exact False.elim q
theorem ve_chain {op op':CmpOp}{r r':D2} (ho:OpV X (compareOp op) r) (ho':OpV X (compareOp op') r') (ha:VE X a Wa) (hb:VE X b Wb) (hc:VE X c Wc)
 (hm:lastMarks [op,op'] [b,c]=false:=by with_unfolding_all rfl):VE X (.Compare a [op,op'] [b,c] pos) (wChain r r' Wa Wb Wc):=(pe_chain ho ho' ha hb hc hm).imp fun _ _ _ h=>chain_lift h
theorem vt_chain {op op':CmpOp}{r r':D2} (ho:OpV X (compareOp op) r) (ho':OpV X (compareOp op') r') (ha:VE X a Wa) (hb:VE X b Wb) (hc:VE X c Wc)
 (hm:lastMarks [op,op'] [b,c]=false:=by with_unfolding_all rfl):VT X (.Compare a [op,op'] [b,c] pos) (wTest (wChain r r' Wa Wb Wc)):=(pt_chain ho ho' ha hb hc hm).imp fun _ _ _ h=>chain_lift (test_lift h)
end
section
variable {a b c:Expr}{Wa Wb Wc:WE}{Ta Tb Tc:WT}{pos:Pos}{rest:List Expr}
def wAnd (t u:WT):WT:=fun env Q=>t env fun k e=>if k=true then u e Q else Q false e
def wOr (t u:WT):WT:=fun env Q=>t env fun k e=>if k=true then Q true e else u e Q
def wNot (t:WT):WT:=fun env Q=>t env fun k e=>Q (!k) e
theorem vw_and1 (ha:VT X a Ta):VW X (.BoolOp .And [a] pos) Ta:=pw_and1 ha
theorem vw_or1 (ha:VT X a Ta):VW X (.BoolOp .Or [a] pos) Ta:=pw_or1 ha
theorem vw_and (ha:VT X a Ta) (hb:VW X (.BoolOp .And (b::rest) pos) Tb):VW X (.BoolOp .And (a::b::rest) pos) (wAnd Ta Tb):=(pw_and ha hb).imp fun σ H R xx64=>by
 obtain ⟨M,env,F,Q,I,h,k⟩:=xx64
 refine ⟨M,env,F,_,I,h,fun x F1 H1 e1 I1 s1 h1=>?_⟩
 cases x with
 | true=>exact iteT ⟨M,e1,F1,Q,I1,h1,fun y F2 H2 e2 I2 s2 h2=>k y F2 H2 e2 I2 (s1.trans s2) h2⟩
 | false=>exact iteF (k false F1 H1 e1 I1 s1 h1)
theorem vw_or (ha:VT X a Ta) (hb:VW X (.BoolOp .Or (b::rest) pos) Tb):VW X (.BoolOp .Or (a::b::rest) pos) (wOr Ta Tb):=(pw_or ha hb).imp fun σ H R xx65=>by
 obtain ⟨M,env,F,Q,I,h,k⟩:=xx65
 refine ⟨M,env,F,_,I,h,fun x F1 H1 e1 I1 s1 h1=>?_⟩
 cases x with
 | true=>exact iteT (k true F1 H1 e1 I1 s1 h1)
 | false=>exact iteF ⟨M,e1,F1,Q,I1,h1,fun y F2 H2 e2 I2 s2 h2=>k y F2 H2 e2 I2 (s1.trans s2) h2⟩
theorem vt_not (ha:VT X a Ta):VT X (.UnaryOp .Not a pos) (wNot Ta):=(pt_not ha).imp fun σ H R xx66=>by
 obtain ⟨M,env,F,Q,I,h,k⟩:=xx66
 exact ⟨M,env,F,_,I,h,fun x F1 H1 e1 I1 s1 h1=>k (!x) F1 H1 e1 I1 s1 h1⟩
def wAndV (Wa Wb:WE):WE:=fun env Q=>Wa env fun d e=>match d with | .bool k=>if k=true then Wb e Q else Q (.bool false) e|_=>False
def wNotV (Wa:WE):WE:=fun env Q=>Wa env fun d e=>match d with | .bool k=>Q (.bool (!k)) e|_=>False
theorem ve_one {op} (h:VE X a Wa):VE X (.BoolOp op [a] pos) Wa:=pe_one h
theorem ve_and (ha:VE X a Wa) (hb:VE X (.BoolOp .And (b::rest) pos) Wb):VE X (.BoolOp .And (a::b::rest) pos) (wAndV Wa Wb):=(pe_and ha hb).imp fun σ H R xx67=>by
 obtain ⟨M,env,F,Q,I,h,k⟩:=xx67
 refine ⟨M,env,F,_,I,h,fun d v F1 H1 e1 I1 s1 i1 h1=>?_⟩
 cases d with
 | bool x =>
  refine ⟨x,i1.bl_inv,?_⟩
  cases x with
  | true=>exact iteT ⟨M,e1,F1,Q,I1,h1,fun d2 v2 F2 H2 e2 I2 s2 i2 h2=>k d2 v2 F2 H2 e2 I2 (s1.trans s2) i2 h2⟩
  | false=>exact iteF (k _ _ F1 H1 e1 I1 s1 (is_bl false) h1)
 | _=>exact False.elim h1
theorem ve_not (ha:VE X a Wa):VE X (.UnaryOp .Not a pos) (wNotV Wa):=(pe_not ha).imp fun σ H R xx68=>by
 obtain ⟨M,env,F,Q,I,h,k⟩:=xx68
 refine ⟨M,env,F,_,I,h,fun d v F1 H1 e1 I1 s1 i1 h1=>?_⟩
 cases d with
 | bool x=>exact ⟨x,i1.bl_inv,k _ _ F1 H1 e1 I1 s1 (is_bl _) h1⟩
 | _=>exact False.elim h1
def wIfE (t:WT) (Wa Wb:WE):WE:=fun env Q=>t env fun k e=>if k=true then Wa e Q else Wb e Q
theorem ve_ifExp (hc:VT X c Tc) (ha:VE X a Wa) (hb:VE X b Wb):VE X (.IfExp c a b pos) (wIfE Tc Wa Wb):=(pe_ifExp hc ha hb).imp fun σ H R xx69=>by
 obtain ⟨M,env,F,Q,I,h,k⟩:=xx69
 refine ⟨M,env,F,_,I,h,fun x F1 H1 e1 I1 s1 h1=>?_⟩
 cases x with
 | true=>exact iteT ⟨M,e1,F1,Q,I1,h1,fun d2 v2 F2 H2 e2 I2 s2 i2 h2=>k d2 v2 F2 H2 e2 I2 (s1.trans s2) i2 h2⟩
 | false=>exact iteF ⟨M,e1,F1,Q,I1,h1,fun d2 v2 F2 H2 e2 I2 s2 i2 h2=>k d2 v2 F2 H2 e2 I2 (s1.trans s2) i2 h2⟩
end
section
variable {a b:Expr}{Wa Wb:WE}{pos p2:Pos}
def wUn (r:PyData→(PyData→Prop)→Prop) (W:WE):WE:=fun env Q=>W env fun d e=>r d fun y=>Q y e
def dNeg:PyData→(PyData→Prop)→Prop
 | .int i,q=>q (.int (-i))
 | _,_=>False
theorem ve_neg (ha:VE X a Wa):VE X (.UnaryOp .USub a pos) (wUn dNeg Wa):=(pe_un un_neg ha).imp fun σ H R xx70=>by
 obtain ⟨M,env,F,Q,I,h,k⟩:=xx70
 refine ⟨M,env,F,_,I,h,fun d v F1 H1 e1 I1 s1 i1 h1=>?_⟩
 cases d with
 | int i=>exact ⟨i,i1.int_inv,k _ _ F1 H1 e1 I1 s1 (is_int _) h1⟩
 | _=>exact False.elim h1
def dIx:D2
 | .list l,.int i,q => ∃ d,atI l i=some d∧q d
 | .tuple l,.int i,q => ∃ d,atI l i=some d∧q d
 | _,_,_=>False
theorem ix_V:IxR X (lift2 X.K dIx):=ix_seq.imp fun x y H Q xx71=>by
 obtain ⟨F,dx,dy,q,s,i1,i2,h,k⟩:=xx71
 cases dx with
 | list l=>cases dy with
  | int i =>
   obtain ⟨d,e,hq⟩:=h
   obtain ⟨a,xs,rfl,hs,hr⟩:=i1.lst_inv
   obtain ⟨z,ez,hz⟩:=hr.atI e
   exact .inl ⟨a,xs,i,z,rfl,i2.int_inv,s.seq hs,ez,k d z F H (.refl s) hz hq⟩
  | _=>exact False.elim h
 | tuple l=>cases dy with
  | int i =>
   obtain ⟨d,e,hq⟩:=h
   obtain ⟨a,xs,rfl,hs,hr⟩:=i1.tup_inv
   obtain ⟨z,ez,hz⟩:=hr.atI e
   exact .inr (.inl ⟨a,xs,i,z,rfl,i2.int_inv,same_seqT s hs,ez,k d z F H (.refl s) hz hq⟩)
  | _=>exact False.elim h
 | _=>exact False.elim h
theorem ve_ix (ha:VE X a Wa) (hb:VE X b Wb) (hs:PlainIx b:=by exact (fun _ _=>rfl)):VE X (.Subscript a b pos) (wOp dIx Wa Wb):=(pe_ix ix_V ha hb hs).imp fun _ _ _ h=>op_lift h
abbrev WO:=Sto→(Option Int→Sto→Prop)→Prop
def liftO (K:PySem.W.Frag) (W:WO):TO:=fun σ H R => ∃ M env F Q,EnvOk K M F H env σ∧W env Q ∧ ∀ o F' H' env',EnvOk K M F' H' env' σ→Same F F'→Q o env'→R o H'
def VO (X:Cx) (e:Option Expr) (W:WO):Prop:=PO X e (liftO X.K W)
end
def wL (W:WF):WE:=fun env Q=>W env fun ds e=>Q (.list ds) e
theorem vf_fz {e:Expr}{W:WF} (h:VF X e W):VE X e (wL W):=h.imp fun σ H R xx72=>by
 obtain ⟨M,env,F,Q,I,h,k⟩:=xx72
 refine ⟨M,env,F,_,I,h,fun a vs ds F1 H1 e1 I1 s1 h1 h2 h3 h4 h5 h6 h7=>?_⟩
 obtain ⟨J,s⟩:=I1.frz h1 h2 h4 h5
 exact k _ _ _ H1 e1 J (s1.trans s) (is_lst (SqL.of upd_same) (h6.mono s)) h7
theorem fresh_apart {K:PySem.W.Frag}{M:Frm}{F H:Hp}{env:Sto}{σ:St} (I:EnvOk K M F H env σ) {p:Addr} (hp:H p=none) : ∀ i,(gS env i).mut=true→vS σ i≠some (.ref p):=fun i m z=>by
 obtain ⟨b,vs,e,q,_⟩:=(I.slot i).addr m
 rw [z] at e;injection e with e;injection e with e;subst e
 rw [hp] at q;cases q
theorem new_lst {K:PySem.W.Frag}{M:Frm}{F H:Hp}{env:Sto}{σ:St}{R:VK}{Q:List PyData→Sto→Prop}{F0:Hp}{l:List PyData}{xs:List V} (I:EnvOk K M F H env σ) (s:Same F0 F) (hi:Iss K F l xs) (h:Q l env)
 (k : ∀ a vs ds F' H' env',EnvOk K M F' H' env' σ→Same F0 F'→H' a=some (.lst vs)→F' a=none→M.B a=none→M.He a=none→(∀ i,(gS env' i).mut=true→vS σ i≠some (.ref a))→Iss K F' ds vs→Q ds env'→R (.ref a) H') :
 ∀ p,H p=none→R (.ref p) (upd H p (.lst xs)):=fun p hp =>
  k p xs l F _ env (I.go (.side I.fh hp)) s upd_same (same_none I.fh hp) (same_none I.bh hp) (I.he hp) (fresh_apart I hp) hi h
section
variable {e:Expr}{es:List Expr}{W:WE}{Wr:WF}{pos:Pos}
def wNil:WF:=fun env Q=>Q [] env
def wCons (W:WE) (Wr:WF):WF:=fun env Q=>W env fun d e1=>Wr e1 fun ds e2=>Q (d::ds) e2
theorem va_nil:VA X [] wNil:=pa_nil.imp fun σ H R xx73=>by obtain ⟨M,env,F,Q,I,h,k⟩:=xx73;exact k [] [] F H env I (.refl _) iss_nil h
theorem va_cons (ha:VE X e W) (hr:VA X es Wr) (hs:starEach (e::es) X.env=(false,eval e X.env)::starEach es X.env:=by rfl):VA X (e::es) (wCons W Wr) :=
 (pa_cons ha hr hs).imp fun σ H R xx74=>by obtain ⟨M,env,F,Q,I,h,k⟩:=xx74;exact ⟨M,env,F,_,I,h,fun d v F1 H1 e1 I1 s1 i1 h1=>⟨M,e1,F1,_,I1,h1,fun ds vs F2 H2 e2 I2 s2 i2 h2=>k (d::ds) (v::vs) F2 H2 e2 I2 (s1.trans s2) (iss_cons (i1.mono s2) i2) h2⟩⟩
def wTup (Wr:WF):WE:=fun env Q=>Wr env fun ds e=>ds.length≤sizeLine∧Q (.tuple ds) e
theorem ve_tup {x1} (h:VA X es Wr):VE X (.Tuple es x1 pos) (wTup Wr):=(pe_tup h).imp fun σ H R xx75=>by
 obtain ⟨M,env,F,Q,I,h,k⟩:=xx75
 refine ⟨M,env,F,_,I,h,fun ds vs F1 H1 e1 I1 s1 i1 h1=>⟨by rw [i1.len];exact h1.1,fun p hp=>?_⟩⟩
 have g:=Go.put (o:=HO.tup vs) I1.fh hp
 exact k _ _ _ _ e1 (I1.go g) (s1.trans g.f) (is_tup (SqT.of upd_same) (i1.mono g.f)) h1.2
def wLst (Wr:WF):WF:=fun env Q=>Wr env fun ds e=>ds.length≤sizeLine∧Q ds e
theorem vf_lst (h:VA X es Wr):VF X (.List es pos) (wLst Wr):=(pe_lst h).imp fun σ H R xx76=>by
 obtain ⟨M,env,F,Q,I,h,k⟩:=xx76
 exact ⟨M,env,F,_,I,h,fun ds vs F1 H1 e1 I1 s1 i1 h1=>⟨by rw [i1.len];exact h1.1,new_lst I1 s1 i1 h1.2 k⟩⟩
end
end
end L2
namespace L2
open PySem PySem.Spec PyProof.Rows
section
variable {X:Cx}
def dI2 (g:Int→Int→(PyData→Prop)→Prop):D2
 | .int i,.int j,q=>g i j q
 | _,_,_=>False
theorem i2_of {g:Int→Int→(PyData→Prop)→Prop}{x y:PyData}{q:PyData→Prop} (h:dI2 g x y q) : ∃ i j,x = .int i∧y = .int j∧g i j q:=by
 cases x with
 | int i=>cases y with
  | int j=>exact ⟨i,j,rfl,rfl,h⟩
  | _=>exact False.elim h
 | _=>exact False.elim h
theorem opI_V {f:Value→Value→Sem Value}{C:Int→Int→Prop}{g:Int→Int→PyData}{gv:Int→Int→V} (h:OpR X f (rI C gv)) (hg : ∀ i j F,Is X.K F (g i j) (gv i j)):OpV X f (dI2 fun i j q=>C i j∧q (g i j)):=h.imp fun x y H Q xx77=>by
 obtain ⟨F,dx,dy,q,s,i1,i2,h,k⟩:=xx77
 obtain ⟨i,j,rfl,rfl,c,hq⟩:=i2_of h
 exact ⟨i,j,i1.int_inv,i2.int_inv,c,k _ _ F H (.refl s) (hg i j F) hq⟩
theorem opI0_V {f:Value→Value→Sem Value}{g:Int→Int→PyData}{gv:Int→Int→V} (h:OpR X f (rI0 gv)) (hg : ∀ i j F,Is X.K F (g i j) (gv i j)):OpV X f (dI2 fun i j q=>q (g i j)):=h.imp fun x y H Q xx78=>by
 obtain ⟨F,dx,dy,q,s,i1,i2,h,k⟩:=xx78
 obtain ⟨i,j,rfl,rfl,hq⟩:=i2_of h
 exact ⟨i,j,i1.int_inv,i2.int_inv,k _ _ F H (.refl s) (hg i j F) hq⟩
abbrev dSub:D2:=dI2 fun i j q=>q (.int (i-j))
abbrev dMulI:D2:=dI2 fun i j q=>IntMulOk i j∧q (.int (i*j))
abbrev dFdiv:D2:=dI2 fun i j q=>CDivB i j∧q (.int (i.fdiv j))
abbrev dDiv:D2:=dI2 fun i j q=>(0<j∧Builtin.Int.intBits j≤9000)∧q (.int (i/j))
abbrev dMod:D2:=dI2 fun i j q=>0<j∧q (.int (i%j))
abbrev dLt:D2:=dI2 fun i j q=>q (.bool (decide (i<j)))
abbrev dLe:D2:=dI2 fun i j q=>q (.bool (decide (i≤j)))
abbrev dGt:D2:=dI2 fun i j q=>q (.bool (decide (j<i)))
theorem o_sub:OpV X (binaryOp .Sub) dSub:=opI0_V op_sub fun _ _ _=>is_int _
theorem o_mulI:OpV X (binaryOp .Mult) dMulI:=opI_V op_mulB fun _ _ _=>is_int _
theorem o_fdiv:OpV X (binaryOp .FloorDiv) dFdiv:=opI_V op_fdivB fun _ _ _=>is_int _
theorem op_divP:OpR X (binaryOp .FloorDiv) (rI (fun _ j=>0<j∧Builtin.Int.intBits j≤9000) fun i j => .int (i/j)):=op_fdivB.imp fun x y H Q xx79=>by
 obtain ⟨i,j,e1,e2,c,q⟩:=xx79
 exact ⟨i,j,e1,e2,⟨by have:=c.1;omega,c.2⟩,by show Q (V.int (i.fdiv j)) H;rw [Int.fdiv_eq_ediv_of_nonneg _ (Int.le_of_lt c.1)];exact q⟩
theorem o_div:OpV X (binaryOp .FloorDiv) dDiv:=opI_V op_divP fun _ _ _=>is_int _
theorem o_mod:OpV X (binaryOp .Mod) dMod:=opI_V op_mod fun _ _ _=>is_int _
theorem o_lt:OpV X (compareOp .Lt) dLt:=opI0_V op_lt fun _ _ _=>is_bl _
theorem o_le:OpV X (compareOp .LtE) dLe:=opI0_V op_le fun _ _ _=>is_bl _
theorem o_gt:OpV X (compareOp .Gt) dGt:=opI0_V op_gt fun _ _ _=>is_bl _
def dEq:D2:=fun d e q=>SeqAt.shaped d=true∧SeqAt.shaped e=true∧q (.bool (PyData.eqv d e))
def dNe:D2:=fun d e q=>SeqAt.shaped d=true∧SeqAt.shaped e=true∧q (.bool (!PyData.eqv d e))
theorem o_eq (hu:X.A.units+64<cLine):OpV X (compareOp .Eq) dEq:=(op_eqD hu).imp fun x y H Q xx80=>by
 obtain ⟨F,dx,dy,q,s,i1,i2,h,k⟩:=xx80
 exact ⟨dx,dy,i1.mono s,i2.mono s,h.1,h.2.1,k _ _ F H (.refl s) (is_bl _) h.2.2⟩
theorem o_ne (hu:X.A.units+64<cLine):OpV X (compareOp .NotEq) dNe:=(op_neD hu).imp fun x y H Q xx81=>by
 obtain ⟨F,dx,dy,q,s,i1,i2,h,k⟩:=xx81
 exact ⟨dx,dy,i1.mono s,i2.mono s,h.1,h.2.1,k _ _ F H (.refl s) (is_bl _) h.2.2⟩
def dAdd:D2
 | .int i,.int j,q=>q (.int (i+j))
 | .list l,.list m,q=>l.length+m.length≤sizeLine∧q (.list (l++m))
 | .tuple l,.tuple m,q=>l≠[]∧l.length+m.length≤sizeLine∧q (.tuple (l++m))
 | .str x,.str y,q=>x.length+y.length≤sizeLine∧q (.str (x++y))
 | _,_,_=>False
theorem o_add:OpV X (binaryOp .Add) dAdd:=by
 rintro pins s σ H x y v u Q I rx ry ⟨F,dx,dy,q,sm,i1,i2,h,k⟩
 cases dx with
 | int i=>cases dy with
  | int j=>exact op_add pins s σ H x y v u Q I rx ry ⟨i,j,i1.int_inv,i2.int_inv,k _ _ F H (.refl sm) (is_int _) h⟩
  | _=>exact False.elim h
 | list l=>cases dy with
  | list m =>
   obtain ⟨a,xs,rfl,hs,hr⟩:=i1.lst_inv
   obtain ⟨b,ys,rfl,ht,hq⟩:=i2.lst_inv
   refine op_catS pins s σ H _ _ v u Q I rx ry ⟨a,b,xs,ys,rfl,rfl,sm.seq hs,sm.seq ht,by rw [hr.len,hq.len];exact h.1,fun p hp=>?_⟩
   have g:=Go.put (o:=HO.lst (xs++ys)) sm hp
   exact k _ _ _ _ g (is_lst (SqL.of upd_same) ((iss_append hr hq).mono g.f)) h.2
  | _=>exact False.elim h
 | tuple l=>cases dy with
  | tuple m =>
   obtain ⟨a,xs,rfl,hs,hr⟩:=i1.tup_inv
   obtain ⟨b,ys,rfl,ht,hq⟩:=i2.tup_inv
   refine op_catT pins s σ H _ _ v u Q I rx ry ⟨a,b,xs,ys,rfl,rfl,same_seqT sm hs,same_seqT sm ht,fun z=>h.1 (List.length_eq_zero_iff.mp (by rw [← hr.len,z];rfl)),by rw [hr.len,hq.len];exact h.2.1,fun z=>?_,fun _ p hp=>?_⟩
   ·have hm:m=[]:=List.length_eq_zero_iff.mp (by rw [← hq.len,z];rfl)
    subst hm
    refine k _ _ F H (.refl sm) i1 ?_
    have:=h.2.2;rw [List.append_nil] at this;exact this
   ·have g:=Go.put (o:=HO.tup (xs++ys)) sm hp
    exact k _ _ _ _ g (is_tup (SqT.of upd_same) ((iss_append hr hq).mono g.f)) h.2.2
  | _=>exact False.elim h
 | str x0=>cases dy with
  | str y0 =>
   unfold Is at i1 i2
   exact op_add_str pins s σ H x y v u Q I rx ry ⟨x0,y0,i1,i2,h.1,k _ _ F H (.refl sm) (is_str _) h.2⟩
  | _=>exact False.elim h
 | _=>exact False.elim h
def wCat (Wa Wb:WE):WF:=fun env Q=>Wa env fun x e1=>Wb e1 fun y e2=>match x,y with
 | .list l,.list m=>l.length+m.length≤sizeLine∧Q (l++m) e2
 | _,_=>False
theorem vf_cat {a b:Expr}{Wa Wb:WE}{pos:Pos} (ha:VE X a Wa) (hb:VE X b Wb):VF X (.BinOp a .Add b pos) (wCat Wa Wb):=(pe_op op_catS ha hb).imp fun σ H R xx82=>by
 obtain ⟨M,env,F,Q,I,h,k⟩:=xx82
 refine ⟨M,env,F,_,I,h,fun d v F1 H1 e1 I1 s1 i1 h1=>⟨M,e1,F1,_,I1,h1,fun d2 v2 F2 H2 e2 I2 s2 i2 h2=>?_⟩⟩
 cases d with
 | list l=>cases d2 with
  | list m =>
   obtain ⟨a,xs,rfl,hs,hr⟩:=(i1.mono s2).lst_inv
   obtain ⟨b,ys,rfl,ht,hq⟩:=i2.lst_inv
   exact ⟨a,b,xs,ys,rfl,rfl,I2.fh.seq hs,I2.fh.seq ht,by rw [hr.len,hq.len];exact h2.1,new_lst I2 (s1.trans s2) (iss_append hr hq) h2.2 k⟩
  | _=>exact False.elim h2
 | _=>exact False.elim h2
section
variable {x:Str}{p pos:Pos}{e:Expr}{es:List Expr}{Wr:WF}{id T:String}{r:DC}{rf:List PyData→(List PyData→Prop)→Prop}
def wCall (r:DC) (Wr:WF):WE:=fun env Q=>Wr env fun ds e=>r ds fun d=>Q d e
def wCallF (r:List PyData→(List PyData→Prop)→Prop) (Wr:WF):WF:=fun env Q=>Wr env fun ds e=>r ds fun l=>Q l e
theorem call_lift {σ:St}{H:Hp}{R:VK} (h:liftE X.K (wCall r Wr) σ H R):liftA X.K Wr σ H fun vs H1=>liftC X.K r vs H1 R:=by
 obtain ⟨M,env,F,Q,I,h,k⟩:=h
 exact ⟨M,env,F,_,I,h,fun ds vs F1 H1 e1 I1 s1 i1 h1=>⟨F1,ds,_,I1.fh,i1,h1,fun d v F2 H2 g i2 q=>k d v F2 H2 e1 (I1.go g) (s1.trans g.f) i2 q⟩⟩
theorem callF_lift {σ:St}{H:Hp}{R:VK} (h:liftF X.K (wCallF rf Wr) σ H R):liftA X.K Wr σ H fun vs H1=>liftCF X.K rf vs H1 R:=by
 obtain ⟨M,env,F,Q,I,h,k⟩:=h
 refine ⟨M,env,F,_,I,h,fun ds vs F1 H1 e1 I1 s1 i1 h1=>⟨F1,ds,_,I1.fh,i1,h1,fun l a xs F2 H2 g ha hf hh hi q=>?_⟩⟩
 exact k a xs l F2 H2 e1 (I1.go g) (s1.trans g.f) hh hf (same_none I1.bh ha) (I1.he ha) (fresh_apart I1 ha) hi q
theorem ve_callB (hc:CallV X (.builtin id) r) (hm:X.mg x=none) (hv:bootBuiltins x=some (.builtin id)) (ha:VA X (e::es) Wr) (hg:Gl X x:=by rfl) (hn:x ≠ "__name__":=by decide) (hdb:(x==("__debug__" : Str))=false:=by decide)
 (he:starEach (e::es) X.env=(false,eval e X.env)::starEach es X.env:=by rfl) (hpl:(backTo pos (starEach es X.env)).any (·.1)=false:=by rfl):VE X (.Call (.Name x p) (e::es) [] pos) (wCall r Wr) :=
 (pe_callB hc hg hm hv ha hn hdb he hpl).imp fun _ _ _ h=>call_lift h
theorem ve_callTy (hc:CallV X (.type T) r) (hm:X.mg x=none) (hv:bootBuiltins x=some (.type T)) (ha:VA X (e::es) Wr) (hg:Gl X x:=by rfl) (hn:x ≠ "__name__":=by decide) (hdb:(x==("__debug__" : Str))=false:=by decide)
 (he:starEach (e::es) X.env=(false,eval e X.env)::starEach es X.env:=by rfl) (hpl:(backTo pos (starEach es X.env)).any (·.1)=false:=by rfl):VE X (.Call (.Name x p) (e::es) [] pos) (wCall r Wr) :=
 (pe_callTy hc hg hm hv ha hn hdb he hpl).imp fun _ _ _ h=>call_lift h
theorem vf_callB (hc:CallVF X (.builtin id) rf) (hm:X.mg x=none) (hv:bootBuiltins x=some (.builtin id)) (ha:VA X (e::es) Wr) (hg:Gl X x:=by rfl) (hn:x ≠ "__name__":=by decide) (hdb:(x==("__debug__" : Str))=false:=by decide)
 (he:starEach (e::es) X.env=(false,eval e X.env)::starEach es X.env:=by rfl) (hpl:(backTo pos (starEach es X.env)).any (·.1)=false:=by rfl):VF X (.Call (.Name x p) (e::es) [] pos) (wCallF rf Wr) :=
 (pe_callB hc hg hm hv ha hn hdb he hpl).imp fun _ _ _ h=>callF_lift h
def PSp (K:PySem.W.Frag) (sp:DC):Sp:=fun vs H Q _=>liftC K sp vs H Q
def FSp (K:PySem.W.Frag) (sp:List PyData→(List PyData→Prop)→Prop):Sp:=fun vs H Q _=>liftCF K sp vs H Q
theorem ve_fn {k:Nat}{ps:List Str}{sp:DC} (O:OkC X x k ps (PSp X.K sp)) (hr:Room k X.A) (ha:VA X (e::es) Wr) (hg:Gl X x:=by rfl) (hdb:(x==("__debug__" : Str))=false:=by decide)
 (he:starEach (e::es) X.env=(false,eval e X.env)::starEach es X.env:=by rfl) (hpl:(backTo pos (starEach es X.env)).any (·.1)=false:=by rfl):VE X (.Call (.Name x p) (e::es) [] pos) (wCall sp Wr) :=
 (pe_fn O hr ha hg hdb he hpl).imp fun σ H R h=>by
  have e:tCall (PSp X.K sp) [] E0 (liftA X.K Wr) σ H R=liftA X.K Wr σ H fun vs H1=>liftC X.K sp vs H1 R:=by unfold tCall PSp;simp only [List.append_nil]
  rw [e]
  exact call_lift h
theorem vf_fn {k:Nat}{ps:List Str}{sp:List PyData→(List PyData→Prop)→Prop} (O:OkC X x k ps (FSp X.K sp)) (hr:Room k X.A) (ha:VA X (e::es) Wr) (hg:Gl X x:=by rfl) (hdb:(x==("__debug__" : Str))=false:=by decide)
 (he:starEach (e::es) X.env=(false,eval e X.env)::starEach es X.env:=by rfl) (hpl:(backTo pos (starEach es X.env)).any (·.1)=false:=by rfl):VF X (.Call (.Name x p) (e::es) [] pos) (wCallF sp Wr) :=
 (pe_fn O hr ha hg hdb he hpl).imp fun σ H R h=>by
  have e:tCall (FSp X.K sp) [] E0 (liftA X.K Wr) σ H R=liftA X.K Wr σ H fun vs H1=>liftCF X.K sp vs H1 R:=by unfold tCall FSp;simp only [List.append_nil]
  rw [e]
  exact callF_lift h
end
def dAbs:DC
 | [.int i],q=>q (.int (if i<0 then -i else i))
 | _,_=>False
def dLen:DC
 | [.list l],q=>q (.int l.length)
 | [.tuple l],q=>q (.int l.length)
 | [.str x],q=>x.length≤sizeLine∧q (.int x.length)
 | _,_=>False
theorem iss1 {K:PySem.W.Frag}{H:Hp}{d:PyData}{vs:List V} (h:Iss K H [d] vs) : ∃ v,vs=[v]∧Is K H d v:=by
 obtain ⟨x,r,rfl,p,q⟩:=h.cons_inv
 rw [q.nil_inv];exact ⟨x,rfl,p⟩
theorem iss2 {K:PySem.W.Frag}{H:Hp}{d e:PyData}{vs:List V} (h:Iss K H [d,e] vs) : ∃ v u,vs=[v,u]∧Is K H d v∧Is K H e u:=by
 obtain ⟨x,r,rfl,p,q⟩:=h.cons_inv
 obtain ⟨y,rfl,q'⟩:=iss1 q
 exact ⟨x,y,rfl,p,q'⟩
theorem c_abs:CallV X (.builtin "abs") dAbs:=call_abs.imp fun xs H Q xx83=>by
 obtain ⟨F,ds,q,s,i,h,k⟩:=xx83
 match ds,h,i with
 | [.int n],h,i =>
  obtain ⟨v,rfl,j⟩:=iss1 i
  exact ⟨n,by rw [j.int_inv],k _ _ F H (.refl s) (is_int _) h⟩
theorem c_len:CallV X (.builtin "len") dLen:=(call_len_seq.or call_len_str).imp fun xs H Q xx84=>by
 obtain ⟨F,ds,q,s,i,h,k⟩:=xx84
 match ds,h,i with
 | [.list l],h,i =>
  obtain ⟨v,rfl,j⟩:=iss1 i
  obtain ⟨a,xs,rfl,hs,hr⟩:=j.lst_inv
  exact .inl ⟨a,xs,rfl,.inl (s.seq hs),k _ _ F H (.refl s) (by rw [hr.len];exact is_int _) h⟩
 | [.tuple l],h,i =>
  obtain ⟨v,rfl,j⟩:=iss1 i
  obtain ⟨a,xs,rfl,hs,hr⟩:=j.tup_inv
  exact .inl ⟨a,xs,rfl,.inr (same_seqT s hs),k _ _ F H (.refl s) (by rw [hr.len];exact is_int _) h⟩
 | [.str z],h,i =>
  obtain ⟨v,rfl,j⟩:=iss1 i
  unfold Is at j
  subst j
  exact .inr ⟨z,rfl,h.1,k _ _ F H (.refl s) (is_int _) h.2⟩
def dTuple:DC
 | [.list l],q=>q (.tuple l)
 | [.tuple l],q=>q (.tuple l)
 | _,_=>False
theorem c_tuple:CallV X (.type "tuple") dTuple:=call_tuple_of.imp fun xs H Q xx85=>by
 obtain ⟨F,ds,q,s,i,h,k⟩:=xx85
 match ds,h,i with
 | [.list l],h,i =>
  obtain ⟨v,rfl,j⟩:=iss1 i
  obtain ⟨a,xs,rfl,hs,hr⟩:=j.lst_inv
  refine ⟨a,xs,rfl,.inl ⟨s.seq hs,fun p hp=>?_⟩⟩
  have g:=Go.put (o:=HO.tup xs) s hp
  exact k _ _ _ _ g (is_tup (SqT.of upd_same) (hr.mono g.f)) h
 | [.tuple l],h,i =>
  obtain ⟨v,rfl,j⟩:=iss1 i
  obtain ⟨a,xs,rfl,hs,hr⟩:=j.tup_inv
  exact ⟨a,xs,rfl,.inr ⟨same_seqT s hs,k _ _ F H (.refl s) j h⟩⟩
end
end L2
namespace L2
open PySem PySem.Spec PyProof.Rows
section
variable {X:Cx}
section
variable {a b c e o:Expr}{W Wa Wb:WE}{Tc:WT}{pos pos':Pos}{st:Stmt}{sts rest:List Stmt}{Wt Wu:WS}{WfF:WF}
def wNext:WS:=fun D env=>D.nx env
def wSeq (t u:WS):WS:=fun D env=>t { D with nx:=u D } env
def wMid (t u:WS):WS:=fun D env => ∃ Md:Sto→Prop,t { D with nx:=Md } env ∧ ∀ e,Md e→u D e
def wNever:WS:=fun _ _=>False
theorem vss_nil:VSs X [] wNext:=pss_nil.imp fun D σ H xx86=>by obtain ⟨M,env,F,DD,I,h,k⟩:=xx86;exact k.nx env F H σ I (.refl _) h
theorem vss_one (h:VS X st Wt):VSs X [st] Wt:=pss_one h
theorem vss_cons (h1:VS X st Wt) (h2:VSs X rest Wu):VSs X (st::rest) (wSeq Wt Wu):=(pss_cons h1 h2).imp fun D σ H xx87=>by
 obtain ⟨M,env,F,DD,I,h,k⟩:=xx87
 exact ⟨M,env,F,{ DD with nx:=Wu DD },I,h,fun e' F' H' σ' I' s' h'=>⟨M,e',F',DD,I',h',k.mono s'⟩,k.rt,k.bk,k.ct⟩
theorem vss_mid (h1:VS X st Wt) (h2:VSs X rest Wu):VSs X (st::rest) (wMid Wt Wu):=(pss_cons h1 h2).imp fun D σ H xx88=>by
 obtain ⟨M,env,F,DD,I,⟨Md,h,hm⟩,k⟩:=xx88
 exact ⟨M,env,F,{ DD with nx:=Md },I,h,fun e' F' H' σ' I' s' h'=>⟨M,e',F',DD,I',hm e' h',k.mono s'⟩,k.rt,k.bk,k.ct⟩
theorem vss_never:VSs X sts wNever:=pss_never.imp fun D σ H xx89=>by obtain ⟨M,env,F,DD,I,h,k⟩:=xx89;exact h.elim
def wFz (i:Nat) (t:WS):WS:=fun D env=>t D (env.set i (gS env i).fz)
theorem vss_fz (i:Nat) (h:VSs X sts Wt):VSs X sts (wFz i Wt):=h.imp fun D σ H xx90=>by
 obtain ⟨M,env,F,DD,I,h,k⟩:=xx90
 obtain ⟨F',J,s⟩:=I.freeze i
 exact ⟨M,_,F',DD,J,h,k.mono s⟩
def wRet (W:WE):WS:=fun D env=>W env fun d e=>D.rt (.val d) e
theorem vs_ret (he:VE X e W):VS X (.Return (some e) pos) (wRet W):=(ps_ret he).imp fun D σ H xx91=>by
 obtain ⟨M,env,F,DD,I,h,k⟩:=xx91
 exact ⟨M,env,F,_,I,h,fun d v F1 H1 e1 I1 s1 i1 h1=>k.rt (.val d) v e1 F1 H1 σ I1 s1 i1 h1⟩
def wRetF (W:WF):WS:=fun D env=>W env fun l e=>D.rt (.own l) e
theorem vs_retF (he:VF X e WfF):VS X (.Return (some e) pos) (wRetF WfF):=(ps_ret he).imp fun D σ H xx92=>by
 obtain ⟨M,env,F,DD,I,h,k⟩:=xx92
 exact ⟨M,env,F,_,I,h,fun p vs l F1 H1 e1 I1 s1 g1 g2 g3 g4 g5 g6 h1=>k.rt (.own l) _ e1 F1 H1 σ I1 s1 ⟨p,vs,rfl,g1,g2,g3,g4,g6⟩ h1⟩
def wIf (Tc:WT) (t u:WS):WS:=fun D env=>Tc env fun k e=>if k=true then t D e else u D e
theorem vs_if {A B:List Stmt} (hc:VT X c Tc) (ha:VSs X A Wt) (hb:VSs X B Wu):VS X (.If c A B pos) (wIf Tc Wt Wu):=(ps_if hc ha hb).imp fun D σ H xx93=>by
 obtain ⟨M,env,F,DD,I,h,k⟩:=xx93
 refine ⟨M,env,F,_,I,h,fun x F1 H1 e1 I1 s1 h1=>?_⟩
 cases x with
 | true=>exact iteT ⟨M,e1,F1,DD,I1,h1,k.mono s1⟩
 | false=>exact iteF ⟨M,e1,F1,DD,I1,h1,k.mono s1⟩
def wSet (i:Nat) (W:WE):WS:=fun D env=>W env fun d e=>D.nx (e.set i (.val d))
theorem vs_set {i:Nat}{x:Str} (hN:X.N.Nodup) (he:VE X e W) (hi:X.N[i]?=some x:=by rfl) (hx:Loc X.env.scope x:=by first|exact Or.inl rfl|exact Or.inr rfl) (hs:swapsWith e (some (.Name x pos')) pos.line X.env=pure false:=by rfl)
 (hf:X.fn x=true∨X.env.scope.names.lookup x=some .local:=by first|exact .inl rfl|exact .inr rfl):VS X (.Assign [.Name x pos'] e pos) (wSet i W):=(ps_set hN hi hx he hs hf).imp fun D σ H xx94=>by
 obtain ⟨M,env,F,DD,I,h,k⟩:=xx94
 exact ⟨M,env,F,_,I,h,fun d v F1 H1 e1 I1 s1 i1 h1=>k.nx _ F1 H1 _ (I1.setv i1) s1 h1⟩
def wSetO (i:Nat) (W:WF):WS:=fun D env=>W env fun l e=>D.nx (e.set i (.own l))
theorem vs_setO {i:Nat}{x:Str} (hN:X.N.Nodup) (he:VF X e WfF) (hi:X.N[i]?=some x:=by rfl) (hx:Loc X.env.scope x:=by first|exact Or.inl rfl|exact Or.inr rfl) (hs:swapsWith e (some (.Name x pos')) pos.line X.env=pure false:=by rfl)
 (hf:X.fn x=true∨X.env.scope.names.lookup x=some .local:=by first|exact .inl rfl|exact .inr rfl):VS X (.Assign [.Name x pos'] e pos) (wSetO i WfF):=(ps_set hN hi hx he hs hf).imp fun D σ H xx95=>by
 obtain ⟨M,env,F,DD,I,h,k⟩:=xx95
 exact ⟨M,env,F,_,I,h,fun p vs l F1 H1 e1 I1 s1 g1 g2 g3 g4 g5 g6 h1=>k.nx _ F1 H1 _ (I1.seto g1 g2 g3 g4 g5 g6) s1 h1⟩
def wgName (i:Nat):WG:=fun d env Q=>Q (env.set i (.val d))
theorem vg_name {i:Nat}{x:Str} (hN:X.N.Nodup) (hi:X.N[i]?=some x:=by rfl) (hx:Loc X.env.scope x:=by first|exact Or.inl rfl|exact Or.inr rfl) (hf:X.fn x=true∨X.env.scope.names.lookup x=some .local:=by first|exact .inl rfl|exact .inr rfl):VG X (.Name x pos) (wgName i) :=
 (pg_name hN hi hx hf).imp fun v σ H R xx96=>by obtain ⟨M,env,F,d,Q,I,j,h,k⟩:=xx96;exact k F H _ _ (I.setv j) (.refl _) h
def wgNil:WGs:=fun ds env Q=>ds=[]∧Q env
def wgCons (G:WG) (Gs:WGs):WGs:=fun ds env Q=>match ds with|[]=>False|d::r=>G d env fun e=>Gs r e Q
theorem vgs_nil:VGs X [] wgNil:=pgs_nil.imp fun v σ H R xx97=>by
 obtain ⟨M,env,F,ds,Q,I,j,h,k⟩:=xx97
 obtain ⟨rfl,h⟩:=h
 exact ⟨j.nil_inv,k F H env σ I (.refl _) h⟩
theorem vgs_cons {es:List Expr}{G:WG}{Gs:WGs} (h1:VG X e G) (h2:VGs X es Gs) (hs:(assignEach (e::es) X.env).map (·.2)=assign e X.env::(assignEach es X.env).map (·.2):=by rfl):VGs X (e::es) (wgCons G Gs) :=
 (pgs_cons h1 h2 hs).imp fun v σ H R xx98=>by
  obtain ⟨M,env,F,ds,Q,I,j,h,k⟩:=xx98
  cases ds with
  | nil=>exact False.elim h
  | cons d r =>
   obtain ⟨x,xs,rfl,j1,j2⟩:=j.cons_inv
   exact ⟨x,xs,rfl,M,env,F,d,_,I,j1,h,fun F1 H1 e1 σ1 I1 s1 q1=>⟨M,e1,F1,r,Q,I1,j2.mono s1,q1,fun F2 H2 e2 σ2 I2 s2 q2=>k F2 H2 e2 σ2 I2 (s1.trans s2) q2⟩⟩
def wgTup (n:Nat) (Gs:WGs):WG:=fun d env Q=>match d with | .tuple l=>l.length=n∧Gs l env Q|_=>False
theorem vg_tup {es:List Expr}{kk n:Nat}{Gs:WGs} (hc:X.calm=true) (h:VGs X es Gs) (hn:(assignEach es X.env).length=n:=by rfl) (hst:(assignEach es X.env).findIdx? (·.1)=none:=by rfl):VG X (.Tuple es kk pos) (wgTup n Gs) :=
 (pg_tup hc h hn hst).imp fun v σ H R xx99=>by
  obtain ⟨M,env,F,d,Q,I,j,h,k⟩:=xx99
  cases d with
  | tuple l =>
   obtain ⟨a,xs,rfl,hs,hr⟩:=j.tup_inv
   exact ⟨a,xs,rfl,same_seqT I.fh hs,by rw [hr.len];exact h.1,M,env,F,l,Q,I,hr,h.2,k⟩
  | _=>exact False.elim h
def wAsg (W:WE) (G:WG):WS:=fun D env=>W env fun d e=>G d e D.nx
theorem vs_asg {tg:Expr}{G:WG} (he:VE X e W) (hg:VG X tg G) (hs:swapsWithSole [tg] e pos.line X.env=pure false:=by rfl) (hw:swappedStores [tg] e X.env=pure none:=by rfl)
 (h1:(assignEach [tg] X.env).map (·.2)=[assign tg X.env]:=by rfl):VS X (.Assign [tg] e pos) (wAsg W G):=(ps_asg he hg hs hw h1).imp fun D σ H xx100=>by
 obtain ⟨M,env,F,DD,I,h,k⟩:=xx100
 exact ⟨M,env,F,_,I,h,fun d v F1 H1 e1 I1 s1 i1 h1=>⟨M,e1,F1,d,_,I1,i1,h1,fun F2 H2 e2 σ2 I2 s2 q2=>k.nx e2 F2 H2 σ2 I2 (s1.trans s2) q2⟩⟩
def wApp (i:Nat) (W:WE):WS:=fun D env=>(gS env i).mut=true∧W env fun d e=>(gS e i).mut=true∧(gS e i).cnt.length<sizeLine∧D.nx (e.set i ((gS e i).upd ((gS e i).cnt++[d])))
theorem vs_append (i:Nat) {x:Str}{px apos cpos:Pos} (he:VE X e W) (hN:X.N[i]?=some x:=by rfl) (hv:Vis X.env.scope x:=by first|exact Or.inl rfl|exact Or.inr (Or.inl rfl)|exact Or.inr (Or.inr rfl)) (hd:(x==("__debug__" : Str))=false:=by decide)
 (hcd:(x==("__classdict__" : Str))=false:=by decide)
 (hbase:attributeBase (.Name x px) "append" X.env (eval (.Name x px) X.env)=eval (.Name x px) X.env:=by rfl)
 (hfew:((backTo cpos (starEach [e] X.env)).all (fun x => !x.1)&&(backToKw cpos (keywordEach [] X.env)).all (fun x=>x.1.isSome)
  && decide ([e].length+([]:List Keyword).length+(if ([]:List Keyword).isEmpty then 0 else 1)<30))=true:=by rfl)
 (hline:(apos.endLine==cpos.line)=true:=by rfl) (hst:starEach [e] X.env=(false,eval e X.env)::starEach [] X.env:=by rfl) (hplain:(backTo cpos (starEach [] X.env)).any (·.1)=false:=by rfl)
 (hs:swapsWith (.Call (.Attribute (.Name x px) "append" apos) [e] [] cpos) none pos.line X.env=pure false:=by rfl):VS X (.Expr (.Call (.Attribute (.Name x px) "append" apos) [e] [] cpos) pos) (wApp i W) :=
 (ps_expr (pe_append (pe_var hN hv hd hcd) he hbase hfew hline hst hplain) hs).imp fun D σ H xx101=>by
  obtain ⟨M,env,F,DD,I,⟨hm,h⟩,k⟩:=xx101
  obtain ⟨p,vs,ep,g1,g2,g3,g4⟩:=(I.slot i).addr hm
  refine ⟨_,vS_some ep,.inl ⟨rfl,_,SqL.of g1⟩,M,env,F,_,I,h,fun d v F1 H1 e1 I1 s1 i1 h1=>?_⟩
  obtain ⟨m1,z1,q1⟩:=h1
  obtain ⟨p',vs1,ep',f1,f2,f3,f4⟩:=(I1.slot i).addr m1
  rw [ep] at ep';injection ep' with ep';injection ep' with ep';subst ep'
  exact ⟨p,vs1,v,rfl,rfl,f1,by rw [f4.len];exact z1,k.nx _ F1 _ σ (I1.chg m1 ep (iss_append f4 (iss_cons i1 iss_nil))) s1 q1⟩
def wPut (i:Nat) (W Wj:WE):WS:=fun D env=>W env fun d e1=>(gS e1 i).mut=true∧Wj e1 fun y e2=>match y with
 | .int n=>(gS e2 i).mut=true ∧ ∃ j,ixN (gS e2 i).cnt.length n=some j∧D.nx (e2.set i ((gS e2 i).upd ((gS e2 i).cnt.set j d)))
 | _=>False
theorem iss_set {K:PySem.W.Frag}{H:Hp}{d:PyData}{v:V} (h:Is K H d v) : ∀ {l:List PyData}{xs:List V} (j:Nat),Iss K H l xs→Iss K H (l.set j d) (xs.set j v)
 | [],_,j,r=>by rw [r.nil_inv];simpa using iss_nil
 | x::l,_,0,r=>by obtain ⟨y,ys,rfl,p,q⟩:=r.cons_inv;exact iss_cons h q
 | x::l,_,j+1,r=>by obtain ⟨y,ys,rfl,p,q⟩:=r.cons_inv;exact iss_cons p (iss_set h j q)
theorem vs_put (i:Nat) {x:Str}{px:Pos} (he:VE X e W) (hj:VE X b Wb) (hN:X.N[i]?=some x:=by rfl) (hv:Vis X.env.scope x:=by first|exact Or.inl rfl|exact Or.inr (Or.inl rfl)|exact Or.inr (Or.inr rfl)) (hd:(x==("__debug__" : Str))=false:=by decide)
 (hcd:(x==("__classdict__" : Str))=false:=by decide)
 (ha : ∀ v,assign (.Subscript (.Name x px) b pos') X.env v=(do
  let ov ← holding [v] (eval (.Name x px) X.env)
  let iv ← holding [v,ov] (eval b X.env)
  standAt pos'
  holding [v,ov,iv] (setItem ov iv v)
  release [v,ov,iv] []):=by intro _;rfl)
 (hs:swapsWithSole [.Subscript (.Name x px) b pos'] e pos.line X.env=pure false:=by rfl) (hw:swappedStores [.Subscript (.Name x px) b pos'] e X.env=pure none:=by rfl)
 (h1:(assignEach [.Subscript (.Name x px) b pos'] X.env).map (·.2)=[assign (.Subscript (.Name x px) b pos') X.env]:=by rfl):VS X (.Assign [.Subscript (.Name x px) b pos'] e pos) (wPut i W Wb) :=
 (ps_asg he (pg_sub (pe_var hN hv hd hcd) hj set_list ha) hs hw h1).imp fun D σ H xx102=>by
  obtain ⟨M,env,F,DD,I,h,k⟩:=xx102
  refine ⟨M,env,F,_,I,h,fun d v F1 H1 e1 I1 s1 i1 h1=>?_⟩
  obtain ⟨m1,h1⟩:=h1
  obtain ⟨p,vs,ep,g1,g2,g3,g4⟩:=(I1.slot i).addr m1
  refine ⟨_,vS_some ep,M,e1,F1,_,I1,h1,fun d2 v2 F2 H2 e2 I2 s2 i2 h2=>?_⟩
  cases d2 with
  | int n =>
   obtain ⟨m2,j,hj,q⟩:=h2
   obtain ⟨p',vs1,ep',f1,f2,f3,f4⟩:=(I2.slot i).addr m2
   rw [ep] at ep';injection ep' with ep';injection ep' with ep';subst ep'
   exact ⟨p,vs1,n,j,rfl,i2.int_inv,f1,by rw [f4.len];exact hj,k.nx _ F2 _ σ (I2.chg m2 ep (iss_set (i1.mono s2) j f4)) (s1.trans s2) q⟩
  | _=>exact False.elim h2
def wIxO (i:Nat) (Wj:WE):WE:=fun env Q=>(gS env i).mut=true∧Wj env fun y e=>match y with
 | .int n=>(gS e i).mut=true ∧ ∃ d,atI (gS e i).cnt n=some d∧Q d e
 | _=>False
theorem ve_ixO (i:Nat) {x:Str}{px:Pos} (hj:VE X b Wb) (hN:X.N[i]?=some x:=by rfl) (hv:Vis X.env.scope x:=by first|exact Or.inl rfl|exact Or.inr (Or.inl rfl)|exact Or.inr (Or.inr rfl)) (hd:(x==("__debug__" : Str))=false:=by decide)
 (hcd:(x==("__classdict__" : Str))=false:=by decide) (hs:PlainIx b:=by exact (fun _ _=>rfl)):VE X (.Subscript (.Name x px) b pos) (wIxO i Wb) :=
 (pe_ix ix_list (pe_var hN hv hd hcd) hj hs).imp fun σ H R xx103=>by
  obtain ⟨M,env,F,Q,I,⟨m,h⟩,k⟩:=xx103
  obtain ⟨p,vs,ep,g1,g2,g3,g4⟩:=(I.slot i).addr m
  refine ⟨_,vS_some ep,M,env,F,_,I,h,fun d2 v2 F2 H2 e2 I2 s2 i2 h2=>?_⟩
  cases d2 with
  | int n =>
   obtain ⟨m2,d,hd,q⟩:=h2
   obtain ⟨p',vs1,ep',f1,f2,f3,f4⟩:=(I2.slot i).addr m2
   rw [ep] at ep';injection ep' with ep';injection ep' with ep';subst ep'
   obtain ⟨z,ez,hz⟩:=f4.atI hd
   exact ⟨p,vs1,n,z,rfl,i2.int_inv,SqL.of f1,ez,k d z F2 H2 e2 I2 s2 hz q⟩
  | _=>exact False.elim h2
def wWhile (Tc:WT) (t:WS):WS:=fun D env => ∃ P:Nat→Sto→Prop,(∃ m,P m env) ∧ ∀ m e,P m e→Tc e fun k e1=>if k=true then t { D with nx:=fun e2 => ∃ m',m'<m∧P m' e2,ct:=fun e2 => ∃ m',m'<m∧P m' e2,bk:=D.nx } e1 else D.nx e1
theorem vs_while {body:List Stmt} (hc:VT X c Tc) (hb:VSs X body Wt) (hp:PassesOwn (model X.prog X.w) X.A X.env X.xe:=by exact PassesOwn.never):VS X (.While c body [] pos) (wWhile Tc Wt) :=
 (ps_while hp hc hb).imp fun D σ H xx107=>by
  obtain ⟨M,env,F,DD,I,⟨P,⟨m0,p0⟩,turn⟩,k⟩:=xx107
  refine ⟨fun m σ' H' => ∃ e' F',EnvOk X.K M F' H' e' σ'∧Same F F'∧P m e',⟨m0,env,F,I,.refl _,p0⟩,fun m σ1 H1 xx106=>?_⟩
  obtain ⟨e1,F1,I1,s1,p1⟩:=xx106
  refine ⟨M,e1,F1,_,I1,turn m e1 p1,fun x F2 H2 e2 I2 s2 h2=>?_⟩
  cases x with
  | true =>
   refine iteT ⟨fun σ' H' => ∃ m',m'<m ∧ ∃ e' F',EnvOk X.K M F' H' e' σ'∧Same F F'∧P m' e',fun σ' H' z=>z,M,e2,F2,_,I2,h2,?_⟩
   have s02:=s1.trans s2
   exact ⟨fun e3 F3 H3 σ3 I3 s3 xx105=>by obtain ⟨m',l,p3⟩:=xx105;exact ⟨m',l,e3,F3,I3,s02.trans s3,p3⟩,fun r v e3 F3 H3 σ3 I3 s3=>k.rt r v e3 F3 H3 σ3 I3 (s02.trans s3),
    fun e3 F3 H3 σ3 I3 s3=>k.nx e3 F3 H3 σ3 I3 (s02.trans s3),fun e3 F3 H3 σ3 I3 s3 xx104=>by obtain ⟨m',l,p3⟩:=xx104;exact ⟨m',l,e3,F3,I3,s02.trans s3,p3⟩⟩
  | false=>exact iteF (k.nx e2 F2 H2 σ1 I2 (s1.trans s2) h2)
def wFor (Wi:WF) (G:WG) (t:WS):WS:=fun D env=>Wi env fun ds e0 => ∃ P:Nat→Sto→Prop,P 0 e0 ∧
 (∀ i d e,ds[i]?=some d→P i e→G d e fun e1=>t { D with nx:=P (i+1),ct:=P (i+1),bk:=D.nx } e1) ∧ ∀ e,P ds.length e→D.nx e
theorem vs_for {tg iter:Expr}{body:List Stmt}{Wi:WF}{G:WG} (hc:X.calm=true) (hi:VI X tg iter Wi) (hg:VG X tg G) (hb:VSs X body Wt)
 (hs : ∀ x,foldedSetIterable iter X.env x=pure x:=by intro _;rfl) (hp:PassesOwn (model X.prog X.w) X.A X.env X.xe:=by exact PassesOwn.never):VS X (.For tg iter body [] pos) (wFor Wi G Wt) :=
  (ps_for hp hc hi hg hb hs).imp fun D σ H xx110=>by
   obtain ⟨M,env,F,DD,I,h,k⟩:=xx110
   refine ⟨M,env,F,_,I,h,fun ds J F1 H1 e1 I1 s1 jt xx109=>?_⟩
   obtain ⟨P,p0,turn,fin⟩:=xx109
   refine ⟨fun i m σ' H'=>m=ds.length-i∧i≤ds.length ∧ ∃ e' F',EnvOk X.K M F' H' e' σ'∧Same F1 F'∧P i e',⟨ds.length,by simp,Nat.zero_le _,e1,F1,I1,.refl _,p0⟩,fun i m σ2 H2 xx108=>?_⟩
   obtain ⟨hm,hi,e2,F2,I2,s2,p2⟩:=xx108
   by_cases hl:i=ds.length
   ·subst hl
    exact .inl ⟨jt.stop H2 (s2.trans I2.fh),k.nx e2 F2 H2 σ2 I2 (s1.trans s2) (fin e2 p2)⟩
   ·have hlt:i<ds.length:=by omega
    refine .inr ⟨jt.go i H2 (s2.trans I2.fh) hlt,fun σ' H' => ∃ e' F',EnvOk X.K M F' H' e' σ'∧Same F1 F'∧P (i+1) e',fun σ' H' z=>⟨ds.length-(i+1),by omega,rfl,hlt,z⟩,fun x H3 hy=>?_⟩
    obtain ⟨d,F3,hd,g,j⟩:=jt.yld i H2 x H3 F2 s2 I2.fh hlt hy
    refine ⟨M,e2,F3,d,_,I2.go g,j,turn i d e2 hd p2,fun F4 H4 e4 σ4 I4 s4 h4=>⟨M,e4,F4,_,I4,h4,?_⟩⟩
    have s14:=s2.trans (g.f.trans s4)
    exact ⟨fun e5 F5 H5 σ5 I5 s5 p5=>⟨e5,F5,I5,s14.trans s5,p5⟩,fun r v e5 F5 H5 σ5 I5 s5=>k.rt r v e5 F5 H5 σ5 I5 ((s1.trans s14).trans s5),
     fun e5 F5 H5 σ5 I5 s5=>k.nx e5 F5 H5 σ5 I5 ((s1.trans s14).trans s5),fun e5 F5 H5 σ5 I5 s5 p5=>⟨e5,F5,I5,s14.trans s5,p5⟩⟩
end
end
end L2
namespace L2
open PySem PySem.Spec PyProof.Rows
section
variable {X:Cx}
theorem vals_bools : ∀ {bs:List Bool}{us:List Value},Vals (bs.map V.bl) us→LSm.BoolsAre us bs
 | [],_,h=>by cases h;exact .nil
 | b::bs,_,h=>by
  cases h with
  | cons r t=>cases r;exact .cons b (vals_bools t)
def rAll (K:PySem.W.Frag):List V→Hp→VK→Prop:=fun xs H Q => ∃ (a:Addr) (bs:List Bool),xs=[.ref a]∧SqL K H a (bs.map V.bl)∧Q (.bl (bs.all id)) H
theorem call_all (hc:X.calm=true):CallR X (.builtin "all") (rAll X.K):=by
 intro pins s σ H xs us Q I r h
 obtain ⟨a,bs,rfl,ha,q⟩:=h
 obtain ⟨u,rfl,rx⟩:=vals1 r
 cases rx
 obtain ⟨its,rv,pl,_⟩:=I.list ha
 have hl:=pl.isList
 have hb:=vals_bools rv
 have hlt:a<s.heap.objs.size:=pl.lt
 refine call_all_walk (wpAny_pyIter_list hl ?_)
 refine ⟨s.heap.objs.size,[s.heap.objs.size,a],[s.heap.objs.size],its.toArray.size,_,_,fun i=>(bs[i]?).getD true,rfl,Walks.list (A:=X.A.in1) (I.ok.hd hc) _ a (Nat.ne_of_lt hlt) its.toArray,
  ⟨⟨_,Heap.get?_push_size _ rfl,rfl,rfl⟩,hl.push _⟩,fun i v s' Q' E' hP hQ=>?_,fun h' tk hk=>?_⟩
 ·obtain ⟨b,e,rfl⟩:=hb.get i v (by simpa using hP)
  simp only [e,Option.getD_some] at hQ
  exact wpAny_truthy_bool hQ
 ·have hlen:its.toArray.size=bs.length:=by rw [List.size_toArray];exact hb.length
  have e:((List.range its.toArray.size).all fun i=>(bs[i]?).getD true)=bs.all id:=by
   rw [hlen,Bool.eq_iff_iff,List.all_eq_true,List.all_eq_true]
   constructor
   ·intro z b hb'
    obtain ⟨i,hi,rfl⟩:=List.getElem_of_mem hb'
    have:=z i (List.mem_range.mpr hi)
    simpa [hi] using this
   ·intro z i hi
    have hi':=List.mem_range.mp hi
    simpa [hi'] using z _ (List.getElem_mem hi')
  rw [e]
  refine ⟨.bl (bs.all id),H,I.kept (t':=tk) (fun b o z=>hk b o (fun hm=>?_) (Heap.get?_push_of_some _ z)),rfl,q⟩
  rw [List.mem_singleton.mp hm] at z
  exact Nat.lt_irrefl _ (Heap.lt_size z)
theorem preSum_list : ∀ (ns:List Int) (n:Nat),n≤ns.length→preSum (fun i=>(ns[i]?).getD 0) n=(ns.take n).sum
 | ns,0,_=>by simp [preSum]
 | ns,n+1,h=>by
  have hn:n<ns.length:=h
  have e:(ns[n]?).getD 0=ns[n]:=by rw [List.getElem?_eq_getElem hn];rfl
  have e2:(ns.take n++[ns[n]]).sum=(ns.take n).sum+ns[n]:=by rw [List.sum_append];simp
  rw [preSum,preSum_list ns n (Nat.le_of_lt hn),e,List.take_add_one,List.getElem?_eq_getElem hn]
  exact e2.symm
theorem ints_get : ∀ {ns:List Int}{us:List Value},Vals (ns.map V.int) us → ∀ (i:Nat) (v:Value),us[i]?=some v → ∃ t,v = .int ((ns[i]?).getD 0) t
 | [],_,h,i,v,e=>by cases h;simp at e
 | n::ns,_,h,i,v,e=>by
  cases h with
  | cons r t =>
   cases i with
   | zero =>
    obtain ⟨k,rfl⟩:=r
    have:Value.int n k=v:=by simpa using e
    exact ⟨k,by rw [← this];rfl⟩
   | succ i =>
    obtain ⟨k,hk⟩:=ints_get t i v (by simpa using e)
    exact ⟨k,by simpa using hk⟩
def rSum (K:PySem.W.Frag):List V→Hp→VK→Prop:=fun xs H Q => ∃ (a:Addr) (ns:List Int),xs=[.ref a]∧(SqL K H a (ns.map V.int)∨SqT K H a (ns.map V.int))∧Q (.int ns.sum) H
theorem call_sum (hc:X.calm=true):CallR X (.builtin "sum") (rSum X.K):=by
 intro pins s σ H xs us Q I r h
 obtain ⟨a,ns,rfl,ha,q⟩:=h
 obtain ⟨u,rfl,rx⟩:=vals1 r
 cases rx
 have fin : ∀ (its:List Value) (h':Heap) (tk t':Nat),its.length=ns.length→(∀ b o,s.heap.get? b=some o→h'.get? b=some o)→EP X pins σ Q (.int (preSum (fun i=>(ns[i]?).getD 0) its.toArray.size) t') { s with heap:=h',toks:=tk }:=fun its h' tk t' hl hk=>by
  have e:preSum (fun i=>(ns[i]?).getD 0) its.toArray.size=ns.sum:=by
   rw [List.size_toArray,hl,preSum_list ns _ (Nat.le_refl _),List.take_length]
  rw [e]
  exact ⟨.int ns.sum,H,I.kept (t':=tk) hk,⟨t',rfl⟩,q⟩
 have old : ∀ {h':Heap}{ob:Obj},(∀ b o,b ∉ [s.heap.objs.size]→(s.heap.push ob).get? b=some o→h'.get? b=some o) → ∀ b o,s.heap.get? b=some o→h'.get? b=some o:=fun hk b o z =>
  hk b o (fun hm=>by rw [List.mem_singleton.mp hm] at z;exact Nat.lt_irrefl _ (Heap.lt_size z)) (Heap.get?_push_of_some _ z)
 rcases ha with ha|ha
 ·obtain ⟨its,rv,pl,_⟩:=I.list ha
  have hl:=pl.isList
  have hlt:a<s.heap.objs.size:=pl.lt
  have hlen:its.length=ns.length:=by rw [← rv.length,List.length_map]
  refine call_sum_walkG (wpAny_pyIter_list hl ?_)
  refine ⟨s.heap.objs.size,[s.heap.objs.size,a],[s.heap.objs.size],its.toArray.size,_,_,fun i=>(ns[i]?).getD 0,rfl,Walks.list (A:=X.A.in1) (I.ok.hd hc) _ a (Nat.ne_of_lt hlt) its.toArray,
   ⟨⟨_,Heap.get?_push_size _ rfl,rfl,rfl⟩,hl.push _⟩,fun b hb=>?_,fun i v hP=>ints_get rv i v (by simpa using hP),fun h' tk t' hk=>fin its h' tk t' hlen (old hk)⟩
  have hb':b=s.heap.objs.size∨b=a:=by simpa using hb
  rw [Heap.size_push]
  rcases hb' with rfl|rfl
  ·exact Nat.lt_succ_self _
  ·exact Nat.lt_succ_of_lt hlt
 ·obtain ⟨its,rv,pl,_⟩:=I.tuple ha
  have hl:s.heap.IsTuple a its.toArray:=pl
  have hlt:a<s.heap.objs.size:=IsTup.lt pl
  have hlen:its.length=ns.length:=by rw [← rv.length,List.length_map]
  refine call_sum_walkG (wpAny_pyIter_tuple hl ?_)
  refine ⟨s.heap.objs.size,[s.heap.objs.size,a],[s.heap.objs.size],its.toArray.size,_,_,fun i=>(ns[i]?).getD 0,rfl,Walks.tuple (A:=X.A.in1) (I.ok.hd hc) _ a (Nat.ne_of_lt hlt) its.toArray,
   ⟨⟨_,Heap.get?_push_size _ rfl,rfl,rfl⟩,pl.push _⟩,fun b hb=>?_,fun i v hP=>ints_get rv i v (by simpa using hP),fun h' tk t' hk=>fin its h' tk t' hlen (old hk)⟩
  have hb':b=s.heap.objs.size∨b=a:=by simpa using hb
  rw [Heap.size_push]
  rcases hb' with rfl|rfl
  ·exact Nat.lt_succ_self _
  ·exact Nat.lt_succ_of_lt hlt
def rSorted (K:PySem.W.Frag):List V→Hp→VK→Prop:=fun xs H Q => ∃ (a:Addr) (ns:List Int),xs=[.ref a]∧SqL K H a (ns.map V.int)∧ns.length<64 ∧ ∀ (p:Addr) (ns':List Int),H p=none→ns'.Perm ns→ns'.Pairwise (· ≤ ·)→Q (.ref p) (upd H p (.lst (ns'.map V.int)))
theorem call_sorted:CallR X (.builtin "sorted") (rSorted X.K):=by
 intro pins s σ H xs us Q I r h
 obtain ⟨a,ns,rfl,ha,h64,q⟩:=h
 obtain ⟨u,rfl,rx⟩:=vals1 r
 cases rx
 obtain ⟨its,rv,pl,_⟩:=I.list ha
 have hlen:its.length=ns.length:=by rw [← rv.length,List.length_map]
 refine sorted_ints pl.isList (intsAre_of rv) (by omega) fun out ns' a1 a2 a3=>?_
 obtain ⟨e,he⟩:=sortedAll_at s.heap its out
 have hl':ns'.length=ns.length:=a2.length_eq
 refine ⟨.ref (s.heap.objs.size+1),_,I.laid (t':=s.toks) (a:=s.heap.objs.size+1) (o :=.lst (ns'.map V.int)) (fun b o z=>sortedAll_old z) (Nat.le_succ _) ?_,rfl,q _ ns' (I.hok.fresh (Nat.le_succ _)) a2 a3⟩
 exact ⟨Nat.le_of_lt (small1000 (by rw [List.length_map];omega)),out.toList,e,vals_ints a1,by rw [Array.toArray_toList];exact he⟩
def iAny (K:PySem.W.Frag) (tl:TE):TI:=fun σ H R=>tl σ H fun x H1 => ∃ a,x = .ref a∧(((∃ xs,SqL K H1 a xs)∧R (Itl K a) H1)∨((∃ xs,SqT K H1 a xs)∧R (Itt K a) H1))
theorem pi_any {tg l:Expr}{tl:TE} (hl:PE X l tl):PI X tg l (iAny X.K tl):=by
 intro pins s σ H R I h
 refine thn (hl pins s σ H _ I h) fun v s1 xx111=>?_
 obtain ⟨x,H1,I1,r1,q1⟩:=xx111
 obtain ⟨a,e,q1⟩:=q1
 subst e
 cases r1
 rcases q1 with ⟨⟨xs,hq⟩,q⟩|⟨⟨xs,hq⟩,q⟩
 ·obtain ⟨its,rv,p,hz⟩:=I1.list hq
  refine wpAny_pyIter_list p.isList ?_
  refine ⟨s1.heap.objs.size,[s1.heap.objs.size],_,_,H1,rfl,I1.kept (t':=s1.toks) fun b o e=>Heap.get?_push_of_some _ e,turn_list a _,⟨_,Heap.get?_push_size _ rfl,rfl,rfl⟩,fun b hb=>?_,q⟩
  have e:b=s1.heap.objs.size:=by simpa using hb
  subst e
  exact I1.fpOk (Nat.le_refl _) (I1.hok.fresh (Nat.le_refl _))
 ·obtain ⟨its,rv,p,hz⟩:=I1.tuple hq
  refine wpAny_pyIter_tuple (show s1.heap.IsTuple a its.toArray from p) ?_
  refine ⟨s1.heap.objs.size,[s1.heap.objs.size],_,_,H1,rfl,I1.kept (t':=s1.toks) fun b o e=>Heap.get?_push_of_some _ e,turn_tuple a _,⟨_,Heap.get?_push_size _ rfl,rfl,rfl⟩,fun b hb=>?_,q⟩
  have e:b=s1.heap.objs.size:=by simpa using hb
  subst e
  exact I1.fpOk (Nat.le_refl _) (I1.hok.fresh (Nat.le_refl _))
end
theorem boot_all:bootBuiltins "all" = some (.builtin "all"):=by decide +kernel
theorem boot_sum:bootBuiltins "sum" = some (.builtin "sum"):=by decide +kernel
theorem boot_sorted:bootBuiltins "sorted" = some (.builtin "sorted"):=by decide +kernel
end L2
namespace L2
open PySem PySem.Spec PyProof.Rows
section
variable {X:Cx}
theorem itd_lst {K:PySem.W.Frag}{F:Hp}{a:Addr}{xs:List V}{l:List PyData} (hs:SqL K F a xs) (hr:Iss K F l xs):ItD K (Itl K a) F l where
 go:=fun i H s hi=>⟨xs,xs[i]'(by rw [hr.len];exact hi),s.seq hs,List.getElem?_eq_getElem _⟩
 stop:=fun H s=>⟨xs,s.seq hs,by rw [hr.len];exact Nat.le_refl _⟩
 yld:=fun i H x H' F1 s1 s2 hi hy=>by
  obtain ⟨rfl,hy⟩:=hy
  obtain ⟨d,e1,e2⟩:=hr.get' (hy xs ((s1.trans s2).seq hs))
  exact ⟨d,F1,e1,.refl s2,e2.mono s1⟩
theorem itd_tup {K:PySem.W.Frag}{F:Hp}{a:Addr}{xs:List V}{l:List PyData} (hs:SqT K F a xs) (hr:Iss K F l xs):ItD K (Itt K a) F l where
 go:=fun i H s hi=>⟨xs,xs[i]'(by rw [hr.len];exact hi),same_seqT s hs,List.getElem?_eq_getElem _⟩
 stop:=fun H s=>⟨xs,same_seqT s hs,by rw [hr.len];exact Nat.le_refl _⟩
 yld:=fun i H x H' F1 s1 s2 hi hy=>by
  obtain ⟨rfl,hy⟩:=hy
  obtain ⟨d,e1,e2⟩:=hr.get' (hy xs (same_seqT (s1.trans s2) hs))
  exact ⟨d,F1,e1,.refl s2,e2.mono s1⟩
def rngD (lo:Int) (n:Nat):List PyData:=(List.range n).map fun (k:Nat) => .int (lo+(k:Int))
theorem rngD_len (lo:Int) (n:Nat):(rngD lo n).length=n:=by simp [rngD]
theorem rngD_get {lo:Int}{n i:Nat} (h:i<n):(rngD lo n)[i]?=some (.int (lo+i)):=by simp [rngD,h]
theorem rngD_inv {lo:Int}{n i:Nat}{d:PyData} (h:(rngD lo n)[i]?=some d):i<n∧d = .int (lo+i):=by
 have hi:i<n:=by
  have:=(List.getElem?_eq_some_iff.mp h).1
  rwa [rngD_len] at this
 rw [rngD_get hi] at h
 exact ⟨hi,(Option.some.inj h).symm⟩
theorem itd_rng {K:PySem.W.Frag}{F:Hp}{lo:Int}{n:Nat}:ItD K (Itr lo n) F (rngD lo n) where
 go:=fun i H s hi=>by rw [rngD_len] at hi;exact hi
 stop:=fun H s=>by rw [rngD_len];exact Nat.le_refl _
 yld:=fun i H x H' F1 s1 s2 hi hy=>by
  obtain ⟨rfl,rfl⟩:=hy
  rw [rngD_len] at hi
  exact ⟨_,F1,rngD_get hi,.refl s2,is_int _⟩
def enumD (l:List PyData):List PyData:=(List.range l.length).map fun (k:Nat) => .tuple [.int k,(l[k]?).getD .none]
theorem enumD_len (l:List PyData):(enumD l).length=l.length:=by simp [enumD]
theorem enumD_get {l:List PyData}{i:Nat}{d:PyData} (h:l[i]?=some d):(enumD l)[i]?=some (.tuple [.int i,d]):=by
 have hi:=(List.getElem?_eq_some_iff.mp h).1
 have e:l[i]=d:=by rw [List.getElem?_eq_getElem hi] at h;exact Option.some.inj h
 simp [enumD,hi,e]
theorem enumD_inv {l:List PyData}{i:Nat}{d:PyData} (h:(enumD l)[i]?=some d) : ∃ x,l[i]?=some x∧d = .tuple [.int i,x]:=by
 have hi:i<l.length:=by
  have:=(List.getElem?_eq_some_iff.mp h).1
  rwa [enumD_len] at this
 have e:=enumD_get (List.getElem?_eq_getElem hi)
 rw [h] at e
 exact ⟨_,List.getElem?_eq_getElem hi,Option.some.inj e⟩
theorem itd_enum {K:PySem.W.Frag}{F:Hp}{a:Addr}{xs:List V}{l:List PyData} (hs:SqL K F a xs) (hr:Iss K F l xs):ItD K (Ite K a) F (enumD l) where
 go:=fun i H s hi=>by rw [enumD_len] at hi;exact ⟨xs,xs[i]'(by rw [hr.len];exact hi),s.seq hs,List.getElem?_eq_getElem _⟩
 stop:=fun H s=>by rw [enumD_len];exact ⟨xs,s.seq hs,by rw [hr.len];exact Nat.le_refl _⟩
 yld:=fun i H x H' F1 s1 s2 hi hy=>by
  obtain ⟨p,y,hy,hp,rfl,rfl⟩:=hy
  obtain ⟨d,e1,e2⟩:=hr.get' (hy xs ((s1.trans s2).seq hs))
  have g:=Go.put (o:=HO.tup [.int i,y]) s2 hp
  exact ⟨_,_,enumD_get e1,g,is_tup (SqT.of upd_same) (iss_cons (is_int _) (iss_cons ((e2.mono s1).mono g.f) iss_nil))⟩
section
variable {tg a b c:Expr}{W:WE}{Wr:WF}{p pos:Pos}
def isTy (T:String):PyData→Bool
 | .none=>false
 | .bool _=>T == "bool" || T == "int"
 | .int _=>T == "int"
 | .str _=>T == "str"
 | .list _=>T == "list"
 | .tuple _=>T == "tuple"
 | .dict _=>T == "dict"
def dSum:DC
 | [.list l],q => ∃ ns:List Int,l=ns.map .int∧q (.int ns.sum)
 | [.tuple l],q => ∃ ns:List Int,l=ns.map .int∧q (.int ns.sum)
 | _,_=>False
def seqD:PyData→Option (List PyData)
 | .list l=>some l
 | .tuple l=>some l
 | _=>none
theorem seq_elim {d:PyData}{l:List PyData}{Q:List PyData→Prop} (h:seqD d=some l) (q:Q l):(seqD d).elim False Q:=by rw [h];exact q
theorem ix_seqD {d:PyData}{l:List PyData}{i:Int}{x:PyData}{q:PyData→Prop} (h:seqD d=some l) (e:atI l i=some x) (hq:q x):dIx d (.int i) q:=by
 cases d with
 | list m=>cases h;exact ⟨x,e,hq⟩
 | tuple m=>cases h;exact ⟨x,e,hq⟩
 | _=>cases h
def wiSeq (W:WE):WF:=fun env Q=>W env fun d e=>(seqD d).elim False fun l=>Q l e
theorem vi_seq (h:VE X a W):VI X tg a (wiSeq W):=(pi_any h).imp fun σ H R xx112=>by
 obtain ⟨M,env,F,Q,I,h,k⟩:=xx112
 refine ⟨M,env,F,_,I,h,fun d v F1 H1 e1 I1 s1 i1 h1=>?_⟩
 cases d with
 | list l =>
  obtain ⟨b,xs,rfl,hs,hr⟩:=i1.lst_inv
  exact ⟨b,rfl,.inl ⟨⟨xs,I1.fh.seq hs⟩,k l _ F1 H1 e1 I1 s1 (itd_lst hs hr) h1⟩⟩
 | tuple l =>
  obtain ⟨b,xs,rfl,hs,hr⟩:=i1.tup_inv
  exact ⟨b,rfl,.inr ⟨⟨xs,same_seqT I1.fh hs⟩,k l _ F1 H1 e1 I1 s1 (itd_tup hs hr) h1⟩⟩
 | _=>exact False.elim h1
def wiR1 (W:WE):WF:=fun env Q=>W env fun d e=>match d with
 | .int j=>(-(2^62)≤j∧j<2^62)∧Q (rngD 0 j.toNat) e
 | _=>False
theorem vi_range1 (hm:X.mg "range" = none) (ha:VE X a W) (hg:Gl X "range":=by rfl) (hs:starEach [a] X.env=[(false,eval a X.env)]:=by rfl) (hs':starEach [a] X.env=(false,eval a X.env)::starEach [] X.env:=by rfl):VI X tg (.Call (.Name "range" p) [a] [] pos) (wiR1 W) :=
 (pi_range1 hg hm (pa_cons ha pa_nil hs') hs).imp fun σ H R xx113=>by
  obtain ⟨M,env,F,Q,I,h,k⟩:=xx113
  refine ⟨M,env,F,_,I,h,fun d v F1 H1 e1 I1 s1 i1 h1=>?_⟩
  cases d with
  | int j=>exact ⟨j,by rw [i1.int_inv],h1.1.1,h1.1.2,k _ _ F1 H1 e1 I1 s1 itd_rng h1.2⟩
  | _=>exact False.elim h1
def wiEn (W:WE):WF:=fun env Q=>W env fun d e=>match d with
 | .list l=>Q (enumD l) e
 | _=>False
theorem vi_enum {elts:List Expr}{x1:Nat}{tpos:Pos} (hm:X.mg "enumerate" = none) (ha:VE X a W) (hg:Gl X "enumerate":=by rfl) (hs:starEach [a] X.env=[(false,eval a X.env)]:=by rfl) (hs':starEach [a] X.env=(false,eval a X.env)::starEach [] X.env:=by rfl) :
 VI X (.Tuple elts x1 tpos) (.Call (.Name "enumerate" p) [a] [] pos) (wiEn W) :=
 (pi_enum hg hm (pa_cons ha pa_nil hs') hs).imp fun σ H R xx114=>by
  obtain ⟨M,env,F,Q,I,h,k⟩:=xx114
  refine ⟨M,env,F,_,I,h,fun d v F1 H1 e1 I1 s1 i1 h1=>?_⟩
  cases d with
  | list l =>
   obtain ⟨b,xs,rfl,hs,hr⟩:=i1.lst_inv
   exact ⟨b,rfl,⟨xs,I1.fh.seq hs⟩,k _ _ F1 H1 e1 I1 s1 (itd_enum hs hr) h1⟩
  | _=>exact False.elim h1
end
def Sl.seen:Sl→Sl
 | .val d => .val d
 | .new d => .val d
 | _ => .non
def capE (ix:List Nat) (k:Nat) (env:Sto):Sto:=ix.map (fun i=>(gS env i).seen)++List.replicate k .non
def wComp (ix:List Nat) (k:Nat) (Wi:WF) (G:WG) (We:WE):WF:=fun env Q=>Wi env fun ds e0=>ds.length<sizeLine ∧ ∃ P:Nat→List PyData→Sto→Prop,P 0 [] (capE ix k e0) ∧
 (∀ i d ys e,ds[i]?=some d→P i ys e→G d e fun e1=>We e1 fun y e2=>P (i+1) (ys++[y]) e2) ∧ ∀ ys e,P ds.length ys e→Q ys e0
theorem gS_map : ∀ (ix:List Nat) (f:Nat→Sl) (r:Sto) (j:Nat),gS (ix.map f++r) j=match ix[j]? with|some i=>f i|none=>gS r (j-ix.length)
 | [],f,r,j=>by simp
 | i::ix,f,r,0=>by simp [gS]
 | i::ix,f,r,j+1=>by simp only [List.map_cons,List.cons_append,gS,List.getElem?_cons_succ,List.length_cons,Nat.add_sub_add_right];exact gS_map ix f r j
theorem gS_rep (k j:Nat):gS (List.replicate k .non) j = .non:=by
 induction k generalizing j with
 | zero=>simp [gS]
 | succ k ih=>cases j with
  | zero=>simp [List.replicate_succ,gS]
  | succ j=>simp only [List.replicate_succ,gS];exact ih j
theorem vS_cap (ix:List Nat) (k:Nat) (σ:St) (j i:Nat) (h:ix[j]?=some i):vS (capS ix k σ) j=vS σ i:=by
 have hj:=(List.getElem?_eq_some_iff.mp h).1
 unfold vS capS
 rw [List.getElem?_append_left (by simpa using hj),List.getElem?_map,h]
 rfl
theorem EnvOk.cap {K:PySem.W.Frag}{M:Frm}{F H:Hp}{env:Sto}{σ:St} (I:EnvOk K M F H env σ) (ix:List Nat) (k:Nat):EnvOk K ⟨H,H,F⟩ F H (capE ix k env) (capS ix k σ) where
 len:=by simp [capE,capS]
 slot:=fun j=>by
  unfold capE
  rw [gS_map]
  cases h:ix[j]? with
  | none=>rw [gS_rep];trivial
  | some i =>
   show SlotOk K _ F H (gS env i).seen _
   rw [vS_cap ix k σ j i h]
   have S:=I.slot i
   cases q:gS env i with
   | val d=>rw [q] at S;exact S
   | non=>trivial
   | own ds=>trivial
   | pen ds=>trivial
   | new d=>rw [q] at S;obtain ⟨v,e,j⟩:=S;exact ⟨v,e,j.is newF_le⟩
   | exc C=>trivial
   | «at» v=>trivial
   | obj a0 C nm fs=>trivial
 dis:=fun i j a _ h1=>by
  unfold capE at h1
  rw [gS_map] at h1
  cases h:ix[i]? with
  | none=>rw [h,gS_rep] at h1;cases h1
  | some n =>
   rw [h] at h1
   replace h1:(gS env n).seen.mut=true:=h1
   cases q:gS env n <;> rw [q] at h1 <;> cases h1
 f0 :=.refl _
 fe:=I.fh
 fh:=I.fh
 bh :=.refl _
 new:=fun b o e => .inl e
 dom:=fun b o e=>⟨o,e⟩
theorem EnvOk.goOf {K:PySem.W.Frag}{F H F' H':Hp}{env:Sto}{σ:St} (I:EnvOk K ⟨H,H,F⟩ F' H' env σ):Go F H F' H':=⟨I.f0,I.bh,I.fh,I.new⟩
section
variable {K:PySem.W.Frag}{ix:List Nat}{n:Nat}{Wi:WF}{G:WG}{We:WE}{σ:St}{H:Hp}{R:VK}
theorem comp_lift (h:liftF K (wComp ix n Wi G We) σ H R):tComp ix n (liftI K Wi) (liftG K G) (liftE K We) σ H R:=by
 obtain ⟨M,env,F,Q,I,h,k⟩:=h
 refine ⟨M,env,F,_,I,h,fun ds J F1 H1 e1 I1 s1 jt xx116=>?_⟩
 obtain ⟨hz,P,p0,turn,fin⟩:=xx116
 refine ⟨fun i m ys σ1 H'=>m=ds.length-i∧i≤ds.length ∧ ∃ e' F' l,EnvOk K ⟨H1,H1,F1⟩ F' H' e' σ1∧Iss K F' l ys∧ys.length=i∧P i l e',⟨ds.length,by simp,Nat.zero_le _,capE ix n e1,F1,[],I1.cap ix n,iss_nil,rfl,p0⟩,?_⟩
 rintro i m ys σ1 H2 ⟨hm,hi,e2,F2,l,I2,i2,hl,p2⟩
 have g2:=I2.goOf
 by_cases he:i=ds.length
 ·subst he
  exact .inl ⟨jt.stop H2 (g2.f.trans g2.fh),by omega,new_lst (I1.go g2) (s1.trans g2.f) i2 (fin l e2 p2) k⟩
 ·have hlt:i<ds.length:=by omega
  refine .inr ⟨jt.go i H2 (g2.f.trans g2.fh) hlt,by omega,fun y σ' H' => ∃ e' F' l',EnvOk K ⟨H1,H1,F1⟩ F' H' e' σ'∧Iss K F' l' (ys++[y])∧P (i+1) l' e',
   fun y σ' H' xx115=>by obtain ⟨e',F',l',I',i',p'⟩:=xx115;exact ⟨ds.length-(i+1),by omega,rfl,hlt,e',F',l',I',i',by simp [hl],p'⟩,fun x H3 hy=>?_⟩
  obtain ⟨d,F3,hd,g,j⟩:=jt.yld i H2 x H3 F2 g2.f g2.fh hlt hy
  refine ⟨_,e2,F3,d,_,I2.go g,j,turn i d l e2 hd p2,fun F4 H4 e4 σ4 I4 s4 h4=>⟨_,e4,F4,_,I4,h4,fun d5 v5 F5 H5 e5 I5 s5 i5 h5=>?_⟩⟩
  exact ⟨e5,F5,l++[d5],I5,iss_append ((i2.mono (g.f.trans s4)).mono s5) (iss_cons i5 iss_nil),h5⟩
end
theorem vf_comp {elt target iter:Expr}{scope:Scope}{pos:Pos}{caps own:List Str}{ix:List Nat}{Wi:WF}{G:WG}{We:WE} (hc:X.calm=true) (S:CompScope X.env scope caps) (hi:VI X target iter Wi)
 (hg : ∀ pins s3 H ex,VG (blk X pins scope (caps++own) s3 H ex) target G)
 (he : ∀ pins s3 H ex,VE (blk X pins scope (caps++own) s3 H ex) elt We)
 (hix:caps.length=ix.length:=by rfl) (hcapB:(caps.zip ix).all (fun p=>X.N[p.2]?==some p.1)=true:=by rfl)
  (hs : ∀ x,foldedSetIterable iter X.env x=pure x:=by intro _;rfl):VF X (.ListComp elt [⟨target,iter,[],0⟩] scope pos) (wComp ix own.length Wi G We) :=
  (pe_comp (g:=liftG X.K G) (te:=liftE X.K We) hc S hi hg he hix hcapB hs).imp fun _ _ _ h=>comp_lift h
theorem comp_by {ix:List Nat}{k:Nat}{G:WG}{We:WE}{Q:List PyData→Sto→Prop}{ds:List PyData}{e0:Sto} (L:List PyData) (hl:L.length=ds.length) (hz:L.length<sizeLine) (Iv:Sto→Prop) (h0:Iv (capE ix k e0))
 (h : ∀ (i:Nat) d ys e,ds[i]?=some d→ys=L.take i→Iv e→G d e fun e1=>We e1 fun y e2=>ys++[y]=L.take (i+1)∧Iv e2) (q:Q L e0) :
 ds.length<sizeLine ∧ ∃ P:Nat→List PyData→Sto→Prop,P 0 [] (capE ix k e0)∧(∀ i d ys e,ds[i]?=some d→P i ys e→G d e fun e1=>We e1 fun y e2=>P (i+1) (ys++[y]) e2) ∧ ∀ ys e,P ds.length ys e→Q ys e0 :=
  ⟨by omega,fun i ys e=>ys=L.take i∧Iv e,⟨by simp,h0⟩,fun i d ys e hd hp=>h i d ys e hd hp.1 hp.2,fun ys e hp=>by rw [hp.1,← hl,List.take_length];exact q⟩
theorem snoc_take {α:Type}{L ys:List α}{y:α}{i:Nat} (e:L[i]?=some y) (h:ys=L.take i):ys++[y]=L.take (i+1):=by
 rw [h,List.take_add_one,e];rfl
def wIsi (T:String) (W:WE):WE:=fun env Q=>W env fun d e=>Q (.bool (isTy T d)) e
section
variable {a:Expr}{W:WE}{p pos pT:Pos}{T:String}{t:Str}
theorem ve_isi (hm:X.mg "isinstance" = none) (ht:X.mg t=none) (hv:bootBuiltins t=some (.type T)) (ha:VE X a W) (hk : ∀ d,PySem.W.kitOne X.K (.type (tyD d)) (.type T)=some (isTy T d):=by intro d;cases d <;> rfl)
 (hg:Gl X "isinstance":=by rfl) (hgt:Gl X t:=by rfl) (hn:t ≠ "__name__":=by decide) (hdt:(t==("__debug__" : Str))=false:=by decide)
 (hs:starEach [a,.Name t pT] X.env=(false,eval a X.env)::starEach [.Name t pT] X.env:=by rfl) (hs2:starEach [.Name t pT] X.env=(false,eval (.Name t pT) X.env)::starEach [] X.env:=by rfl) (hpl:(backTo pos (starEach [.Name t pT] X.env)).any (·.1)=false:=by rfl) :
 VE X (.Call (.Name "isinstance" p) [a,.Name t pT] [] pos) (wIsi T W) :=
 (pe_callB call_isi hg hm boot_isinstance (pa_cons ha (pa_cons (pe_bltn (v :=.ty T) hgt ht hv rfl hn hdt) pa_nil hs2) hs) (by decide) (by decide) hs hpl).imp fun σ H R xx117=>by
  obtain ⟨M,env,F,Q,I,h,k⟩:=xx117
  exact ⟨M,env,F,_,I,h,fun d v F1 H1 e1 I1 s1 i1 h1=>⟨d,v,T,isTy T d,rfl,i1.mono I1.fh,hk d,k _ _ F1 H1 e1 I1 s1 (is_bl _) h1⟩⟩
end
theorem c_sum (hc:X.calm=true):CallV X (.builtin "sum") dSum:=(call_sum hc).imp fun xs H Q xx118=>by
 obtain ⟨F,ds,q,s,i,h,k⟩:=xx118
 match ds,h,i with
 | [.list l],h,i =>
  obtain ⟨v,rfl,j⟩:=iss1 i
  obtain ⟨a,xs,rfl,hs,hr⟩:=j.lst_inv
  obtain ⟨ns,rfl,hq⟩:=h
  rw [hr.ints_inv] at hs
  exact ⟨a,ns,rfl,.inl (s.seq hs),k _ _ F H (.refl s) (is_int _) hq⟩
 | [.tuple l],h,i =>
  obtain ⟨v,rfl,j⟩:=iss1 i
  obtain ⟨a,xs,rfl,hs,hr⟩:=j.tup_inv
  obtain ⟨ns,rfl,hq⟩:=h
  rw [hr.ints_inv] at hs
  exact ⟨a,ns,rfl,.inr (same_seqT s hs),k _ _ F H (.refl s) (is_int _) hq⟩
def dSortF:List PyData→(List PyData→Prop)→Prop
 | [.list l],q => ∃ ns:List Int,l=ns.map .int∧ns.length<64 ∧ ∀ ns':List Int,ns'.Perm ns→ns'.Pairwise (· ≤ ·)→q (ns'.map .int)
 | _,_=>False
theorem c_sorted:CallVF X (.builtin "sorted") dSortF:=call_sorted.imp fun xs H Q xx119=>by
 obtain ⟨F,ds,q,s,i,h,k⟩:=xx119
 match ds,h,i with
 | [.list l],h,i =>
  obtain ⟨v,rfl,j⟩:=iss1 i
  obtain ⟨a,xs,rfl,hs,hr⟩:=j.lst_inv
  obtain ⟨ns,rfl,hz,hq⟩:=h
  rw [hr.ints_inv] at hs
  exact ⟨a,ns,rfl,s.seq hs,hz,fun p ns' hp h1 h2=>k _ p _ F _ (.side s hp) hp (same_none s hp) upd_same (iss_ints ns') (hq ns' h1 h2)⟩
def dAll:DC
 | [.list l],q => ∃ bs:List Bool,l=bs.map .bool∧q (.bool (bs.all id))
 | _,_=>False
theorem Iss.bools_inv {K:PySem.W.Frag}{H:Hp} : ∀ {bs:List Bool}{xs:List V},Iss K H (bs.map .bool) xs→xs=bs.map V.bl
 | [],_,h=>h.nil_inv
 | n::ns,_,h=>by
  obtain ⟨x,r,rfl,p,q⟩:=h.cons_inv
  rw [p.bl_inv,Iss.bools_inv q];rfl
theorem c_all (hc:X.calm=true):CallV X (.builtin "all") dAll:=(call_all hc).imp fun xs H Q xx120=>by
 obtain ⟨F,ds,q,s,i,h,k⟩:=xx120
 match ds,h,i with
 | [.list l],h,i =>
  obtain ⟨v,rfl,j⟩:=iss1 i
  obtain ⟨a,xs,rfl,hs,hr⟩:=j.lst_inv
  obtain ⟨bs,rfl,hq⟩:=h
  rw [hr.bools_inv] at hs
  exact ⟨a,bs,rfl,s.seq hs,k _ _ F H (.refl s) (is_bl _) hq⟩
end
def startE (N:List Str) (ds:List PyData):Sto:=ds.map .val++List.replicate (N.length-ds.length) .non
theorem gS_val : ∀ (ds:List PyData) (r:Sto) (j:Nat),gS (ds.map .val++r) j=match ds[j]? with|some d => .val d|none=>gS r (j-ds.length)
 | [],r,j=>by simp
 | i::ix,r,0=>by simp [gS]
 | i::ix,r,j+1=>by simp only [List.map_cons,List.cons_append,gS,List.getElem?_cons_succ,List.length_cons,Nat.add_sub_add_right];exact gS_val ix r j
theorem vS_start {N:List Str}{vs:List V}{j:Nat}{v:V} (h:vs[j]?=some v):vS (start N vs) j=some v:=by
 have hj:=(List.getElem?_eq_some_iff.mp h).1
 unfold vS start
 rw [List.getElem?_append_left (by simpa using hj),List.getElem?_map,h]
 rfl
theorem env_start {K:PySem.W.Frag}{F H:Hp}{N:List Str}{ds:List PyData}{vs:List V} (s:Same F H) (i:Iss K F ds vs):EnvOk K ⟨H,H,F⟩ F H (startE N ds) (start N vs) where
 len:=by simp [startE,start,i.len]
 slot:=fun j=>by
  unfold startE
  rw [gS_val]
  cases h:ds[j]? with
  | none=>rw [gS_rep];trivial
  | some d =>
   obtain ⟨x,e1,e2⟩:=i.get h
   exact ⟨x,vS_start e1,e2⟩
 dis:=fun i j a _ h1=>by
  unfold startE at h1
  rw [gS_val] at h1
  cases h:ds[i]? with
  | none=>rw [h,gS_rep] at h1;cases h1
  | some d=>rw [h] at h1;cases h1
 f0 :=.refl _
 fe:=s
 fh:=s
 bh :=.refl _
 new:=fun b o e => .inl e
 dom:=fun b o e=>⟨o,e⟩
section
variable {P:Program}{w:World}{K:PySem.W.Frag}{mg:Str→Option Value}{base:Heap}
theorem RetOk.is {F H F' H':Hp}{env:Sto}{σ:St}{r:Ret}{v:V} (I:EnvOk K ⟨H,H,F⟩ F' H' env σ) (h:RetOk K ⟨H,H,F⟩ F' H' r v) : ∃ F'',Go F H F'' H'∧Is K F'' r.data v:=by
 have g:=I.goOf
 cases r with
 | val d=>exact ⟨F',g,h⟩
 | new d=>exact ⟨F',g,IsN.is newF_le h⟩
 | own ds =>
  obtain ⟨a,vs,rfl,h1,h2,h3,h4,h5⟩:=h
  have s:Same F' (upd F' a (.lst vs)):=same_new h2
  refine ⟨upd F' a (.lst vs),⟨g.f.trans s,g.h,fun b o e=>?_,fun b o e=>?_⟩,is_lst (SqL.of upd_same) (h5.mono s)⟩
  ·by_cases z:b=a
   ·subst z;rw [upd_same] at e;rw [h1];exact .of e
   ·rw [upd_ne z] at e;exact g.fh b o e
  ·by_cases z:b=a
   ·subst z;exact .inr h4
   ·rw [upd_ne z] at e;exact g.new b o e
theorem Def.vok {x:Str}{st:Stmt}{N ps:List Str}{k:Nat}{sp:DC} (F:Def K mg x st ps) (S:FnScope N ps (defScope st)) (len : ∀ ds q,sp ds q→ds.length=ps.length)
 (hbody : ∀ (f:Addr) (cdv:Value) (A:Around) (outer:List Env) (s:Shared) (H:Hp) (E:XK),Room k (A.deeper (envOfC x (defScope st) s.heap.objs.size f cdv)) → ∀ ds q,sp ds q →
 ∃ W,VSs (cxOf CX0 P w K mg base N x (defScope st) f cdv A outer s H E).nox (defBody st) W∧W { nx:=fun _=>q .none,rt:=fun r _=>q r.data } (startE N ds)):Ok P w K mg base x (k+1) ps (PSp K sp) :=
  F.ok S (fun vs H Q E xx122=>by obtain ⟨F,ds,q,_,i,h,_⟩:=xx122;rw [i.len];exact len ds q h) fun f cdv A outer s H vs Q E hr xx121=>by
   obtain ⟨F,ds,q,sm,i,h,kk⟩:=xx121
   obtain ⟨W,hW,hq⟩:=hbody f cdv A outer s H E hr ds q h
   refine ⟨_,hW,⟨H,H,F⟩,startE N ds,F,_,env_start sm i,hq,⟨fun e1 F1 H1 σ1 I1 s1 q1=>kk _ _ F1 H1 I1.goOf is_non q1,fun r v e1 F1 H1 σ1 I1 s1 r1 q1=>?_,fun _ _ _ _ _ _ h=>h.elim,fun _ _ _ _ _ _ h=>h.elim⟩⟩
   obtain ⟨F2,g,j⟩:=r1.is I1
   exact kk _ _ F2 H1 g j q1
theorem Def.vokF {x:Str}{st:Stmt}{N ps:List Str}{k:Nat}{sp:List PyData→(List PyData→Prop)→Prop} (F:Def K mg x st ps) (S:FnScope N ps (defScope st)) (len : ∀ ds q,sp ds q→ds.length=ps.length)
 (hbody : ∀ (f:Addr) (cdv:Value) (A:Around) (outer:List Env) (s:Shared) (H:Hp) (E:XK),Room k (A.deeper (envOfC x (defScope st) s.heap.objs.size f cdv)) → ∀ ds q,sp ds q →
 ∃ W,VSs (cxOf CX0 P w K mg base N x (defScope st) f cdv A outer s H E).nox (defBody st) W∧W { nx:=fun _=>False,rt:=fun r _ => ∃ l,r = .own l∧q l } (startE N ds)):Ok P w K mg base x (k+1) ps (FSp K sp) :=
  F.ok S (fun vs H Q E xx124=>by obtain ⟨F,ds,q,_,i,h,_⟩:=xx124;rw [i.len];exact len ds q h) fun f cdv A outer s H vs Q E hr xx123=>by
   obtain ⟨F,ds,q,sm,i,h,kk⟩:=xx123
   obtain ⟨W,hW,hq⟩:=hbody f cdv A outer s H E hr ds q h
   refine ⟨_,hW,⟨H,H,F⟩,startE N ds,F,_,env_start sm i,hq,⟨fun e1 F1 H1 σ1 I1 s1 q1=>q1.elim,fun r v e1 F1 H1 σ1 I1 s1 r1 q1=>?_,fun _ _ _ _ _ _ h=>h.elim,fun _ _ _ _ _ _ h=>h.elim⟩⟩
   obtain ⟨l,rfl,q1⟩:=q1
   obtain ⟨a,vs,rfl,h1,h2,h3,h4,h5⟩:=r1
   exact kk l a vs F1 H1 I1.goOf h4 h2 h1 h5 q1
def spLaw (K:PySem.W.Frag):Sp:=fun vs H Q _ => ∃ (a:Addr) (ns:List Int),vs=[.ref a]∧SqL K H a (ns.map V.int)∧ns.length≤63 ∧ ∀ H',Q (.bl true) H'
end
end L2
namespace L2
open PySem PySem.Spec PyProof.Rows
section
variable (K:PySem.W.Frag)
def liftN (W:WE):TE:=fun σ H R => ∃ M env F Q,EnvOk K M F H env σ∧W env Q ∧ ∀ d v F' H' env',EnvOk K M F' H' env' σ→Same F F'→IsN K (newF M F') d v→Q d env'→R v H'
def liftFN (W:WF):TE:=fun σ H R => ∃ M env F Q,EnvOk K M F H env σ∧W env Q ∧ ∀ a vs ds F' H' env',EnvOk K M F' H' env' σ→Same F F'→H' a=some (.lst vs)→F' a=none→M.B a=none→M.He a=none →
 (∀ i,(gS env' i).mut=true→vS σ i≠some (.ref a))→IssN K (newF M F') ds vs→Q ds env'→R (.ref a) H'
def liftCN (r:DC):List V→Hp→VK→Prop:=fun vs H Q => ∃ F ds q,Same F H∧Iss K F ds vs∧r ds q ∧ ∀ d v F' H',Go F H F' H'→IsN K (newF ⟨H,H,F⟩ F') d v→q d→Q v H'
def NewSp (sp:DC):Sp:=fun vs H Q _=>liftCN K sp vs H Q
structure EndsT (M:Frm) (DD:WEnds) (D:Ends):Prop where
 nx : ∀ env' F' H' σ',EnvOk K M F' H' env' σ'→DD.nx env'→D.nx σ' H'
 rt : ∀ r v env' F' H' σ',EnvOk K M F' H' env' σ'→RetOk K M F' H' r v→DD.rt r env'→D.rt v H'
 bk : ∀ env' F' H' σ',EnvOk K M F' H' env' σ'→DD.bk env'→D.bk σ' H'
 ct : ∀ env' F' H' σ',EnvOk K M F' H' env' σ'→DD.ct env'→D.ct σ' H'
def liftST (W:WS):TS:=fun D σ H => ∃ M env F DD,EnvOk K M F H env σ∧W DD env∧EndsT K M DD D
end
def VN (X:Cx) (e:Expr) (W:WE):Prop:=PE X e (liftN X.K W)
def VFN (X:Cx) (e:Expr) (W:WF):Prop:=PE X e (liftFN X.K W)
def VST (X:Cx) (st:Stmt) (W:WS):Prop:=PS X st (liftST X.K W)
def VSsT (X:Cx) (st:List Stmt) (W:WS):Prop:=PSs X st (liftST X.K W)
def scalD:PyData→Bool
 | .none=>true
 | .bool _=>true
 | .int _=>true
 | .str _=>true
 | _=>false
theorem scal_n {K:PySem.W.Frag}{F F':Hp}{d:PyData}{v:V} (h:scalD d=true) (i:Is K F d v):IsN K F' d v:=by
 cases d with
 | none=>unfold Is at i;unfold IsN;exact i
 | bool b=>unfold Is at i;unfold IsN;exact i
 | int b=>unfold Is at i;unfold IsN;exact i
 | str b=>unfold Is at i;unfold IsN;exact i
 | _=>cases h
theorem scals_n {K:PySem.W.Frag}{F F':Hp} : ∀ {ds:List PyData}{vs:List V},ds.all scalD=true→Iss K F ds vs→IssN K F' ds vs
 | [],_,_,i=>by rw [i.nil_inv];exact issN_nil
 | d::l,_,h,i=>by
  obtain ⟨x,r,rfl,p,q⟩:=i.cons_inv
  rw [List.all_cons,Bool.and_eq_true] at h
  exact issN_cons (scal_n h.1 p) (scals_n h.2 q)
theorem EnvOk.newUp {K:PySem.W.Frag}{M:Frm}{F H F':Hp}{env:Sto}{σ:St} (I:EnvOk K M F H env σ):Same (newF ⟨H,H,F⟩ F') (newF M F'):=fun b o e=>by
 obtain ⟨z1,_,z3⟩:=newF_inv e
 exact .of (newF_at (I.he z1) (same_none I.bh z1) z3)
section
variable {X:Cx}{a b e:Expr}{W:WE}{Wf:WF}{pos p:Pos}
def wTupS (W:WE):WE:=fun env Q=>W env fun d e=>match d with | .list l=>l.all scalD=true∧Q (.tuple l) e|_=>False
theorem vn_tupS (hm:X.mg "tuple" = none) (ha:VE X a W) (hg:Gl X "tuple":=by rfl) (hs:starEach [a] X.env=(false,eval a X.env)::starEach [] X.env:=by rfl) (hpl:(backTo pos (starEach [] X.env)).any (·.1)=false:=by rfl) :
 VN X (.Call (.Name "tuple" p) [a] [] pos) (wTupS W) :=
 (pe_callTy call_tuple_of hg hm boot_tuple (pa_cons (te:=liftE X.K W) ha pa_nil hs) (by decide) (by decide) hs hpl).imp fun σ H R xx125=>by
  obtain ⟨M,env,F,Q,I,h,k⟩:=xx125
  refine ⟨M,env,F,_,I,h,fun d v F1 H1 e1 I1 s1 i1 h1=>?_⟩
  cases d with
  | list l =>
   obtain ⟨a,xs,rfl,hs,hr⟩:=i1.lst_inv
   refine ⟨a,xs,rfl,.inl ⟨I1.fh.seq hs,fun p hp=>?_⟩⟩
   have g:=Go.put (o:=HO.tup xs) I1.fh hp
   refine k _ _ _ _ e1 (I1.go g) (s1.trans g.f) ?_ h1.2
   unfold IsN
   exact ⟨p,xs,rfl,newF_at (I1.he hp) (same_none I1.bh hp) upd_same,scals_n h1.1 hr⟩
  | _=>exact False.elim h1
theorem vn_fn {x:Str}{es:List Expr}{Wr:WF}{k:Nat}{ps:List Str}{sp:DC} (O:OkC X x k ps (NewSp X.K sp)) (hr:Room k X.A) (ha:VA X (e::es) Wr) (hg:Gl X x:=by rfl) (hdb:(x==("__debug__" : Str))=false:=by decide)
 (he:starEach (e::es) X.env=(false,eval e X.env)::starEach es X.env:=by rfl) (hpl:(backTo pos (starEach es X.env)).any (·.1)=false:=by rfl):VN X (.Call (.Name x p) (e::es) [] pos) (wCall sp Wr) :=
 (pe_fn (t:=liftA X.K Wr) O hr ha hg hdb he hpl).imp fun σ H R xx126=>by
  obtain ⟨M,env,F,Q,I,h,k⟩:=xx126
  have e:tCall (NewSp X.K sp) [] E0 (liftA X.K Wr) σ H R=liftA X.K Wr σ H fun vs H1=>liftCN X.K sp vs H1 R:=by unfold tCall NewSp;simp only [List.append_nil]
  rw [e]
  exact ⟨M,env,F,_,I,h,fun ds vs F1 H1 e1 I1 s1 i1 h1=>⟨F1,ds,_,I1.fh,i1,h1,fun d v F2 H2 g i2 q=>k d v F2 H2 e1 (I1.go g) (s1.trans g.f) (i2.mono I1.newUp) q⟩⟩
theorem vn_e (h:VN X e W):VE X e W:=PE.imp (t:=liftN X.K W) h fun σ H R xx127=>by
 obtain ⟨M,env,F,Q,I,h,k⟩:=xx127
 exact ⟨M,env,F,_,I,h,fun d v F1 H1 e1 I1 s1 i1 h1=>k d v F1 H1 e1 I1 s1 (i1.is newF_le) h1⟩
def wRetW (W:WE):WS:=fun D env=>W env fun d e=>D.rt (.new d) e
theorem vs_retW (he:VN X e W):VS X (.Return (some e) pos) (wRetW W):=(ps_ret (te:=liftN X.K W) he).imp fun D σ H xx128=>by
 obtain ⟨M,env,F,DD,I,h,k⟩:=xx128
 exact ⟨M,env,F,_,I,h,fun d v F1 H1 e1 I1 s1 i1 h1=>k.rt (.new d) v e1 F1 H1 σ I1 s1 i1 h1⟩
end
section
variable {P:Program}{w:World}{K:PySem.W.Frag}{mg:Str→Option Value}{base:Heap}
theorem Def.vokN {x:Str}{st:Stmt}{N ps:List Str}{k:Nat}{sp:DC} (F:Def K mg x st ps) (S:FnScope N ps (defScope st)) (len : ∀ ds q,sp ds q→ds.length=ps.length)
 (hbody : ∀ (f:Addr) (cdv:Value) (A:Around) (outer:List Env) (s:Shared) (H:Hp) (E:XK),Room k (A.deeper (envOfC x (defScope st) s.heap.objs.size f cdv)) → ∀ ds q,sp ds q →
 ∃ W,VSs (cxOf CX0 P w K mg base N x (defScope st) f cdv A outer s H E).nox (defBody st) W∧W { nx:=fun _=>False,rt:=fun r _ => ∃ d,r = .new d∧q d } (startE N ds)):Ok P w K mg base x (k+1) ps (NewSp K sp) :=
  F.ok S (fun vs H Q E xx130=>by obtain ⟨F,ds,q,_,i,h,_⟩:=xx130;rw [i.len];exact len ds q h) fun f cdv A outer s H vs Q E hr xx129=>by
   obtain ⟨F,ds,q,sm,i,h,kk⟩:=xx129
   obtain ⟨W,hW,hq⟩:=hbody f cdv A outer s H E hr ds q h
   refine ⟨_,hW,⟨H,H,F⟩,startE N ds,F,_,env_start sm i,hq,⟨fun e1 F1 H1 σ1 I1 s1 q1=>q1.elim,fun r v e1 F1 H1 σ1 I1 s1 r1 q1=>?_,fun _ _ _ _ _ _ h=>h.elim,fun _ _ _ _ _ _ h=>h.elim⟩⟩
   obtain ⟨d,rfl,q1⟩:=q1
   exact kk d v F1 H1 I1.goOf r1 q1
end
section
variable {X:Cx}{c e:Expr}{Tc:WT}{W:WE}{Wt Wu:WS}{st:Stmt}{sts rest:List Stmt}{pos pos':Pos}
mutual
def immD:PyData→Bool
 | .list _=>false
 | .tuple l=>immAll l
 | .dict _=>false
 | _=>true
def immAll:List PyData→Bool
 | []=>true
 | d::l=>immD d&&immAll l
end
mutual
theorem Is.imm {K:PySem.W.Frag}{F F':Hp} (s : ∀ b o,F b=some o→(∀ xs,o ≠ .lst xs)→F' b=some o) : ∀ {d:PyData}{v:V},immD d=true→Is K F d v→Is K F' d v
 | .none,_,_,h=>by unfold Is at h ⊢;exact h
 | .bool _,_,_,h=>by unfold Is at h ⊢;exact h
 | .int _,_,_,h=>by unfold Is at h ⊢;exact h
 | .str _,_,_,h=>by unfold Is at h ⊢;exact h
 | .list l,_,m,h=>by unfold immD at m;cases m
 | .dict l,_,m,h=>by unfold immD at m;cases m
 | .tuple l,_,m,h=>by
  unfold immD at m
  unfold Is at h ⊢
  obtain ⟨a,xs,e,q,r⟩:=h
  refine ⟨a,xs,e,?_,Iss.imm s m r⟩
  rcases q with (q|⟨o,q⟩)|q
  ·exact .inl (.inl (s _ _ q (fun _ z=>nomatch z)))
  ·exact .inl (.inr ⟨o,s _ _ q (fun _ z=>nomatch z)⟩)
  ·exact .inr q
theorem Iss.imm {K:PySem.W.Frag}{F F':Hp} (s : ∀ b o,F b=some o→(∀ xs,o ≠ .lst xs)→F' b=some o) : ∀ {l:List PyData}{xs:List V},immAll l=true→Iss K F l xs→Iss K F' l xs
 | [],_,_,h=>by unfold Iss at h ⊢;exact h
 | d::l,_,m,h=>by
  unfold immAll at m
  rw [Bool.and_eq_true] at m
  unfold Iss at h ⊢
  obtain ⟨x,r,e,p,q⟩:=h
  exact ⟨x,r,e,Is.imm s m.1 p,Iss.imm s m.2 q⟩
end
end
section
variable {X:Cx}
def dInI:D2:=fun x y q => ∃ (i:Int) (ns:List Int),x = .int i∧seqD y=some (ns.map .int)∧q (.bool (ns.any (· == i)))
theorem inV_ints (i:Int) : ∀ ns:List Int,inV (.int i) (ns.map V.int)=ns.any (· == i)
 | []=>rfl
 | n::ns=>by
  have:=inV_ints i ns
  unfold inV at this ⊢
  rw [List.map_cons,List.any_cons,List.any_cons,this]
  rfl
theorem flat_ints (ns:List Int):(ns.map V.int).all flatV=true:=by
 rw [List.all_eq_true]
 intro x hx
 obtain ⟨i,_,rfl⟩:=List.mem_map.mp hx
 rfl
theorem in_lift {neg:Bool}{x y:V}{H:Hp}{Q:VK}{F:Hp}{dy:PyData}{i:Int}{ns:List Int} (s:Same F H) (i1:Is X.K F (.int i) x) (i2:Is X.K F dy y) (e:seqD dy=some (ns.map .int)) (q:Q (.bl (if neg then !ns.any (· == i) else ns.any (· == i))) H):rIn X.K neg x y H Q:=by
 rw [i1.int_inv]
 cases dy with
 | list l =>
  cases e
  obtain ⟨a,xs,rfl,hs,hr⟩:=i2.lst_inv
  rw [hr.ints_inv] at hs
  exact ⟨a,_,rfl,.inl (s.seq hs),rfl,flat_ints ns,by rw [inV_ints];exact q⟩
 | tuple l =>
  cases e
  obtain ⟨a,xs,rfl,hs,hr⟩:=i2.tup_inv
  rw [hr.ints_inv] at hs
  exact ⟨a,_,rfl,.inr (same_seqT s hs),rfl,flat_ints ns,by rw [inV_ints];exact q⟩
 | _=>cases e
theorem o_inI:OpV X (compareOp .In) dInI:=OpR.imp op_in_seq fun x y H Q xx131=>by
 obtain ⟨F,dx,dy,q,s,i1,i2,⟨i,ns,e1,e2,hq⟩,k⟩:=xx131
 subst e1
 exact in_lift s i1 i2 e2 (k _ _ F H (.refl s) (is_bl _) hq)
end
end L2
namespace L2
open PySem PySem.Spec PyProof.Rows
section
variable {X:Cx}{elt target iter:Expr}{scope:Scope}{pos:Pos}{caps own:List Str}{ix:List Nat}{wi:TI}{g:TG}{te:TE}
theorem ps_comp {i:Nat}{y:Str}{py spos:Pos} (hN:X.N.Nodup) (hiy:X.N[i]?=some y) (hy:X.env.scope.names.lookup y=some .local) (hsw:swapsWith (.ListComp elt [⟨target,iter,[],0⟩] scope pos) (some (.Name y py)) spos.line X.env=pure true) (hc:X.calm=true) (S:CompScope X.env scope caps) (hi:PI X target iter wi)
 (hg : ∀ pins s3 H ex,PG (blk X pins scope (caps++own) s3 H ex) target g)
 (he : ∀ pins s3 H ex,PE (blk X pins scope (caps++own) s3 H ex) elt te)
 (hix:caps.length=ix.length:=by rfl) (hcapB:(caps.zip ix).all (fun p=>X.N[p.2]?==some p.1)=true:=by rfl)
  (hs : ∀ x,foldedSetIterable iter X.env x=pure x:=by intro _;rfl):PS X (.Assign [.Name y py] (.ListComp elt [⟨target,iter,[],0⟩] scope pos) spos) (tAsg (tComp ix own.length wi g te) (gName i)):=by
  intro pins s σ H D I h
  rw [exec_Assign_Name_used _ _ _ _ hsw]
  refine wpAny_bind (wpAny_standAt (wpAny_bind ?_))
  show wpAny _ _ (do let _ ← comprehension (.ListComp elt [⟨target,iter,[],0⟩] scope pos) scope X.env _ (newList []) false (eval iter X.env) (some (assign (.Name y py) X.env))) _ _ s
  refine wpAny_bind (thn (comp_core0 (use:=some (assign (.Name y py) X.env)) (Q0:=fun _ s'=>SP X pins D .next s') hc S hi hg he hix hcapB hs I h fun D' C s6 H6 m6 ns6 IX c1 c2 c3 c4 c5 c6 q=>?_) (fun _ s' hq=>wpAny_pure (wpAny_pure hq)))
  obtain ⟨oC,esC,epC,hoC,hdC,rC⟩:=id ns6
  have IX':Inv X (pins++[(C,oC)]) σ H6 s6:=IX.pins_of fun p hp=>by
   rcases List.mem_append.mp hp with z|z
   ·exact IX.pin p (List.mem_append_right _ z)
   ·rw [List.mem_singleton.mp z]
    exact ⟨hoC,c1,c2,c3,fun v q=>by rw [hdC] at q;cases q⟩
  show wpAny _ _ (assign (.Name y py) X.env (.ref D')) _ _ _
  refine wpAny_assign_Name (store_ok IX' hN hiy (Or.inl hy) (v :=.ref D') rfl (fun s7 I7=>?_) (.inr hy))
  have gC:s7.heap.get? C=some oC:=(I7.pin (C,oC) (List.mem_append_right _ (List.mem_append_right _ (List.mem_singleton.mpr rfl)))).1
  refine ⟨m6,⟨oC,esC,epC,gC,hdC,rC⟩,fun h' sb=>?_⟩
  exact ⟨_,_,I7.unpinned.turned (t':=s7.toks) (it:=C) (fun b o hb q=>sb.extBut b o hb q) c1 c2 c4 c5 c6,q⟩
end
section
variable {K:PySem.W.Frag}{ix:List Nat}{n:Nat}{Wi:WF}{G:WG}{We:WE}{σ:St}{H:Hp}{R:VK}
end
section
variable {X:Cx}{elt target iter:Expr}{scope:Scope}{pos py spos:Pos}{caps own:List Str}{ix:List Nat}{Wi:WF}{G:WG}{We:WE}{i:Nat}{y:Str}
theorem vs_setC (hN:X.N.Nodup) (hc:X.calm=true) (S:CompScope X.env scope caps) (hi:VI X target iter Wi) (hg : ∀ pins s3 H ex,VG (blk X pins scope (caps++own) s3 H ex) target G) (he : ∀ pins s3 H ex,VE (blk X pins scope (caps++own) s3 H ex) elt We)
 (hiy:X.N[i]?=some y:=by rfl) (hy:X.env.scope.names.lookup y=some .local:=by rfl) (hsw:swapsWith (.ListComp elt [⟨target,iter,[],0⟩] scope pos) (some (.Name y py)) spos.line X.env=pure true:=by rfl)
  (hix:caps.length=ix.length:=by rfl) (hcapB:(caps.zip ix).all (fun p=>X.N[p.2]?==some p.1)=true:=by rfl) (hs : ∀ x,foldedSetIterable iter X.env x=pure x:=by intro _;rfl) :
  VS X (.Assign [.Name y py] (.ListComp elt [⟨target,iter,[],0⟩] scope pos) spos) (wSet i (wL (wComp ix own.length Wi G We))) :=
  (ps_comp (wi:=liftI X.K Wi) (g:=liftG X.K G) (te:=liftE X.K We) hN hiy hy hsw hc S hi hg he hix hcapB hs).imp fun D σ H ⟨M,env,F,DD,I,h,k⟩=>comp_lift ⟨M,env,F,_,I,h,fun a vs ds F1 H1 e1 I1 s1 h1 h2 h3 h4 h5 h6 h7=>by
   obtain ⟨J,s⟩:=I1.frz h1 h2 h4 h5
   exact k.nx _ _ H1 _ (J.setv (is_lst (SqL.of upd_same) (h6.mono s))) (s1.trans s) h7⟩
theorem vs_setCO (hN:X.N.Nodup) (hc:X.calm=true) (S:CompScope X.env scope caps) (hi:VI X target iter Wi) (hg : ∀ pins s3 H ex,VG (blk X pins scope (caps++own) s3 H ex) target G) (he : ∀ pins s3 H ex,VE (blk X pins scope (caps++own) s3 H ex) elt We)
 (hiy:X.N[i]?=some y:=by rfl) (hy:X.env.scope.names.lookup y=some .local:=by rfl) (hsw:swapsWith (.ListComp elt [⟨target,iter,[],0⟩] scope pos) (some (.Name y py)) spos.line X.env=pure true:=by rfl)
  (hix:caps.length=ix.length:=by rfl) (hcapB:(caps.zip ix).all (fun p=>X.N[p.2]?==some p.1)=true:=by rfl) (hs : ∀ x,foldedSetIterable iter X.env x=pure x:=by intro _;rfl) :
  VS X (.Assign [.Name y py] (.ListComp elt [⟨target,iter,[],0⟩] scope pos) spos) (wSetO i (wComp ix own.length Wi G We)) :=
  (ps_comp (wi:=liftI X.K Wi) (g:=liftG X.K G) (te:=liftE X.K We) hN hiy hy hsw hc S hi hg he hix hcapB hs).imp fun D σ H ⟨M,env,F,DD,I,h,k⟩=>comp_lift ⟨M,env,F,_,I,h,fun a vs ds F1 H1 e1 I1 s1 h1 h2 h3 h4 h5 h6 h7 =>
   k.nx _ F1 H1 _ (I1.seto h1 h2 h3 h4 h5 h6) s1 h7⟩
end
end L2
namespace L2
open PySem PySem.Spec PyProof.Rows
section
variable {X:Cx}{tg:Expr}
end
def offA (H:Hp) (a:Addr):Hp:=fun b=>if b=a then none else H b
structure GoP (a:Addr) (F H F' H':Hp):Prop where
 f:Same F F'
 h:Same (offA H a) H'
 fh:Same F' H'
 new : ∀ b o,F' b=some o→F b=some o∨H b=none
 fa:F' a=none
theorem EnvOk.goP {K:PySem.W.Frag}{M:Frm}{F H F' H':Hp}{env:Sto}{σ:St}{i:Nat}{a:Addr}{ps ps':List V}{ds':List PyData} (I:EnvOk K M F H env σ) (m:(gS env i).mut=true) (ea:vS σ i=some (.ref a)) (ha:H a=some (.lst ps))
 (g:GoP a F H F' H') (h':H' a=some (.lst ps')) (hi:Iss K F' ds' ps'):EnvOk K M F' H' (env.set i ((gS env i).upd ds')) σ:=by
  have g1:Go F H F' (upd H' a (.lst ps)):=by
   refine ⟨g.f,fun b o e=>?_,fun b o e=>?_,g.new⟩
   ·by_cases z:b=a
    ·subst z;exact .of (by rw [upd_same,← e,ha])
    ·rw [upd_ne z]
     exact g.h b o (by unfold offA;rw [if_neg z];exact e)
   ·rw [upd_ne (ne_of_none e g.fa)];exact g.fh b o e
  have J:=(I.go g1).chg m ea hi
  have e:upd (upd H' a (.lst ps)) a (.lst ps')=H':=by
   rw [upd_upd]
   funext b
   by_cases z:b=a
   ·subst z;rw [upd_same,h']
   ·rw [upd_ne z]
  rw [e] at J
  exact J
abbrev DP:=List PyData→List PyData→(PyData→List PyData→Prop)→Prop
def liftCP (K:PySem.W.Frag) (r:DP):List V→Hp→VK→Prop:=fun vs H Q => ∃ F a ps rest ds0 ds q,vs = .ref a::rest∧Same F H∧F a=none∧H a=some (.lst ps)∧Iss K F ds0 ps∧Iss K F ds rest∧r ds0 ds q ∧
 ∀ d v F' H' ps' ds',GoP a F H F' H'→H' a=some (.lst ps')→Iss K F' ds' ps'→Is K F' d v→q d ds'→Q v H'
def NSp (K:PySem.W.Frag) (sp:DP):Sp:=fun vs H Q _=>liftCP K sp vs H Q
section
variable {X:Cx}
def wCallP (i:Nat) (r:DP) (Wr:WF):WE:=fun env Q=>(gS env i).mut=true∧Wr env fun ds e=>(gS e i).mut=true∧r (gS e i).cnt ds fun d ds'=>Q d (e.set i ((gS e i).upd ds'))
theorem ve_fnN (i:Nat) {x y:Str}{p py pos:Pos}{es:List Expr}{Wr:WF}{k:Nat}{ps:List Str}{sp:DP} (O:OkC X x k ps (NSp X.K sp)) (hr:Room k X.A) (ha:VA X es Wr)
 (hN:X.N[i]?=some y:=by rfl) (hv:Vis X.env.scope y:=by first|exact Or.inl rfl|exact Or.inr (Or.inl rfl)|exact Or.inr (Or.inr rfl)) (hd:(y==("__debug__" : Str))=false:=by decide) (hcd:(y==("__classdict__" : Str))=false:=by decide)
  (hg:Gl X x:=by rfl) (hdb:(x==("__debug__" : Str))=false:=by decide)
  (he:starEach (.Name y py::es) X.env=(false,eval (.Name y py) X.env)::starEach es X.env:=by rfl) (hpl:(backTo pos (starEach es X.env)).any (·.1)=false:=by rfl):VE X (.Call (.Name x p) (.Name y py::es) [] pos) (wCallP i sp Wr) :=
  (pe_fn O hr (pa_cons (t:=liftA X.K Wr) (pe_var hN hv hd hcd) ha he) hg hdb he hpl).imp fun σ H R xx134=>by
   obtain ⟨M,env,F,Q,I,⟨m,h⟩,k⟩:=xx134
   obtain ⟨a,vs,ea,g1,g2,g3,g4⟩:=(I.slot i).addr m
   have e:tCall (NSp X.K sp) [] E0 (tCons (tVar i) (liftA X.K Wr)) σ H R=tCons (tVar i) (liftA X.K Wr) σ H fun vs H1=>liftCP X.K sp vs H1 R:=by unfold tCall NSp;simp only [List.append_nil]
   rw [e]
   refine ⟨_,vS_some ea,M,env,F,_,I,h,fun ds us F1 H1 e1 I1 s1 i1 h1=>?_⟩
   obtain ⟨m1,h1⟩:=h1
   obtain ⟨a',vs1,ea',f1,f2,f3,f4⟩:=(I1.slot i).addr m1
   rw [ea] at ea';injection ea' with ea';injection ea' with ea';subst ea'
   exact ⟨F1,a,vs1,us,_,ds,_,rfl,I1.fh,f2,f1,f4,i1,h1,fun d v F2 H2 ps2 ds2 g e2 i2 j2 q=>k d v F2 H2 _ (I1.goP m1 ea f1 g e2 i2) (s1.trans g.f) j2 q⟩
end
theorem env_startP {K:PySem.W.Frag}{F H:Hp}{N:List Str}{a:Addr}{ps:List V}{ds0 ds:List PyData}{vs:List V} (s:Same F H) (fa:F a=none) (ha:H a=some (.lst ps)) (i0:Iss K F ds0 ps) (i:Iss K F ds vs) :
 EnvOk K ⟨offA H a,H,F⟩ F H (.pen ds0::startE N.tail ds) (start N (.ref a::vs))↔(startE N.tail ds).length+1=(start N (.ref a::vs)).length:=by
  constructor
  ·intro I;exact I.len
  intro hl
  refine ⟨by simpa using hl,fun j=>?_,fun i j b hij h1 h2=>?_,.refl _,s,s,fun b o e=>?_,fun b o e => .inl e,fun b o e=>⟨o,e⟩⟩
  ·cases j with
   | zero =>
    exact ⟨a,ps,vS_start (N:=N) (vs :=.ref a::vs) (j:=0) rfl,ha,fa,by show offA H a a=none;unfold offA;rw [if_pos rfl],⟨_,ha⟩,i0⟩
   | succ j =>
    show SlotOk K _ F H (gS (startE N.tail ds) j) _
    unfold startE
    rw [gS_val]
    cases h:ds[j]? with
    | none=>rw [gS_rep];trivial
    | some d =>
     obtain ⟨x,e1,e2⟩:=i.get h
     exact ⟨x,vS_start (N:=N) (vs :=.ref a::vs) (j:=j+1) (by simpa using e1),e2⟩
  ·have no : ∀ k,(gS (startE N.tail ds) k).mut=false:=fun k=>by
    unfold startE
    rw [gS_val]
    cases h:ds[k]? with
    | none=>rw [gS_rep];rfl
    | some d=>rfl
   cases i with
   | zero=>cases j with
    | zero=>exact absurd rfl hij
    | succ j=>have h2':(gS (startE N.tail ds) j).mut=true:=h2
              rw [no] at h2';cases h2'
   | succ i=>have h1':(gS (startE N.tail ds) i).mut=true:=h1
             rw [no] at h1';cases h1'
  ·have e:offA H a b=some o:=e
   unfold offA at e
   split at e
   ·cases e
   ·exact .of e
section
variable {P:Program}{w:World}{K:PySem.W.Frag}{mg:Str→Option Value}{base:Heap}
theorem Def.vokP {x:Str}{st:Stmt}{N ps:List Str}{k:Nat}{sp:DP} (F:Def K mg x st ps) (S:FnScope N ps (defScope st)) (len : ∀ ds0 ds q,sp ds0 ds q→ds.length+1=ps.length) (hNp:ps.length≤N.length)
 (hbody : ∀ (f:Addr) (cdv:Value) (A:Around) (outer:List Env) (s:Shared) (H:Hp) (E:XK),Room k (A.deeper (envOfC x (defScope st) s.heap.objs.size f cdv)) → ∀ ds0 ds q,sp ds0 ds q →
 ∃ W,VSs (cxOf CX0 P w K mg base N x (defScope st) f cdv A outer s H E).nox (defBody st) W ∧
 W { nx:=fun e => ∃ ds',gS e 0 = .pen ds'∧q .none ds',rt:=fun r e => ∃ d ds',r = .val d∧gS e 0 = .pen ds'∧q d ds' } (.pen ds0::startE N.tail ds)):Ok P w K mg base x (k+1) ps (NSp K sp) :=
  F.ok S (fun vs H Q E xx136=>by obtain ⟨F,a,ps',rest,ds0,ds,q,e,_,_,_,_,i,h,_⟩:=xx136;rw [e,List.length_cons,i.len];exact len ds0 ds q h) fun f cdv A outer s H vs Q E hr xx135=>by
   obtain ⟨F,a,ps',rest,ds0,ds,q,e,sm,fa,ha,i0,i,h,kk⟩:=xx135
   subst e
   obtain ⟨W,hW,hq⟩:=hbody f cdv A outer s H E hr ds0 ds q h
   have hl:=len ds0 ds q h
   have hlen:(startE N.tail ds).length+1=(start N (.ref a::rest)).length:=by
    simp only [startE,start,List.length_append,List.length_map,List.length_replicate,List.length_tail,List.length_cons,i.len]
    omega
   have same : ∀ {e1:Sto}{F1 H1:Hp}{σ1:St}{ds':List PyData},EnvOk K ⟨offA H a,H,F⟩ F1 H1 e1 σ1→gS e1 0 = .pen ds'→GoP a F H F1 H1 ∧ ∃ ps2,H1 a=some (.lst ps2)∧Iss K F1 ds' ps2:=fun {e1 F1 H1 σ1 ds'} I1 e0=>by
    have T:=I1.slot 0
    rw [e0] at T
    obtain ⟨b,vs2,eb,h1,h2,h3,⟨o,h4⟩,h5⟩:=T
    have hb:b=a:=by
     rcases Nat.decEq b a with z|z
     ·have h3':offA H a b=none:=h3
      unfold offA at h3'
      rw [if_neg z] at h3'
      have h4':H b=some o:=h4
      rw [h4'] at h3';cases h3'
     ·exact z
    subst hb
    exact ⟨⟨I1.f0,I1.bh,I1.fh,I1.new,h2⟩,vs2,h1,h5⟩
   refine ⟨_,hW,⟨offA H a,H,F⟩,_,F,_,(env_startP sm fa ha i0 i).mpr hlen,hq,⟨fun e1 F1 H1 σ1 I1 s1 q1=>?_,fun r v e1 F1 H1 σ1 I1 s1 r1 q1=>?_,fun _ _ _ _ _ _ h=>h.elim,fun _ _ _ _ _ _ h=>h.elim⟩⟩
   ·obtain ⟨ds',e0,q1⟩:=q1
    obtain ⟨g,ps2,h1,h5⟩:=same I1 e0
    exact kk _ _ F1 H1 ps2 ds' g h1 h5 is_non q1
   ·obtain ⟨d,ds',rfl,e0,q1⟩:=q1
    obtain ⟨g,ps2,h1,h5⟩:=same I1 e0
    exact kk _ _ F1 H1 ps2 ds' g h1 h5 r1 q1
end
end L2
namespace L2
open PySem PySem.Spec PyProof.Rows
def capP (i0:Nat) (ix:List Nat) (k:Nat) (env:Sto):Sto:=ix.map (fun i=>if i=i0 then .pen (gS env i0).cnt else (gS env i).seen)++List.replicate k .non
def wCompP (i0 j0:Nat) (ix:List Nat) (k:Nat) (Wi:WF) (G:WG) (We:WE):WF:=fun env Q=>Wi env fun ds e0=>ds.length<sizeLine∧(gS e0 i0).mut=true ∧ ∃ P:Nat→List PyData→Sto→Prop,P 0 [] (capP i0 ix k e0) ∧
 (∀ i d ys e,ds[i]?=some d→P i ys e→G d e fun e1=>We e1 fun y e2=>P (i+1) (ys++[y]) e2) ∧ ∀ ys e,P ds.length ys e → ∃ ds',gS e j0 = .pen ds'∧Q ys (e0.set i0 ((gS e0 i0).upd ds'))
theorem EnvOk.capP {K:PySem.W.Frag}{M:Frm}{F H:Hp}{env:Sto}{σ:St}{i0:Nat}{a:Addr} (I:EnvOk K M F H env σ) (m:(gS env i0).mut=true) (ea:vS σ i0=some (.ref a)) (ix:List Nat) (k:Nat) (nd : ∀ j j':Nat,ix[j]?=some i0→ix[j']?=some i0→j=j') :
 EnvOk K ⟨offA H a,H,F⟩ F H (L2.capP i0 ix k env) (capS ix k σ) where
  len:=by simp [L2.capP,capS]
  slot:=fun j=>by
   unfold L2.capP
   rw [gS_map]
   cases h:ix[j]? with
   | none=>rw [gS_rep];trivial
   | some i =>
    show SlotOk K _ F H (if i=i0 then .pen (gS env i0).cnt else (gS env i).seen) _
    rw [vS_cap ix k σ j i h]
    by_cases z:i=i0
    ·subst z
     rw [if_pos rfl]
     obtain ⟨a',vs,e,h1,h2,h3,h5⟩:=(I.slot i).addr m
     rw [ea] at e;injection e with e;injection e with e;subst e
     exact ⟨a,vs,ea,h1,h2,by show offA H a a=none;unfold offA;rw [if_pos rfl],⟨_,h1⟩,h5⟩
    ·rw [if_neg z]
     have S:=I.slot i
     cases q:gS env i with
     | val d=>rw [q] at S;exact S
     | non=>trivial
     | own ds=>trivial
     | pen ds=>trivial
     | new d=>rw [q] at S;obtain ⟨v,e,j⟩:=S;exact ⟨v,e,j.is newF_le⟩
     | exc C=>trivial
     | «at» v=>trivial
     | obj a0 C nm fs=>trivial
  dis:=fun i j b hij h1 h2=>by
   have key : ∀ n,(gS (L2.capP i0 ix k env) n).mut=true→ix[n]?=some i0:=fun n hn=>by
    unfold L2.capP at hn
    rw [gS_map] at hn
    cases h:ix[n]? with
    | none=>rw [h,gS_rep] at hn;cases hn
    | some c =>
     rw [h] at hn
     replace hn:(if c=i0 then Sl.pen (gS env i0).cnt else (gS env c).seen).mut=true:=hn
     by_cases z:c=i0
     ·rw [z]
     ·rw [if_neg z] at hn
      cases q:gS env c <;> rw [q] at hn <;> cases hn
   exact absurd (nd i j (key i h1) (key j h2)) hij
  f0 :=.refl _
  fe:=I.fh
  fh:=I.fh
  bh:=fun b o e=>by
   have e:offA H a b=some o:=e
   unfold offA at e
   split at e
   ·cases e
   ·exact .of e
  new:=fun b o e => .inl e
  dom:=fun b o e=>⟨o,e⟩
theorem EnvOk.penGo {K:PySem.W.Frag}{F H F1 H1:Hp}{a:Addr}{e1:Sto}{σ1:St}{j:Nat}{ds':List PyData} (I1:EnvOk K ⟨offA H a,H,F⟩ F1 H1 e1 σ1) (e0:gS e1 j = .pen ds'):GoP a F H F1 H1 ∧ ∃ ps2,H1 a=some (.lst ps2)∧Iss K F1 ds' ps2:=by
 have T:=I1.slot j
 rw [e0] at T
 obtain ⟨b,vs2,eb,h1,h2,h3,⟨o,h4⟩,h5⟩:=T
 have hb:b=a:=by
  rcases Nat.decEq b a with z|z
  ·have h3':offA H a b=none:=h3
   unfold offA at h3'
   rw [if_neg z] at h3'
   have h4':H b=some o:=h4
   rw [h4'] at h3';cases h3'
  ·exact z
 subst hb
 exact ⟨⟨I1.f0,I1.bh,I1.fh,I1.new,h2⟩,vs2,h1,h5⟩
theorem compP_lift {K:PySem.W.Frag}{ix:List Nat}{n i0 j0:Nat}{Wi:WF}{G:WG}{We:WE}{σ:St}{H:Hp}{R:VK} (nd : ∀ j j':Nat,ix[j]?=some i0→ix[j']?=some i0→j=j') (h:liftF K (wCompP i0 j0 ix n Wi G We) σ H R):tComp ix n (liftI K Wi) (liftG K G) (liftE K We) σ H R:=by
 obtain ⟨M,env,F,Q,I,h,k⟩:=h
 refine ⟨M,env,F,_,I,h,fun ds J F1 H1 e1 I1 s1 jt xx138=>?_⟩
 obtain ⟨hz,hm,P,p0,turn,fin⟩:=xx138
 obtain ⟨a,vs,ea,a1,a2,a3,a4⟩:=(I1.slot i0).addr hm
 refine ⟨fun i m ys σ1 H'=>m=ds.length-i∧i≤ds.length ∧ ∃ e' F' l,EnvOk K ⟨offA H1 a,H1,F1⟩ F' H' e' σ1∧Iss K F' l ys∧ys.length=i∧P i l e',⟨ds.length,by simp,Nat.zero_le _,capP i0 ix n e1,F1,[],I1.capP hm ea ix n nd,iss_nil,rfl,p0⟩,?_⟩
 rintro i m ys σ1 H2 ⟨hm',hi,e2,F2,l,I2,i2,hl,p2⟩
 by_cases he:i=ds.length
 ·subst he
  obtain ⟨ds',e0,q⟩:=fin l e2 p2
  obtain ⟨g,ps2,h1,h5⟩:=I2.penGo e0
  exact .inl ⟨jt.stop H2 (I2.f0.trans I2.fh),by omega,new_lst (I1.goP hm ea a1 g h1 h5) (s1.trans g.f) i2 q k⟩
 ·have hlt:i<ds.length:=by omega
  refine .inr ⟨jt.go i H2 (I2.f0.trans I2.fh) hlt,by omega,fun y σ' H' => ∃ e' F' l',EnvOk K ⟨offA H1 a,H1,F1⟩ F' H' e' σ'∧Iss K F' l' (ys++[y])∧P (i+1) l' e',
   fun y σ' H' xx137=>by obtain ⟨e',F',l',I',i',p'⟩:=xx137;exact ⟨ds.length-(i+1),by omega,rfl,hlt,e',F',l',I',i',by simp [hl],p'⟩,fun x H3 hy=>?_⟩
  obtain ⟨d,F3,hd,g,j⟩:=jt.yld i H2 x H3 F2 I2.f0 I2.fh hlt hy
  refine ⟨_,e2,F3,d,_,I2.go g,j,turn i d l e2 hd p2,fun F4 H4 e4 σ4 I4 s4 h4=>⟨_,e4,F4,_,I4,h4,fun d5 v5 F5 H5 e5 I5 s5 i5 h5=>?_⟩⟩
  exact ⟨e5,F5,l++[d5],I5,iss_append ((i2.mono (g.f.trans s4)).mono s5) (iss_cons i5 iss_nil),h5⟩
section
variable {X:Cx}{elt target iter:Expr}{scope:Scope}{pos py spos:Pos}{caps own:List Str}{ix:List Nat}{Wi:WF}{G:WG}{We:WE}{i i0 j0:Nat}{y:Str}
theorem vf_compP (hc:X.calm=true) (S:CompScope X.env scope caps) (hi:VI X target iter Wi) (hg : ∀ pins s3 H ex,VG (blk X pins scope (caps++own) s3 H ex) target G) (he : ∀ pins s3 H ex,VE (blk X pins scope (caps++own) s3 H ex) elt We)
 (nd : ∀ j j':Nat,ix[j]?=some i0→ix[j']?=some i0→j=j')
 (hix:caps.length=ix.length:=by rfl) (hcapB:(caps.zip ix).all (fun p=>X.N[p.2]?==some p.1)=true:=by rfl) (hs : ∀ x,foldedSetIterable iter X.env x=pure x:=by intro _;rfl):VF X (.ListComp elt [⟨target,iter,[],0⟩] scope pos) (wCompP i0 j0 ix own.length Wi G We) :=
  (pe_comp (wi:=liftI X.K Wi) (g:=liftG X.K G) (te:=liftE X.K We) hc S hi hg he hix hcapB hs).imp fun σ H R h=>compP_lift nd h
theorem vs_setCP (hN:X.N.Nodup) (hc:X.calm=true) (S:CompScope X.env scope caps) (hi:VI X target iter Wi) (hg : ∀ pins s3 H ex,VG (blk X pins scope (caps++own) s3 H ex) target G) (he : ∀ pins s3 H ex,VE (blk X pins scope (caps++own) s3 H ex) elt We)
 (nd : ∀ j j':Nat,ix[j]?=some i0→ix[j']?=some i0→j=j')
 (hiy:X.N[i]?=some y:=by rfl) (hy:X.env.scope.names.lookup y=some .local:=by rfl) (hsw:swapsWith (.ListComp elt [⟨target,iter,[],0⟩] scope pos) (some (.Name y py)) spos.line X.env=pure true:=by rfl)
  (hix:caps.length=ix.length:=by rfl) (hcapB:(caps.zip ix).all (fun p=>X.N[p.2]?==some p.1)=true:=by rfl) (hs : ∀ x,foldedSetIterable iter X.env x=pure x:=by intro _;rfl) :
  VS X (.Assign [.Name y py] (.ListComp elt [⟨target,iter,[],0⟩] scope pos) spos) (wSet i (wL (wCompP i0 j0 ix own.length Wi G We))) :=
  (ps_comp (wi:=liftI X.K Wi) (g:=liftG X.K G) (te:=liftE X.K We) hN hiy hy hsw hc S hi hg he hix hcapB hs).imp fun D σ H ⟨M,env,F,DD,I,h,k⟩=>compP_lift nd ⟨M,env,F,_,I,h,fun a vs ds F1 H1 e1 I1 s1 h1 h2 h3 h4 h5 h6 h7=>by
   obtain ⟨J,s⟩:=I1.frz h1 h2 h4 h5
   exact k.nx _ _ H1 _ (J.setv (is_lst (SqL.of upd_same) (h6.mono s))) (s1.trans s) h7⟩
end
theorem pen_once {ix:List Nat}{i0:Nat} (h:(List.range ix.length).all (fun j=>(List.range ix.length).all fun j' => !(ix[j]?==some i0&&ix[j']?==some i0)||j==j')=true) : ∀ j j':Nat,ix[j]?=some i0→ix[j']?=some i0→j=j':=fun j j' h1 h2=>by
 have a:=(List.getElem?_eq_some_iff.mp h1).1
 have b:=(List.getElem?_eq_some_iff.mp h2).1
 have q:=List.all_eq_true.mp (List.all_eq_true.mp h j (List.mem_range.mpr a)) j' (List.mem_range.mpr b)
 simpa [h1,h2] using q
end L2
namespace L2
open PySem PySem.Spec PyProof.Rows
section
variable {X:Cx}{pins:List (Addr×Obj)}{σ:St}{H:Hp}{s:Shared}
end
section
variable {P:Program}{w:World}{K:PySem.W.Frag}{mg:Str→Option Value}{base:Heap}{N:List Str}{qual:Str}{scope:Scope}{f:Addr}{cd:Value}{A:Around}{outer:List Env}{s:Shared}{H:Hp}{E:XK}
end
end L2
namespace L2
open PySem PySem.Spec PyProof.Rows
section
variable {X:Cx}{x:Str}{C:Addr}{E:XK}{e:Expr}{es:List Expr}{t:TA}{np cpos pos:Pos}
end
end L2
namespace L2
open PySem PySem.Spec PyProof.Rows
section
variable {M:Model}{A:Around}{E:Value→Shared→Prop}{C N C' N':Addr}{nm nm' q q':Str}{bs bm bs' bm':List Value}
end
section
variable {X:Cx}{pins:List (Addr×Obj)}{σ:St}{H1 H2:Hp}{s1 s':Shared}{B h5:Heap}
end
section
variable {X:Cx}{pins:List (Addr×Obj)}{σ:St}{H:Hp}{s:Shared}
end
end L2
namespace L2
open PySem PySem.Spec PyProof.Rows
section
variable {X:Cx}{pins pins0:List (Addr×Obj)}{σ:St}{H:Hp}{s:Shared}
end
section
variable {X:Cx}{body suite:List Stmt}{b₀:Stmt}{x n:Str}{np hpos pos:Pos}{C':Addr}{i:Nat}{tb:(St→XK)→TS}{ts:TS}
end
end L2
namespace L2
open PySem PySem.Spec PyProof.Rows
section
variable {K:PySem.W.Frag}{M:Frm}{F H:Hp}{env:Sto}{σ:St}
end
abbrev WX:=Addr→Sto→Prop
def ExOk (K:PySem.W.Frag) (M:Frm) (F:Hp) (Wx:WX) (Ex:St→XK):Prop := ∀ C env' F' H' σ',EnvOk K M F' H' env' σ'→Same F F'→Wx C env'→Ex σ' (.ref C) none H'
def liftEX (K:PySem.W.Frag) (Ex:St→XK) (W:WX→WE):TE:=fun σ H R => ∃ M env F Wx Q,EnvOk K M F H env σ∧W Wx env Q∧ExOk K M F Wx Ex ∧ ∀ d v F' H' env',EnvOk K M F' H' env' σ→Same F F'→Is K F' d v→Q d env'→R v H'
def liftSX (K:PySem.W.Frag) (Ex:St→XK) (W:WX→WS):TS:=fun D σ H => ∃ M env F Wx DD,EnvOk K M F H env σ∧W Wx DD env∧ExOk K M F Wx Ex∧EndsOk K M F DD D
def VEX (X:Cx) (Ex:St→XK) (e:Expr) (W:WX→WE):Prop:=PE X e (liftEX X.K Ex W)
def VSX (X:Cx) (Ex:St→XK) (st:Stmt) (W:WX→WS):Prop:=PS X st (liftSX X.K Ex W)
def VSsX (X:Cx) (Ex:St→XK) (st:List Stmt) (W:WX→WS):Prop:=PSs X st (liftSX X.K Ex W)
abbrev DE:=List PyData→(PyData→Prop)→(Addr→Prop)→Prop
section
variable {X:Cx}{Ex:St→XK}{x:Str}{k:Nat}{ps:List Str}{sp:DE}{e c:Expr}{es:List Expr}{p pos:Pos}{Wr:WF}{st:Stmt}{rest A B:List Stmt}{Tc:WT}{W:WX→WE}{Wt Wu:WX→WS}{W0:WS}
end
end L2
namespace L2
open PySem PySem.Spec PyProof.Rows
section
variable {X:Cx}{Ex:St→XK}{E:XK}{x y n:Str}{k i j:Nat}{ps:List Str}{sp:DE}{e:Expr}{es:List Expr}{p np cpos hpos pos pos':Pos}{Wr:WF}{st b₀:Stmt}{body suite:List Stmt}{C C':Addr}{Wb:WX→WS}{Ws:WS}
end
section
variable {P:Program}{w:World}{K:PySem.W.Frag}{mg:Str→Option Value}{base:Heap}
end
end L2
namespace L2
open PySem PySem.Spec PyProof.Rows
section
variable {prog:Program}{w:World}{A:Around}{E:Value→Shared→Prop}{h:Heap}{g:Array GenState}{d:Drawn}{t:Nat}{os:OsState}{a:Addr}{o:Obj}{K:PySem.W.Frag}
 {nm q:Str}{C N:Addr}{bs bm:List Value}{hdct:Bool}{sn:List Str}{sub:List Value}{ab:Bool}{col:Option Bool}{dd:Option Addr}{k0 k1 k2 k3 k5:Option Value}{newId:String}
end
end L2
namespace L2
open PySem PySem.Spec PyProof.Rows
section
variable {X:Cx}
section
variable {y:Str}{c:Expr}{cs:List Expr}{v:V}{vs:List V}{u:Value}{us:List Value}{p py pt pos:Pos}{x1:Nat}
end
end
end L2
namespace L2
open PySem PySem.Spec PyProof.Rows
section
variable {prog:Program}{w:World}{A:Around}{E:Value→Shared→Prop}{s:Shared}
def SqIt (b:Bool) (h:Heap) (j l:Addr) (i:Nat):Prop:=match b with
 | true=>h.IsTupleIter j l i
 | false=>h.IsListIter j l i
def SqOf (b:Bool) (h:Heap) (l:Addr) (us:Array Value):Prop:=match b with
 | true=>h.IsTuple l us
 | false=>h.IsList l us
def itTy:Bool→String
 | true => "tuple_iterator"
 | false => "list_iterator"
abbrev itO (b:Bool) (l:Addr):Obj:={ cls :=.type (itTy b),data :=.fields #[.ref l,.int 0 0] }
theorem SqIt.at' {b:Bool}{h h':Heap}{j l:Addr}{i:Nat} (x:SqIt b h j l i) (e : ∀ o,h.get? j=some o→h'.get? j=some o):SqIt b h' j l i:=by
 cases b with
 | true=>exact Heap.IsTupleIter.at x e
 | false=>exact Heap.IsListIter.at x e
theorem SqIt.but {b:Bool}{h h':Heap}{j l c:Addr}{i:Nat} (x:SqIt b h j l i) (e:Heap.SameBut c h h') (n:j≠c):SqIt b h' j l i:=x.at' fun o q=>e.extBut j o n q
theorem SqIt.obj {b:Bool}{h:Heap}{j l:Addr}{i:Nat} (x:SqIt b h j l i) : ∃ o,h.get? j=some o ∧ ∀ v,o.data ≠ .cell v:=by
 cases b with
 | true=>obtain ⟨o,q,_,d⟩:=x;exact ⟨o,q,fun v z=>by rw [d] at z;cases z⟩
 | false=>obtain ⟨o,q,_,d⟩:=x;exact ⟨o,q,fun v z=>by rw [d] at z;cases z⟩
theorem SqOf.at' {b:Bool}{h h':Heap}{l:Addr}{us:Array Value} (x:SqOf b h l us) (e : ∀ o,h.get? l=some o→h'.get? l=some o):SqOf b h' l us:=by
 cases b with
 | true=>obtain ⟨o,q,r⟩:=x;exact ⟨o,e o q,r⟩
 | false=>exact Heap.IsList.at x e
theorem SqOf.but {b:Bool}{h h':Heap}{l c:Addr}{us:Array Value} (x:SqOf b h l us) (e:Heap.SameBut c h h') (n:l≠c):SqOf b h' l us:=x.at' fun o q=>e.extBut l o n q
theorem SqOf.lt {b:Bool}{h:Heap}{l:Addr}{us:Array Value} (x:SqOf b h l us):l<h.objs.size:=by
 cases b with
 | true=>obtain ⟨o,q,_⟩:=x;exact Heap.lt_size q
 | false=>obtain ⟨o,q,_⟩:=x;exact Heap.lt_size q
theorem tnx_item {j t:Addr}{k:Nat}{us:Array Value}{u:Value}{Q:Value→Shared→Prop} (hj:s.heap.IsTupleIter j t k) (ht:s.heap.IsTuple t us) (hu:us[k]?=some u)
 (q : ∀ h',h'.IsTupleIter j t (k+1)→Heap.SameBut j s.heap h'→Q u { s with heap:=h' }):wpAny (model prog w) A (Builtin.SmallTypes.nextOf (.ref j)) Q E s:=by
  obtain ⟨ob,e1,e2,e3⟩:=id hj
  obtain ⟨ot,f1,_,nt,f3⟩:=ht
  unfold Builtin.SmallTypes.nextOf
  refine wpAny_bind (wpAny_callSpecial?_slot (name:=Str.ofString "__next__") hj.typeIs F.slot_tuple_iterator_next (wpAny_call_entry F.slot_tuple_iterator_next hj.typeIs F.entry_tuple_iterator_next ?_ (F.args_tuple_iterator_next_1 _)))
  show wpAny _ _ (field (.ref j) 0 >>= _) _ _ s
  refine wpAny_bind (wpAny_field e1 e3 (x :=.ref t) rfl ?_)
  show wpAny _ _ (if (Value.ref t==Value.none)=true then _ else _) _ _ s
  rw [if_neg (fun z:(Value.ref t==Value.none)=true=>Bool.false_ne_true z)]
  show wpAny _ _ (field (.ref j) 1 >>= _) _ _ s
  refine wpAny_bind (wpAny_field e1 e3 (x :=.int k 0) rfl ?_)
  show wpAny _ _ (seqItems? (.ref t) >>= _) _ _ s
  refine wpAny_bind (wpAny_seqItems f1 f3 ?_)
  simp only [Int.toNat_natCast,hu]
  refine wpAny_bind (wpAny_setField e1 e3 (by simp) (wpAny_pure ⟨u,rfl,wpAny_pure (q _ ?_ (Heap.SameBut.update ..))⟩))
  exact ⟨_,Heap.get?_update_self _ e1 (Obj.isFreed_of_fields (Obj.data_mapFields e3 _)),(Obj.cls_mapFields ..).trans e2,by rw [Obj.data_mapFields e3];simp [rawInt]⟩
theorem tnx_end {j t:Addr}{k:Nat}{us:Array Value}{Q:Value→Shared→Prop} (hh:A.handled=none) (hj:s.heap.IsTupleIter j t k) (ht:s.heap.IsTuple t us) (hu:us[k]?=none)
 (q : ∀ h' e,Heap.ExtBut j s.heap h'→(∃ o,h'.get? e=some o∧o.cls = .type "StopIteration")→E (.ref e) { s with heap:=h' }):wpAny (model prog w) A (Builtin.SmallTypes.nextOf (.ref j)) Q E s:=by
  obtain ⟨ob,e1,e2,e3⟩:=id hj
  obtain ⟨ot,f1,_,nt,f3⟩:=ht
  unfold Builtin.SmallTypes.nextOf
  refine wpAny_bind (wpAny_callSpecial?_slot (name:=Str.ofString "__next__") hj.typeIs F.slot_tuple_iterator_next (wpAny_call_entry F.slot_tuple_iterator_next hj.typeIs F.entry_tuple_iterator_next ?_ (F.args_tuple_iterator_next_1 _)))
  show wpAny _ _ (field (.ref j) 0 >>= _) _ _ s
  refine wpAny_bind (wpAny_field e1 e3 (x :=.ref t) rfl ?_)
  show wpAny _ _ (if (Value.ref t==Value.none)=true then _ else _) _ _ s
  rw [if_neg (fun z:(Value.ref t==Value.none)=true=>Bool.false_ne_true z)]
  show wpAny _ _ (field (.ref j) 1 >>= _) _ _ s
  refine wpAny_bind (wpAny_field e1 e3 (x :=.int k 0) rfl ?_)
  show wpAny _ _ (seqItems? (.ref t) >>= _) _ _ s
  refine wpAny_bind (wpAny_seqItems f1 f3 ?_)
  simp only [Int.toNat_natCast,hu]
  refine wpAny_bind (wpAny_rule (wpAny_bind (wpAny_setField e1 e3 (by simp) ?_)))
  show wpAny _ _ (newExc (.type "StopIteration") [] >>= _) _ _ _
  refine wpAny_bind (?_:wpAny _ _ (newExc (.type "StopIteration") []) _ _ _)
  simp only [newExc,newTuple]
  refine wpAny_bind (wpAny_newObj_type (?_:_) (by size_fits))
  refine wpAny_bind (m:=firstArgMember _ _) (wpAny_of_eq (a:=Value.none) (by first|rfl|(simp only [firstArgMember];rfl)|skip) ?_)
  refine wpAny_newObj_type (?_:_) (by size_fits)
  simp only [raiseNew]
  refine wpAny_bind (wpAny_handled (?_:_))
  first|rw [hh]|rw [show A.in1.handled=none from hh]
  refine wpAny_bind (wpAny_pure (wpAny_throw (?_:_)))
  exact q _ _ (((Heap.SameBut.update ..).extBut.push _).push _) ⟨_,Heap.get?_push_size _ rfl,rfl⟩
theorem snx_item {b:Bool}{j l:Addr}{k:Nat}{us:Array Value}{u:Value}{Q:Value→Shared→Prop} (hj:SqIt b s.heap j l k) (hl:SqOf b s.heap l us) (hu:us[k]?=some u)
 (q : ∀ h',SqIt b h' j l (k+1)→Heap.SameBut j s.heap h'→Q u { s with heap:=h' }):wpAny (model prog w) A (Builtin.SmallTypes.nextOf (.ref j)) Q E s:=by
  cases b with
  | true=>exact tnx_item hj hl hu q
  | false=>exact wpAny_nextOf_list_item hj hl hu q
theorem snx_end {b:Bool}{j l:Addr}{k:Nat}{us:Array Value}{Q:Value→Shared→Prop} (hh:A.handled=none) (hj:SqIt b s.heap j l k) (hl:SqOf b s.heap l us) (hu:us[k]?=none)
 (q : ∀ h' e,Heap.ExtBut j s.heap h'→(∃ o,h'.get? e=some o∧o.cls = .type "StopIteration")→E (.ref e) { s with heap:=h' }):wpAny (model prog w) A (Builtin.SmallTypes.nextOf (.ref j)) Q E s:=by
  cases b with
  | true=>exact tnx_end hh hj hl hu q
  | false=>exact wpAny_nextOf_list_end hh hj hl hu q
theorem sit_new {b:Bool}{l:Addr}{us:Array Value}{Q:Value→Shared→Prop} (hl:SqOf b s.heap l us) (q:Q (.ref s.heap.objs.size) { s with heap:=s.heap.push (itO b l) }):wpAny (model prog w) A (pyIter (.ref l)) Q E s:=by
 cases b with
 | true=>exact wpAny_pyIter_tuple hl q
 | false=>exact wpAny_pyIter_list hl q
theorem zpn_item {b c:Bool}{z TI TO j1 j2 l1 l2:Addr}{k1 k2:Nat}{us vs:Array Value}{u v x0 y0:Value}{Q:Value→Shared→Prop} (D:ZipApart z TI TO j1 j2 l1 l2)
 (a0:IsZip s.heap z TI TO .none) (a1:IsPair s.heap TI (.ref j1) (.ref j2)) (a2:IsPair s.heap TO x0 y0)
 (e1:SqIt b s.heap j1 l1 k1) (e2:SqIt c s.heap j2 l2 k2) (g1:SqOf b s.heap l1 us) (g2:SqOf c s.heap l2 vs) (hu:us[k1]?=some u) (hv:vs[k2]?=some v)
 (q : ∀ h',IsZip h' z TI TO (rawInt s.heap.objs.size)→IsPair h' TO u v→SqIt b h' j1 l1 (k1+1)→SqIt c h' j2 l2 (k2+1)→IsPair h' s.heap.objs.size u v→h'.objs.size=s.heap.objs.size+1 →
 (∀ a o,a≠z→a≠TO→a≠j1→a≠j2→s.heap.get? a=some o→h'.get? a=some o)→Q (.ref s.heap.objs.size) { s with heap:=h' }) :
  wpAny (model prog w) A (Builtin.«zip.__next__» ⟨[.ref z],[]⟩) (fun r s' => ∃ y,r = .done (.ret y)∧Q y s') E s:=by
  show wpAny _ _ (field (.ref z) 2 >>= _) _ _ _
  refine wpAny_bind (wpAny_field a0 rfl (x :=.bool false) rfl ?_)
  show wpAny _ _ (field (.ref z) 3 >>= _) _ _ _
  refine wpAny_bind (wpAny_field a0 rfl (x :=.ref TI) rfl ?_)
  refine wpAny_bind (wpAny_seqItems a1 rfl ?_)
  show wpAny _ _ (Builtin.SmallTypes.ownedTupleIsFree (.ref z) >>= _) _ _ _
  refine wpAny_bind (?_:wpAny _ _ (Builtin.SmallTypes.ownedTupleIsFree (.ref z)) _ _ _)
  unfold Builtin.SmallTypes.ownedTupleIsFree
  refine wpAny_bind (wpAny_field a0 rfl (x :=.none) rfl (wpAny_pure ?_))
  simp only [if_true]
  refine wpAny_bind (wpAny_rule (?_:_))
  refine wpAny_bind (wpAny_field a0 rfl (x :=.ref TO) rfl ?_)
  refine wpAny_bind (wpAny_setField_rec a0 (by simp) fun p1 b0 m1=>?_)
  replace b0:IsZip p1 z TI TO .ellipsis:=b0
  refine wpAny_bind (?_:_)
  simp only [List.zipIdx_cons,List.zipIdx_nil,List.forIn_cons,List.forIn_nil]
  refine wpAny_bind (wpAny_bind (wpAny_onRaise (?_:_)))
  show wpAny _ _ (Builtin.SmallTypes.nextOf (.ref j1) >>= _) _ _ _
  refine wpAny_bind (snx_item (e1.but m1 D.i1z) (g1.but m1 D.l1z) hu fun p2 f1 m2=>wpAny_pure ?_)
  have c2:IsPair p2 TO x0 y0:=m2.extBut _ _ D.TOi1 (m1.extBut _ _ D.TOz a2)
  refine wpAny_bind (wpAny_seqItems c2 rfl ?_)
  refine wpAny_bind (wpAny_updateSeq_pair c2 fun p3 c3 m3=>?_)
  replace c3:IsPair p3 TO u y0:=c3
  refine wpAny_bind (wpAny_letGo (wpAny_pure (?_:_)))
  refine wpAny_bind (wpAny_bind (wpAny_onRaise (?_:_)))
  show wpAny _ _ (Builtin.SmallTypes.nextOf (.ref j2) >>= _) _ _ _
  refine wpAny_bind (snx_item (((e2.but m1 D.i2z).but m2 D.i12.symm).but m3 D.TOi2.symm) (((g2.but m1 D.l2z).but m2 D.l2i1).but m3 D.l2TO) hv fun p4 f2 m4=>wpAny_pure ?_)
  have c4:IsPair p4 TO u y0:=m4.extBut _ _ D.TOi2 c3
  refine wpAny_bind (wpAny_seqItems c4 rfl ?_)
  refine wpAny_bind (wpAny_updateSeq_pair c4 fun p5 c5 m5=>?_)
  replace c5:IsPair p5 TO u v:=c5
  refine wpAny_bind (wpAny_letGo (wpAny_pure (wpAny_pure (?_:_))))
  refine wpAny_bind (wpAny_seqItems c5 rfl ?_)
  refine wpAny_bind (wpAny_newTuple (?_:_))
  have sz:p5.objs.size=s.heap.objs.size:=by rw [m5.1,m4.1,m3.1,m2.1,m1.1]
  have b5:IsZip p5 z TI TO .ellipsis:=m5.extBut _ _ D.TOz.symm (m4.extBut _ _ D.i2z.symm (m3.extBut _ _ D.TOz.symm (m2.extBut _ _ D.i1z.symm b0)))
  have k5 : ∀ a o,a≠z→a≠TO→a≠j1→a≠j2→s.heap.get? a=some o→p5.get? a=some o:=fun a o n1 n2 n3 n4 e =>
   m5.extBut _ _ n2 (m4.extBut _ _ n4 (m3.extBut _ _ n2 (m2.extBut _ _ n3 (m1.extBut _ _ n1 e))))
  have f5:SqIt b p5 j1 l1 (k1+1):=((f1.but m3 D.TOi1.symm).but m4 D.i12).but m5 D.TOi1.symm
  have f6:SqIt c p5 j2 l2 (k2+1):=f2.but m5 D.TOi2.symm
  have zlt:z<p5.objs.size:=Heap.lt_size b5
  show wpAny _ _ (Builtin.SmallTypes.ownedTupleHandOut (.ref z) (.ref p5.objs.size) >>= _) _ _ _
  refine wpAny_bind (?_:wpAny _ _ (Builtin.SmallTypes.ownedTupleHandOut (.ref z) (.ref p5.objs.size)) _ _ _)
  unfold Builtin.SmallTypes.ownedTupleHandOut
  have b6:IsZip (p5.push { cls :=.type "tuple",data :=.seq #[u,v] }) z TI TO .ellipsis:=Heap.get?_push_of_some _ b5
  refine wpAny_bind (wpAny_setField_rec b6 (by simp) fun p7 b7 m7=>?_)
  replace b7:IsZip p7 z TI TO (rawInt p5.objs.size):=b7
  refine wpAny_setField_rec b7 (by simp) fun p8 b8 m8=>?_
  replace b8:IsZip p8 z TI TO (rawInt p5.objs.size):=b8
  have up : ∀ a o,a≠z→p5.get? a=some o→p8.get? a=some o:=fun a o n e=>m8.extBut _ _ n (m7.extBut _ _ n (Heap.get?_push_of_some _ e))
  have t8:IsPair p8 p5.objs.size u v:=m8.extBut _ _ (Nat.ne_of_gt zlt) (m7.extBut _ _ (Nat.ne_of_gt zlt) (Heap.get?_push_size _ rfl))
  have z8:p8.objs.size=p5.objs.size+1:=by rw [m8.1,m7.1,Heap.size_push]
  rw [sz] at b8 t8 z8
  refine wpAny_pure ⟨_,rfl,(?_:Q (.ref p5.objs.size) _)⟩
  rw [sz]
  exact q p8 b8 (up _ _ D.TOz c5) (f5.at' fun o e=>up _ o D.i1z e) (f6.at' fun o e=>up _ o D.i2z e) t8 z8 fun a o n1 n2 n3 n4 e=>up a o n1 (k5 a o n1 n2 n3 n4 e)
theorem zpn_end {b c:Bool}{z TI TO j1 j2 l1 l2:Addr}{k1 k2:Nat}{us vs:Array Value}{x0 y0:Value}{Q:Fin→Shared→Prop} (hh:A.handled=none) (D:ZipApart z TI TO j1 j2 l1 l2)
 (a0:IsZip s.heap z TI TO .none) (a1:IsPair s.heap TI (.ref j1) (.ref j2)) (a2:IsPair s.heap TO x0 y0)
 (e1:SqIt b s.heap j1 l1 k1) (e2:SqIt c s.heap j2 l2 k2) (g1:SqOf b s.heap l1 us) (g2:SqOf c s.heap l2 vs) (hend:us[k1]?=none∨vs[k2]?=none)
 (q : ∀ h' e,(∀ a o,a≠z→a≠TO→a≠j1→a≠j2→s.heap.get? a=some o→h'.get? a=some o)→(∃ o,h'.get? e=some o∧o.cls = .type "StopIteration")→E (.ref e) { s with heap:=h' }) :
  wpAny (model prog w) A (Builtin.«zip.__next__» ⟨[.ref z],[]⟩) Q E s:=by
  show wpAny _ _ (field (.ref z) 2 >>= _) _ _ _
  refine wpAny_bind (wpAny_field a0 rfl (x :=.bool false) rfl ?_)
  show wpAny _ _ (field (.ref z) 3 >>= _) _ _ _
  refine wpAny_bind (wpAny_field a0 rfl (x :=.ref TI) rfl ?_)
  refine wpAny_bind (wpAny_seqItems a1 rfl ?_)
  show wpAny _ _ (Builtin.SmallTypes.ownedTupleIsFree (.ref z) >>= _) _ _ _
  refine wpAny_bind (?_:wpAny _ _ (Builtin.SmallTypes.ownedTupleIsFree (.ref z)) _ _ _)
  unfold Builtin.SmallTypes.ownedTupleIsFree
  refine wpAny_bind (wpAny_field a0 rfl (x :=.none) rfl (wpAny_pure ?_))
  simp only [if_true]
  refine wpAny_bind (wpAny_rule (?_:_))
  refine wpAny_bind (wpAny_field a0 rfl (x :=.ref TO) rfl ?_)
  refine wpAny_bind (wpAny_setField_rec a0 (by simp) fun p1 b0 m1=>?_)
  replace b0:IsZip p1 z TI TO .ellipsis:=b0
  refine wpAny_bind (?_:_)
  simp only [List.zipIdx_cons,List.zipIdx_nil,List.forIn_cons,List.forIn_nil]
  refine wpAny_bind (wpAny_bind (wpAny_onRaise (?_:_)))
  show wpAny _ _ (Builtin.SmallTypes.nextOf (.ref j1) >>= _) _ _ _
  cases hu:us[k1]? with
  | none =>
   refine wpAny_bind (snx_end hh (e1.but m1 D.i1z) (g1.but m1 D.l1z) hu fun p2 e m2 he=>?_)
   obtain ⟨oe,h3,h4⟩:=he
   have b2:IsZip p2 z TI TO .ellipsis:=m2 _ _ D.i1z.symm b0
   have nz:e≠z:=fun x=>by subst x;rw [b2] at h3;cases h3;simp at h4
   exact wpAny_setField_rec b2 (by simp) fun p3 _ m3=>q p3 e (fun a o n1 _ n3 _ x=>m3.extBut _ _ n1 (m2 _ _ n3 (m1.extBut _ _ n1 x))) ⟨oe,m3.extBut _ _ nz h3,h4⟩
  | some u =>
   have hv:vs[k2]?=none:=by
    rcases hend with h|h
    ·rw [hu] at h;cases h
    ·exact h
   refine wpAny_bind (snx_item (e1.but m1 D.i1z) (g1.but m1 D.l1z) hu fun p2 f1 m2=>wpAny_pure ?_)
   have c2:IsPair p2 TO x0 y0:=m2.extBut _ _ D.TOi1 (m1.extBut _ _ D.TOz a2)
   refine wpAny_bind (wpAny_seqItems c2 rfl ?_)
   refine wpAny_bind (wpAny_updateSeq_pair c2 fun p3 c3 m3=>?_)
   refine wpAny_bind (wpAny_letGo (wpAny_pure (?_:_)))
   refine wpAny_bind (wpAny_bind (wpAny_onRaise (?_:_)))
   show wpAny _ _ (Builtin.SmallTypes.nextOf (.ref j2) >>= _) _ _ _
   refine wpAny_bind (snx_end hh (((e2.but m1 D.i2z).but m2 D.i12.symm).but m3 D.TOi2.symm) (((g2.but m1 D.l2z).but m2 D.l2i1).but m3 D.l2TO) hv fun p4 e m4 he=>?_)
   obtain ⟨oe,h3,h4⟩:=he
   have b4:IsZip p4 z TI TO .ellipsis:=m4 _ _ D.i2z.symm (m3.extBut _ _ D.TOz.symm (m2.extBut _ _ D.i1z.symm b0))
   have nz:e≠z:=fun x=>by subst x;rw [b4] at h3;cases h3;simp at h4
   exact wpAny_setField_rec b4 (by simp) fun p5 _ m5=>q p5 e (fun a o n1 n2 n3 n4 x=>m5.extBut _ _ n1 (m4 _ _ n4 (m3.extBut _ _ n2 (m2.extBut _ _ n3 (m1.extBut _ _ n1 x))))) ⟨oe,m5.extBut _ _ nz h3,h4⟩
theorem zpy_item {b c:Bool}{z TI TO j1 j2 l1 l2:Addr}{k1 k2:Nat}{us vs:Array Value}{u v x0 y0:Value}{Q:Option Value→Shared→Prop} (D:ZipApart z TI TO j1 j2 l1 l2)
 (a0:IsZip s.heap z TI TO .none) (a1:IsPair s.heap TI (.ref j1) (.ref j2)) (a2:IsPair s.heap TO x0 y0)
 (e1:SqIt b s.heap j1 l1 k1) (e2:SqIt c s.heap j2 l2 k2) (g1:SqOf b s.heap l1 us) (g2:SqOf c s.heap l2 vs) (hu:us[k1]?=some u) (hv:vs[k2]?=some v)
 (q : ∀ h',IsZip h' z TI TO (rawInt s.heap.objs.size)→IsPair h' TO u v→SqIt b h' j1 l1 (k1+1)→SqIt c h' j2 l2 (k2+1)→IsPair h' s.heap.objs.size u v→h'.objs.size=s.heap.objs.size+1 →
 (∀ a o,a≠z→a≠TO→a≠j1→a≠j2→s.heap.get? a=some o→h'.get? a=some o)→Q (some (.ref s.heap.objs.size)) { s with heap:=h' }) :
  wpAny (model prog w) A (pyNext (.ref z)) Q E s:=by
  have ty:s.TypeIs (.ref z) "zip":=⟨_,a0,rfl⟩
  unfold pyNext
  exact wpAny_bind (wpAny_attempt (wpAny_callSpecial?_slot (name:=Str.ofString "__next__") ty F.slot_zip_next (wpAny_call_entry F.slot_zip_next ty F.entry_zip_next
   (zpn_item D a0 a1 a2 e1 e2 g1 g2 hu hv fun h' r1 r2 r3 r4 r5 r6 r7=>wpAny_pure (q h' r1 r2 r3 r4 r5 r6 r7)) (F.args_zip_next_1 _))))
theorem zpy_end {b c:Bool}{z TI TO j1 j2 l1 l2:Addr}{k1 k2:Nat}{us vs:Array Value}{x0 y0:Value}{Q:Option Value→Shared→Prop} (hh:A.handled=none) (D:ZipApart z TI TO j1 j2 l1 l2)
 (a0:IsZip s.heap z TI TO .none) (a1:IsPair s.heap TI (.ref j1) (.ref j2)) (a2:IsPair s.heap TO x0 y0)
 (e1:SqIt b s.heap j1 l1 k1) (e2:SqIt c s.heap j2 l2 k2) (g1:SqOf b s.heap l1 us) (g2:SqOf c s.heap l2 vs) (hend:us[k1]?=none∨vs[k2]?=none)
 (q : ∀ h',(∀ a o,a≠z→a≠TO→a≠j1→a≠j2→s.heap.get? a=some o→h'.get? a=some o)→Q none { s with heap:=h' }):wpAny (model prog w) A (pyNext (.ref z)) Q E s:=by
  have ty:s.TypeIs (.ref z) "zip":=⟨_,a0,rfl⟩
  unfold pyNext
  refine wpAny_bind (wpAny_attempt (wpAny_callSpecial?_slot (name:=Str.ofString "__next__") ty F.slot_zip_next (wpAny_call_entry F.slot_zip_next ty F.entry_zip_next (zpn_end hh D a0 a1 a2 e1 e2 g1 g2 hend fun h' e hk he=>?_) (F.args_zip_next_1 _))))
  obtain ⟨o,ho,hc⟩:=he
  exact wpAny_bind (wpAny_isInstance (T := "StopIteration") (b:=true) ⟨o,ho,hc⟩ isSubtype_stop (wpAny_pure (q _ hk)))
abbrev zh1 (b:Bool) (h:Heap) (l:Addr):Heap:=h.push (itO b l)
abbrev zh2 (b c:Bool) (h:Heap) (l1 l2:Addr):Heap:=(zh1 b h l1).push (itO c l2)
abbrev zh3 (b c:Bool) (h:Heap) (l1 l2:Addr):Heap:=(zh2 b c h l1 l2).push { cls :=.type "tuple",data :=.seq #[.ref h.objs.size,.ref (zh1 b h l1).objs.size] }
abbrev zh4 (b c:Bool) (h:Heap) (l1 l2:Addr):Heap:=(zh3 b c h l1 l2).push { cls :=.type "tuple",data :=.seq #[.none,.none] }
abbrev zh5 (b c:Bool) (h:Heap) (l1 l2:Addr):Heap:=(zh4 b c h l1 l2).push { cls :=.type "zip",data :=.fields #[.none,.bool false,.bool false,.ref (zh2 b c h l1 l2).objs.size,.ref (zh3 b c h l1 l2).objs.size] }
theorem zp_new (b c:Bool) (l1 l2:Addr) (us vs:Array Value):Meets (Builtin.«zip.__new__» ⟨[.type "zip",.ref l1,.ref l2],[]⟩)
 (fun _ R s=>SqOf b s.heap l1 us∧SqOf c s.heap l2 vs∧R (.ok (.ret (.ref (zh4 b c s.heap l1 l2).objs.size))) { s with heap:=zh5 b c s.heap l1 l2 }) :=
  .of_wp fun prog w A R s h=>by
   obtain ⟨hp,g,d,tk,os⟩:=s
   obtain ⟨g1,g2,h⟩:=h
   have hsub:=sub_zip
   have y1:SqOf b (Shared.heap ⟨hp,g,d,tk,os⟩) l1 us:=g1
   have y2:SqOf c (Shared.heap ⟨hp.push (itO b l1),g,d,tk,os⟩) l2 vs:=SqOf.at' g2 fun o e=>Heap.get?_push_of_some _ e
   wp_walk using sit_new y1,sit_new y2
   exact ⟨_,rfl,h⟩
theorem zp_call {b c:Bool}{l1 l2:Addr}{us vs:Array Value}{Q:Value→Shared→Prop} (g1:SqOf b s.heap l1 us) (g2:SqOf c s.heap l2 vs)
 (q : ∀ h',IsZip h' (s.heap.objs.size+4) (s.heap.objs.size+2) (s.heap.objs.size+3) .none→IsPair h' (s.heap.objs.size+2) (.ref s.heap.objs.size) (.ref (s.heap.objs.size+1)) →
 IsPair h' (s.heap.objs.size+3) .none .none→SqIt b h' s.heap.objs.size l1 0→SqIt c h' (s.heap.objs.size+1) l2 0→(∀ a o,s.heap.get? a=some o→h'.get? a=some o)→Q (.ref (s.heap.objs.size+4)) { s with heap:=h' }) :
  wpAny (model prog w) A (call (.type "zip") [.ref l1,.ref l2]) Q E s:=by
  refine callType_new F.called_zip (by decide) (F.typeCall_zip_2 _ _) (F.newCall_zip_2 _ _) (fun ob=>F.args_object_init_3 ob _ _) F.entry_zip_new (zp_new b c l1 l2 us vs) ⟨g1,g2,?_⟩
  have n1:(zh1 b s.heap l1).objs.size=s.heap.objs.size+1:=Heap.size_push ..
  have n2:(zh2 b c s.heap l1 l2).objs.size=s.heap.objs.size+2:=by rw [Heap.size_push,n1]
  have n3:(zh3 b c s.heap l1 l2).objs.size=s.heap.objs.size+3:=by rw [Heap.size_push,n2]
  have n4:(zh4 b c s.heap l1 l2).objs.size=s.heap.objs.size+4:=by rw [Heap.size_push,n3]
  have r5:(zh5 b c s.heap l1 l2).get? (zh4 b c s.heap l1 l2).objs.size=some _:=Heap.get?_push_size _ rfl
  have r4:(zh5 b c s.heap l1 l2).get? (zh3 b c s.heap l1 l2).objs.size=some _:=Heap.get?_push_of_some _ (Heap.get?_push_size _ rfl)
  have r3:(zh5 b c s.heap l1 l2).get? (zh2 b c s.heap l1 l2).objs.size=some _:=Heap.get?_push_of_some _ (Heap.get?_push_of_some _ (Heap.get?_push_size _ rfl))
  have r2:(zh5 b c s.heap l1 l2).get? (zh1 b s.heap l1).objs.size=some (itO c l2):=Heap.get?_push_of_some _ (Heap.get?_push_of_some _ (Heap.get?_push_of_some _ (Heap.get?_push_size _ rfl)))
  have r1:(zh5 b c s.heap l1 l2).get? s.heap.objs.size=some (itO b l1):=Heap.get?_push_of_some _ (Heap.get?_push_of_some _ (Heap.get?_push_of_some _ (Heap.get?_push_of_some _ (Heap.get?_push_size _ rfl))))
  show _∧_
  rw [n2,n3,n4] at r5
  rw [n1,n2] at r3
  rw [n3] at r4
  rw [n1] at r2
  rw [n4]
  have si : ∀ {b:Bool}{h:Heap}{a l:Addr},h.get? a=some (itO b l)→SqIt b h a l 0:=fun {b}{h}{a}{l} e=>by
   cases b with
   | true=>exact ⟨_,e,rfl,rfl⟩
   | false=>exact ⟨_,e,rfl,rfl⟩
  exact ⟨⟨_,r5,rfl⟩,q _ r5 r3 r4 (si r1) (si r2) fun a o x=>Heap.get?_push_of_some _ (Heap.get?_push_of_some _ (Heap.get?_push_of_some _ (Heap.get?_push_of_some _ (Heap.get?_push_of_some _ x))))⟩
end
end L2
namespace L2
open PySem PySem.Spec PyProof.Rows
def SqX (b:Bool) (K:PySem.W.Frag) (H:Hp) (a:Addr) (xs:List V):Prop:=match b with
 | true=>SqT K H a xs
 | false=>SqL K H a xs
section
variable {X:Cx}{pins:List (Addr×Obj)}{σ:St}{H:Hp}{s:Shared}{b:Bool}{a:Addr}{xs ys:List V}
theorem Inv.sqx (I:Inv X pins σ H s) (h:SqX b X.K H a xs) : ∃ its:List Value,Vals xs its∧SqOf b s.heap a its.toArray:=by
 cases b with
 | true =>
  obtain ⟨its,r,p,_⟩:=I.tuple h
  obtain ⟨o,ho,hc,n,hd⟩:=p
  exact ⟨its,r,o,ho,hc,n,hd⟩
 | false =>
  obtain ⟨its,r,p,_⟩:=I.list h
  exact ⟨its,r,p.isList⟩
theorem Inv.sqx_inj (I:Inv X pins σ H s) (h:SqX b X.K H a xs) (h':SqX b X.K H a ys):xs=ys:=by
 cases b with
 | true=>exact I.tuple_inj h h'
 | false=>exact I.list_inj h h'
end
def Itz (K:PySem.W.Frag) (b c:Bool) (l m:Addr):It :=
 ⟨fun i H => ∃ xs ys x y,SqX b K H l xs∧SqX c K H m ys∧xs[i]?=some x∧ys[i]?=some y,fun i H v H' => ∃ p x y,(∀ xs,SqX b K H l xs→xs[i]?=some x)∧(∀ ys,SqX c K H m ys→ys[i]?=some y)∧H p=none∧v = .ref p∧H'=upd H p (.tup [x,y]),
  fun i H => ∃ xs ys,SqX b K H l xs∧SqX c K H m ys∧(xs.length≤i∨ys.length≤i)⟩
theorem turn_zip {P:Program}{w:World}{K:PySem.W.Frag}{elts:List Expr}{x1:Nat}{tpos:Pos}{b c:Bool} (z TI TO j1 j2 l m:Addr) (D:ZipApart z TI TO j1 j2 l m) :
 Turn P w K (.Tuple elts x1 tpos) (Itz K b c l m) [z,TI,TO,j1,j2] z (fun i h=>IsZip h z TI TO .none∧IsPair h TI (.ref j1) (.ref j2)∧(∃ x0 y0,IsPair h TO x0 y0)∧SqIt b h j1 l i∧SqIt c h j2 m i) where
  mem:=by simp
  obj:=fun i h st a ha=>by
   obtain ⟨s0,s1,⟨x0,y0,s2⟩,s3,s4⟩:=st
   simp only [List.mem_cons,List.not_mem_nil,or_false] at ha
   rcases ha with rfl|rfl|rfl|rfl|rfl
   ·exact ⟨_,s0,fun v z=>by have z':Data.fields _=Data.cell v:=z;cases z'⟩
   ·exact ⟨_,s1,fun v z=>by have z':Data.seq _ _=Data.cell v:=z;cases z'⟩
   ·exact ⟨_,s2,fun v z=>by have z':Data.seq _ _=Data.cell v:=z;cases z'⟩
   ·exact s3.obj
   ·exact s4.obj
  keep:=fun i h h' st k=>by
   obtain ⟨s0,s1,⟨x0,y0,s2⟩,s3,s4⟩:=st
   exact ⟨k z (by simp) _ s0,k TI (by simp) _ s1,⟨x0,y0,k TO (by simp) _ s2⟩,s3.at' fun o q=>k j1 (by simp) o q,s4.at' fun o q=>k j2 (by simp) o q⟩
  item:=by
   intro X hP hw hK hc i pins s σ H E I hf st hg
   subst hP hw hK
   obtain ⟨xs,ys,x,y,hq,hq',hx,hy⟩:=hg
   obtain ⟨us,rv,p1⟩:=I.sqx hq
   obtain ⟨vs,rw',p2⟩:=I.sqx hq'
   obtain ⟨u,hu,ru⟩:=rv.get hx
   obtain ⟨v,hv,rv'⟩:=rw'.get hy
   obtain ⟨s0,s1,⟨x0,y0,s2⟩,s3,s4⟩:=st
   obtain ⟨z0,z1,z2,z3,z4,z5⟩:=hf z (by simp)
   obtain ⟨o0,o1,o2,o3,o4,o5⟩:=hf TO (by simp)
   obtain ⟨f0,f1,f2,f3,f4,f5⟩:=hf j1 (by simp)
   obtain ⟨g0,g1,g2,g3,g4,g5⟩:=hf j2 (by simp)
   have zlt:z<s.heap.objs.size:=Heap.lt_size s0
   refine zpy_item D s0 s1 s2 s3 s4 p1 p2 (u:=u) (v:=v) (by simpa using hu) (by simpa using hv) fun h₁ a0 a2 a3 a4 ht hz₁ hk=>⟨_,rfl,?_⟩
   refine wpAny_letOwnedTupleGo_zip (s:={ s with heap:=h₁ }) a0 fun h₂ he₂ hs₂=>?_
   replace hs₂:Heap.SameBut z h₁ h₂:=hs₂
   have fresh:H s.heap.objs.size=none:=I.hok.fresh (Nat.le_refl _)
   have kk : ∀ a o,a≠z→a≠TO→a≠j1→a≠j2→s.heap.get? a=some o→h₂.get? a=some o:=fun a o b1 b2 b3 b4 q=>hs₂.extBut a o b1 (hk a o b1 b2 b3 b4 q)
   have kc : ∀ a o,a ∉ [z,TO,j1,j2]→s.heap.get? a=some o→h₂.get? a=some o:=fun a o hc q=>kk a o (fun z=>hc (by simp [z])) (fun z=>hc (by simp [z])) (fun z=>hc (by simp [z])) (fun z=>hc (by simp [z])) q
   have nb : ∀ a o v,s.heap.get? a=some o→H a=some v→h₂.get? a=some o:=fun a o v e q=>kk a o (fun n=>by rw [n,z0] at q;cases q) (fun n=>by rw [n,o0] at q;cases q) (fun n=>by rw [n,f0] at q;cases q) (fun n=>by rw [n,g0] at q;cases q) e
   have ht₂:h₂.get? s.heap.objs.size=some { cls :=.type "tuple",data :=.seq #[u,v] }:=(hs₂.2 _ (Nat.ne_of_gt zlt)).trans ht
   have I1:Inv X pins σ (upd H s.heap.objs.size (.tup [x,y])) { s with heap:=h₂ }:=by
    refine I.step (t':=s.toks) (g':=s.gens) (d':=s.drawn) (ch:=[z,TO,j1,j2]) (fun a ha=>?_) (fun a o _ _ hc q _=>kc a o hc q)
     (fun a o _ _ hc q _=>⟨o.slots,kc a o hc q⟩) (fun a o _ q n=>by rw [upd_ne (Nat.ne_of_lt (Heap.lt_size q))];exact n)
     (fun a o hc q=>⟨o,kc a o hc q⟩) (fun a ys q=>by rw [upd_ne (ne_of_none q fresh)];exact q) (fun a o v q=>by rw [upd_ne (ne_of_none q fresh)];exact q)
     (fun a ps q=>⟨#[],by rw [upd_ne (ne_of_none q fresh),q];simp,.nil⟩) (fun m hm=>?_) (fun a v' q=>?_) I.bare
    ·simp only [List.mem_cons,List.not_mem_nil,or_false] at ha
     rcases ha with rfl|rfl|rfl|rfl
     ·exact ⟨z3,z1,z4,z5⟩
     ·exact ⟨o3,o1,o4,o5⟩
     ·exact ⟨f3,f1,f4,f5⟩
     ·exact ⟨g3,g1,g4,g5⟩
    ·obtain ⟨o,es,ep,ho',r⟩:=hm
     exact ⟨o,es,ep,kk _ o (Ne.symm z1) (Ne.symm o1) (Ne.symm f1) (Ne.symm g1) ho',r⟩
    ·by_cases hb:a=s.heap.objs.size
     ·subst hb
      rw [upd_same] at q
      cases q
      exact ⟨(by show 2≤sizeLine;decide),[u,v],.cons ru (.cons rv' .nil),⟨_,ht₂,rfl,_,rfl⟩⟩
     ·rw [upd_ne hb] at q
      refine (I.hok a v' q).stay (fun d ob hd e=>?_) (fun d e=>by rw [upd_ne (ne_of_none e fresh)];exact e) fun d ws e=>by rw [upd_ne (ne_of_none e fresh)];exact e
      rcases hd with hd|hd
      ·subst hd;exact nb _ _ _ e q
      ·exact nb _ _ _ e hd
   refine ⟨.ref s.heap.objs.size,_,I1,rfl,⟨s.heap.objs.size,x,y,fun ws hw=>by rw [I.sqx_inj hw hq];exact hx,fun ws hw=>by rw [I.sqx_inj hw hq'];exact hy,fresh,rfl,rfl⟩,⟨he₂,?_,⟨u,v,?_⟩,?_,?_⟩,fun a ha=>?_⟩
   ·exact hs₂.extBut _ _ D.TIz (hk _ _ D.TIz D.TITO D.TIi1 D.TIi2 s1)
   ·exact hs₂.extBut _ _ D.TOz a2
   ·exact a3.but hs₂ D.i1z
   ·exact a4.but hs₂ D.i2z
   ·have hlt:a<s.heap.objs.size:=by
     simp only [List.mem_cons,List.not_mem_nil,or_false] at ha
     rcases ha with rfl|rfl|rfl|rfl|rfl
     ·exact zlt
     ·exact Heap.lt_size s1
     ·exact Heap.lt_size s2
     ·obtain ⟨o,q,_⟩:=s3.obj;exact Heap.lt_size q
     ·obtain ⟨o,q,_⟩:=s4.obj;exact Heap.lt_size q
    rw [upd_ne (Nat.ne_of_lt hlt)]
    exact (hf a ha).1
  done:=by
   intro X hP hw hK hc i pins s σ H E I hf st hg
   subst hP hw hK
   obtain ⟨xs,ys,hq,hq',hx⟩:=hg
   obtain ⟨us,rv,p1⟩:=I.sqx hq
   obtain ⟨vs,rw',p2⟩:=I.sqx hq'
   obtain ⟨s0,s1,⟨x0,y0,s2⟩,s3,s4⟩:=st
   obtain ⟨z0,z1,z2,z3,z4,z5⟩:=hf z (by simp)
   obtain ⟨o0,o1,o2,o3,o4,o5⟩:=hf TO (by simp)
   obtain ⟨f0,f1,f2,f3,f4,f5⟩:=hf j1 (by simp)
   obtain ⟨g0,g1,g2,g3,g4,g5⟩:=hf j2 (by simp)
   have l1:=rv.length
   have l2:=rw'.length
   refine zpy_end (I.ok.hd hc) D s0 s1 s2 s3 s4 p1 p2 (by rcases hx with hx|hx;exact .inl (by simp;omega);exact .inr (by simp;omega)) fun h' hk=>⟨rfl,?_⟩
   have kc : ∀ a o,a ∉ [z,TO,j1,j2]→s.heap.get? a=some o→h'.get? a=some o:=fun a o hc q=>hk a o (fun z=>hc (by simp [z])) (fun z=>hc (by simp [z])) (fun z=>hc (by simp [z])) (fun z=>hc (by simp [z])) q
   have nb : ∀ a o v,s.heap.get? a=some o→H a=some v→h'.get? a=some o:=fun a o v e q=>hk a o (fun n=>by rw [n,z0] at q;cases q) (fun n=>by rw [n,o0] at q;cases q) (fun n=>by rw [n,f0] at q;cases q) (fun n=>by rw [n,g0] at q;cases q) e
   refine I.step (t':=s.toks) (g':=s.gens) (d':=s.drawn) (ch:=[z,TO,j1,j2]) (fun a ha=>?_) (fun a o _ _ hc q _=>kc a o hc q)
    (fun a o _ _ hc q _=>⟨o.slots,kc a o hc q⟩) (fun a o _ q n=>n) (fun a o hc q=>⟨o,kc a o hc q⟩) (fun a ys q=>q) (fun a o v q=>q) (fun a ps q=>⟨#[],by rw [q];simp,.nil⟩) (fun m hm=>?_) (fun a v' q=>?_) I.bare
   ·simp only [List.mem_cons,List.not_mem_nil,or_false] at ha
    rcases ha with rfl|rfl|rfl|rfl
    ·exact ⟨z3,z1,z4,z5⟩
    ·exact ⟨o3,o1,o4,o5⟩
    ·exact ⟨f3,f1,f4,f5⟩
    ·exact ⟨g3,g1,g4,g5⟩
   ·obtain ⟨o,es,ep,ho',r⟩:=hm
    exact ⟨o,es,ep,hk _ o (Ne.symm z1) (Ne.symm o1) (Ne.symm f1) (Ne.symm g1) ho',r⟩
   ·refine (I.hok a v' q).stay (fun d ob hd e=>?_) (fun d e=>e) fun d ws e=>e
    rcases hd with hd|hd
    ·subst hd;exact nb _ _ _ e q
    ·exact nb _ _ _ e hd
  self:=fun A i s Q E st h=>wpAny_pyIter_zip st.1 h
theorem boot_zip:bootBuiltins "zip" = some (.type "zip"):=by decide +kernel
section
variable {X:Cx}{elts:List Expr}{x1:Nat}{tpos:Pos}
def iZip (K:PySem.W.Frag) (ta:TA):TI:=fun σ H R=>ta σ H fun vs H1 => ∃ b c l m,vs=[.ref l,.ref m]∧(∃ xs,SqX b K H1 l xs)∧(∃ ys,SqX c K H1 m ys)∧R (Itz K b c l m) H1
theorem pi_zip {a b:Expr}{ta:TA}{p pos:Pos} (hg:Gl X "zip") (hm:X.mg "zip" = none) (ha:PA X [a,b] ta) (hs:starEach [a,b] X.env=[(false,eval a X.env),(false,eval b X.env)]:=by rfl) (hs2:starEach [b] X.env=[(false,eval b X.env)]:=by rfl) :
 PI X (.Tuple elts x1 tpos) (.Call (.Name "zip" p) [a,b] [] pos) (iZip X.K ta):=by
 intro pins s σ H R I h
 refine Call_ (ld_blt I hg hm boot_zip (PyProof.Rows.callWith_type1 (thn (ha pos pins s σ H _ I h) fun us s1 xx141=>?_) (by rw [hs,hs2]) (by rw [hs2];rfl)))
 obtain ⟨vs,H1,I1,r1,q1⟩:=xx141
 obtain ⟨kb,kc,l,m,e,⟨xs,hq⟩,⟨ys,hq'⟩,q⟩:=q1
 subst e
 cases r1 with
 | cons r rr =>
  cases rr with
  | cons r' rr =>
   cases rr
   cases r
   cases r'
   obtain ⟨its,rv,pl⟩:=I1.sqx hq
   obtain ⟨its',rv',pl'⟩:=I1.sqx hq'
   refine zp_call pl pl' fun h' a0 a1 a2 a3 a4 hk=>?_
   refine wpAny_pyIter_zip a0 ?_
   have I2:Inv X pins σ H1 { s1 with heap:=h' }:=I1.kept (t':=s1.toks) hk
   refine ⟨s1.heap.objs.size+4,[s1.heap.objs.size+4,s1.heap.objs.size+2,s1.heap.objs.size+3,s1.heap.objs.size,s1.heap.objs.size+1],_,_,H1,rfl,I2,turn_zip (b:=kb) (c:=kc) _ _ _ _ _ l m (zipApart_new pl.lt pl'.lt),⟨a0,a1,⟨_,_,a2⟩,a3,a4⟩,fun b hb=>?_,q⟩
   have hle:s1.heap.objs.size≤b:=by
    simp only [List.mem_cons,List.not_mem_nil,or_false] at hb
    rcases hb with rfl|rfl|rfl|rfl|rfl
    ·exact Nat.le_add_right _ 4
    ·exact Nat.le_add_right _ 2
    ·exact Nat.le_add_right _ 3
    ·exact Nat.le_refl _
    ·exact Nat.le_add_right _ 1
   exact I1.fpOk hle (I1.hok.fresh hle)
end
def zipD (l m:List PyData):List PyData:=(l.zip m).map fun p => .tuple [p.1,p.2]
theorem zipD_len (l m:List PyData):(zipD l m).length=min l.length m.length:=by simp [zipD]
theorem zipD_get {l m:List PyData}{i:Nat}{x y:PyData} (h1:l[i]?=some x) (h2:m[i]?=some y):(zipD l m)[i]?=some (.tuple [x,y]):=by
 unfold zipD
 rw [List.getElem?_map,List.getElem?_zip_eq_some (z:=(x,y)) |>.mpr ⟨h1,h2⟩];rfl
theorem zipD_inv {l m:List PyData}{i:Nat}{d:PyData} (h:(zipD l m)[i]?=some d) : ∃ x y,l[i]?=some x∧m[i]?=some y∧d = .tuple [x,y]:=by
 have hi:=(List.getElem?_eq_some_iff.mp h).1
 rw [zipD_len] at hi
 have h1:i<l.length:=by omega
 have h2:i<m.length:=by omega
 have e:=zipD_get (List.getElem?_eq_getElem h1) (List.getElem?_eq_getElem h2)
 rw [h] at e
 exact ⟨_,_,List.getElem?_eq_getElem h1,List.getElem?_eq_getElem h2,Option.some.inj e⟩
theorem same_seqX {b:Bool}{K:PySem.W.Frag}{F H:Hp}{a:Addr}{xs:List V} (s:Same F H) (h:SqX b K F a xs):SqX b K H a xs:=by
 cases b with
 | true=>exact same_seqT s h
 | false=>exact s.seq h
theorem itd_zip {b c:Bool}{K:PySem.W.Frag}{F:Hp}{a a':Addr}{xs ys:List V}{l m:List PyData} (hs:SqX b K F a xs) (hr:Iss K F l xs) (hs':SqX c K F a' ys) (hr':Iss K F m ys):ItD K (Itz K b c a a') F (zipD l m) where
 go:=fun i H s hi=>by
  rw [zipD_len] at hi
  exact ⟨xs,ys,xs[i]'(by rw [hr.len];omega),ys[i]'(by rw [hr'.len];omega),same_seqX s hs,same_seqX s hs',List.getElem?_eq_getElem _,List.getElem?_eq_getElem _⟩
 stop:=fun H s=>by
  rw [zipD_len]
  refine ⟨xs,ys,same_seqX s hs,same_seqX s hs',?_⟩
  rw [hr.len,hr'.len];omega
 yld:=fun i H x H' F1 s1 s2 hi hy=>by
  obtain ⟨p,y,y',hy,hy',hp,rfl,rfl⟩:=hy
  obtain ⟨d,e1,e2⟩:=hr.get' (hy xs (same_seqX (s1.trans s2) hs))
  obtain ⟨d',e1',e2'⟩:=hr'.get' (hy' ys (same_seqX (s1.trans s2) hs'))
  have g:=Go.put (o:=HO.tup [y,y']) s2 hp
  exact ⟨_,_,zipD_get e1 e1',g,is_tup (SqT.of upd_same) (iss_cons ((e2.mono s1).mono g.f) (iss_cons ((e2'.mono s1).mono g.f) iss_nil))⟩
theorem is_sqx {K:PySem.W.Frag}{F:Hp}{d:PyData}{l:List PyData}{v:V} (e:seqD d=some l) (i:Is K F d v) : ∃ b a xs,v = .ref a∧SqX b K F a xs∧Iss K F l xs:=by
 cases d with
 | list m=>cases e;obtain ⟨a,xs,rfl,hs,hr⟩:=i.lst_inv;exact ⟨false,a,xs,rfl,hs,hr⟩
 | tuple m=>cases e;obtain ⟨a,xs,rfl,hs,hr⟩:=i.tup_inv;exact ⟨true,a,xs,rfl,hs,hr⟩
 | _=>cases e
section
variable {X:Cx}{a b:Expr}{p pos:Pos}{elts:List Expr}{x1:Nat}{tpos:Pos}
def wiZip (Wa Wb:WE):WF:=fun env Q=>Wa env fun x e1=>Wb e1 fun y e=>(seqD x).elim False fun l=>(seqD y).elim False fun m=>Q (zipD l m) e
theorem vi_zip2 {Wa Wb:WE} (hm:X.mg "zip" = none) (ha:VE X a Wa) (hb:VE X b Wb) (hg:Gl X "zip":=by rfl) (hs:starEach [a,b] X.env=[(false,eval a X.env),(false,eval b X.env)]:=by rfl) (hs2:starEach [b] X.env=[(false,eval b X.env)]:=by rfl)
 (hs3:starEach [a,b] X.env=(false,eval a X.env)::starEach [b] X.env:=by rfl) (hs4:starEach [b] X.env=(false,eval b X.env)::starEach [] X.env:=by rfl):VI X (.Tuple elts x1 tpos) (.Call (.Name "zip" p) [a,b] [] pos) (wiZip Wa Wb) :=
 (pi_zip hg hm (pa_cons ha (pa_cons hb pa_nil hs4) hs3) hs hs2).imp fun σ H R xx142=>by
  obtain ⟨M,env,F,Q,I,h,k⟩:=xx142
  refine ⟨M,env,F,_,I,h,fun d v F1 H1 e1 I1 s1 i1 h1=>⟨M,e1,F1,_,I1,h1,fun d2 v2 F2 H2 e2 I2 s2 i2 h2=>?_⟩⟩
  cases q1:seqD d with
  | none=>rw [q1] at h2;exact h2.elim
  | some l =>
   cases q2:seqD d2 with
   | none=>rw [q1,q2] at h2;exact h2.elim
   | some m =>
    rw [q1,q2] at h2
    obtain ⟨kb,a1,xs,rfl,z1,z2⟩:=is_sqx q1 (i1.mono s2)
    obtain ⟨kc,a2,ys,rfl,z3,z4⟩:=is_sqx q2 i2
    exact ⟨kb,kc,a1,a2,rfl,⟨xs,same_seqX I2.fh z1⟩,⟨ys,same_seqX I2.fh z3⟩,k _ _ F2 H2 e2 I2 (s1.trans s2) (itd_zip z1 z2 z3 z4) h2⟩
end
end L2
namespace L2
open PySem PySem.Spec PyProof.Rows
section
variable {X:Cx}
end
end L2
namespace L2
open PySem PySem.Spec PyProof.Rows
section
variable {X:Cx}{e:Expr}{W:WF}{We:WE}{pos:Pos}
end
end L2
namespace L2
open PySem PySem.Spec PyProof.Rows
section
variable {prog:Program}{w:World}{A:Around}{E:Value→Shared→Prop}{s:Shared}
end
section
variable {X:Cx}
end
end L2
namespace L2
open PySem PySem.Spec PyProof.Rows
section
variable {X:Cx}{a b c d:Expr}{pos:Pos}{ta tb tc td:TE}
variable {Wa Wb Wc Wd:WE}
end
end L2
namespace L2
open PySem PySem.Spec PyProof.Rows
def tCompIf (ix:List Nat) (k:Nat) (wi:TI) (g:TG) (tt:TT) (te:TE):TE:=fun σ H Q=>wi σ H fun J H1 => ∃ W:Nat→Nat→List V→St→Hp→Prop,(∃ m,W 0 m [] (capS ix k σ) H1) ∧ ∀ i m ys σ1 H2,W i m ys σ1 H2 →
 (J.stop i H2∧ys.length≤sizeLine ∧ ∀ p,H2 p=none→Q (.ref p) (upd H2 p (.lst ys))) ∨
 (J.go i H2∧ys.length<sizeLine ∧ ∃ (N:V→St→Hp→Prop) (N0:St→Hp→Prop),(∀ y σ2 H5,N y σ2 H5 → ∃ m',m'<m∧W (i+1) m' (ys++[y]) σ2 H5)∧(∀ σ2 H5,N0 σ2 H5 → ∃ m',m'<m∧W (i+1) m' ys σ2 H5) ∧
  ∀ x H3,J.yld i H2 x H3→g x σ1 H3 fun σ2 H4=>tt σ2 H4 fun b H5=>match b with|true=>te σ2 H5 fun y H6=>N y σ2 H6|false=>N0 σ2 H5)
theorem codeAny_compLoop_if {prog:Program}{w:World}{A:Around}{R:Result→Shared→Prop}{s:Shared}{elt target iter cnd:Expr}{scope:Scope}{pos:Pos}{it acc:Value}{env:Env} (I:Nat→Shared→Prop)
 (turn : ∀ n s,I n s→wpAny (model prog w) A (pyNext it) (fun r s₁=>match r with
  | none=>R (.ok .next) s₁
  | some v=>wpAny (model prog w) A (letOwnedTupleGo target it v) (fun _ s₁'=>wpAny (model prog w) A (assign target env v) (fun _ s₂=>wpAny (model prog w) A (isTrue cnd env (eval cnd env)) (fun b s₂'=>match b with
   | true=>wpAny (model prog w) A (eval elt env) (fun x s₃ =>
    wpAny (model prog w) A (call (.builtin "list.append") [acc,x]) (fun _ s₄ => ∃ m,m<n∧I m s₄) (notedBy (model prog w) A env fun e s'=>R (.error e) s') s₃)
    (notedBy (model prog w) A env fun e s'=>R (.error e) s') s₂'
   | false => ∃ m,m<n∧I m s₂') (notedBy (model prog w) A env fun e s'=>R (.error e) s') s₂) (notedBy (model prog w) A env fun e s'=>R (.error e) s') s₁') (notedBy (model prog w) A env fun e s'=>R (.error e) s') s₁) (notedBy (model prog w) A env fun e s'=>R (.error e) s') s)
  (n:Nat) (h:I n s):codeAny (model prog w) A (.compLoop (.ListComp elt [⟨target,iter,[cnd],0⟩] scope pos) 0 it acc env) R s:=by
  refine codeAny_loop rfl I (fun n s hI=>?_) n h
  show wpAny _ _ ((compTurn (.ListComp elt [⟨target,iter,[cnd],0⟩] scope pos) 0 it acc env).onRaise (fun x=>do noteFrame x env;theTreesLotGoes x)) _ _ s
  refine wpAny_noted (?_:_)
  rw [compTurn_list]
  refine wpAny_bind (wpAny_standAt (wpAny_bind (wpAny_mono (turn n s hI) (fun r s₁ h₁=>?_) fun _ _ z=>z)))
  cases r with
  | none=>exact wpAny_pure h₁
  | some v =>
   refine wpAny_bind (wpAny_mono h₁ (fun _ s₁' h₁'=>wpAny_bind (wpAny_mono h₁' (fun _ s₂ h₂=>?_) fun _ _ z=>z)) fun _ _ z=>z)
   refine wpAny_bind (wpAny_tests_one (wpAny_mono h₂ (fun b s₂' hb=>?_) fun _ _ z=>z))
   cases b with
   | true =>
    refine wpAny_bind (wpAny_bind (wpAny_mono hb (fun x s₃ h₃=>wpAny_bind (wpAny_mono h₃ (fun _ s₄ h₄=>wpAny_pure (wpAny_pure ⟨rfl,h₄⟩)) fun _ _ z=>z)) fun _ _ z=>z))
   | false=>exact wpAny_bind (wpAny_pure (wpAny_pure ⟨rfl,hb⟩))
section
variable {X:Cx}{elt target iter cnd:Expr}{scope:Scope}{pos:Pos}{caps own:List Str}{ix:List Nat}{wi:TI}{g:TG}{te:TE}{tt:TT}
theorem pe_compIf (hc:X.calm=true) (S:CompScope X.env scope caps) (hi:PI X target iter wi)
 (hg : ∀ pins s3 H ex,PG (blk X pins scope (caps++own) s3 H ex) target g)
 (he : ∀ pins s3 H ex,PE (blk X pins scope (caps++own) s3 H ex) elt te)
 (ht : ∀ pins s3 H ex,PT (blk X pins scope (caps++own) s3 H ex) cnd tt)
 (hix:caps.length=ix.length:=by rfl) (hcapB:(caps.zip ix).all (fun p=>X.N[p.2]?==some p.1)=true:=by rfl)
  (hs : ∀ x,foldedSetIterable iter X.env x=pure x:=by intro _;rfl):PE X (.ListComp elt [⟨target,iter,[cnd],0⟩] scope pos) (tCompIf ix own.length wi g tt te):=by
  intro pins s σ H Q I h
  rw [eval_ListComp]
  refine comp_core (cs:=[cnd]) (tt:=tt) (Tst:=fun env P E s=>wpAny (model X.prog X.w) X.A (isTrue cnd env (eval cnd env)) P E s) (fun J turn n h=>codeAny_compLoop_if J turn n h) (use:=none) (Q0:=EP X pins σ Q) hc S hi hg he (fun pins s3 H ex pins' s σ H' Qb P E I q k=>wpAny_mono (ht pins s3 H ex pins' s σ H' Qb I q) (fun b s' z=>?_) fun _ _ z=>z.elim) hix hcapB hs I h (fun J H1 z=>z) fun D C s6 H6 m6 ns6 IX c1 c2 c3 c4 c5 c6 q=>⟨m6,ns6,fun h' sb=>⟨.ref D,H6,IX.turned (t':=s6.toks) (it:=C) (fun b o hb q=>sb.extBut b o hb q) c1 c2 c4 c5 c6,rfl,q⟩⟩
  obtain ⟨H'',I'',q''⟩:=z
  exact k b s' H'' I'' q''
def wCompIf (ix:List Nat) (k:Nat) (Wi:WF) (G:WG) (Wt:WT) (We:WE):WF:=fun env Q=>Wi env fun ds e0=>ds.length<sizeLine ∧ ∃ P:Nat→List PyData→Sto→Prop,P 0 [] (capE ix k e0) ∧
 (∀ i d ys e,ds[i]?=some d→P i ys e→G d e fun e1=>Wt e1 fun b e2=>if b=true then We e2 fun y e3=>P (i+1) (ys++[y]) e3 else P (i+1) ys e2) ∧ ∀ ys e,P ds.length ys e→Q ys e0
section
variable {K:PySem.W.Frag}{ix:List Nat}{n:Nat}{Wi:WF}{G:WG}{Wt:WT}{We:WE}{σ:St}{H:Hp}{R:VK}
theorem compIf_lift (h:liftF K (wCompIf ix n Wi G Wt We) σ H R):tCompIf ix n (liftI K Wi) (liftG K G) (liftT K Wt) (liftE K We) σ H R:=by
 obtain ⟨M,env,F,Q,I,h,k⟩:=h
 refine ⟨M,env,F,_,I,h,fun ds J F1 H1 e1 I1 s1 jt xx145=>?_⟩
 obtain ⟨hz,P,p0,turn,fin⟩:=xx145
 refine ⟨fun i m ys σ1 H'=>m=ds.length-i∧i≤ds.length ∧ ∃ e' F' l,EnvOk K ⟨H1,H1,F1⟩ F' H' e' σ1∧Iss K F' l ys∧ys.length≤i∧P i l e',⟨ds.length,by simp,Nat.zero_le _,capE ix n e1,F1,[],I1.cap ix n,iss_nil,Nat.le_refl _,p0⟩,?_⟩
 rintro i m ys σ1 H2 ⟨hm,hi,e2,F2,l,I2,i2,hl,p2⟩
 have g2:=I2.goOf
 by_cases he:i=ds.length
 ·subst he
  exact .inl ⟨jt.stop H2 (g2.f.trans g2.fh),by omega,new_lst (I1.go g2) (s1.trans g2.f) i2 (fin l e2 p2) k⟩
 ·have hlt:i<ds.length:=by omega
  refine .inr ⟨jt.go i H2 (g2.f.trans g2.fh) hlt,by omega,fun y σ' H' => ∃ e' F' l',EnvOk K ⟨H1,H1,F1⟩ F' H' e' σ'∧Iss K F' l' (ys++[y])∧P (i+1) l' e',fun σ' H' => ∃ e' F' l',EnvOk K ⟨H1,H1,F1⟩ F' H' e' σ'∧Iss K F' l' ys∧P (i+1) l' e',
   fun y σ' H' xx144=>by obtain ⟨e',F',l',I',i',p'⟩:=xx144;exact ⟨ds.length-(i+1),by omega,rfl,hlt,e',F',l',I',i',by simp;omega,p'⟩,fun σ' H' xx143=>by obtain ⟨e',F',l',I',i',p'⟩:=xx143;exact ⟨ds.length-(i+1),by omega,rfl,hlt,e',F',l',I',i',by omega,p'⟩,fun x H3 hy=>?_⟩
  obtain ⟨d,F3,hd,g,j⟩:=jt.yld i H2 x H3 F2 g2.f g2.fh hlt hy
  refine ⟨_,e2,F3,d,_,I2.go g,j,turn i d l e2 hd p2,fun F4 H4 e4 σ4 I4 s4 h4=>⟨_,e4,F4,_,I4,h4,fun b F5 H5 e5 I5 s5 h5=>?_⟩⟩
  cases b with
  | true =>
   rw [if_pos rfl] at h5
   refine ⟨_,e5,F5,_,I5,h5,fun d6 v6 F6 H6 e6 I6 s6 i6 h6=>?_⟩
   exact ⟨e6,F6,l++[d6],I6,iss_append (((i2.mono (g.f.trans s4)).mono s5).mono s6) (iss_cons i6 iss_nil),h6⟩
  | false =>
   rw [if_neg Bool.false_ne_true] at h5
   exact ⟨e5,F5,l,I5,(i2.mono (g.f.trans s4)).mono s5,h5⟩
end
theorem vf_compIf {elt target iter cnd:Expr}{scope:Scope}{pos:Pos}{caps own:List Str}{ix:List Nat}{Wi:WF}{G:WG}{Wt:WT}{We:WE} (hc:X.calm=true) (S:CompScope X.env scope caps) (hi:VI X target iter Wi)
 (hg : ∀ pins s3 H ex,VG (blk X pins scope (caps++own) s3 H ex) target G) (ht : ∀ pins s3 H ex,VT (blk X pins scope (caps++own) s3 H ex) cnd Wt)
 (he : ∀ pins s3 H ex,VE (blk X pins scope (caps++own) s3 H ex) elt We)
 (hix:caps.length=ix.length:=by rfl) (hcapB:(caps.zip ix).all (fun p=>X.N[p.2]?==some p.1)=true:=by rfl)
  (hs : ∀ x,foldedSetIterable iter X.env x=pure x:=by intro _;rfl):VF X (.ListComp elt [⟨target,iter,[cnd],0⟩] scope pos) (wCompIf ix own.length Wi G Wt We) :=
  (pe_compIf (g:=liftG X.K G) (tt:=liftT X.K Wt) (te:=liftE X.K We) hc S hi hg he ht hix hcapB hs).imp fun _ _ _ h=>compIf_lift h
end
end L2
namespace L2
open PySem PySem.Spec PyProof.Rows
section
variable {X:Cx}
end
section
variable {X:Cx}{e:Expr}{We:WE}{pos:Pos}
variable {x:Str}{px apos cpos:Pos}
end
end L2
namespace L2
open PySem PySem.Spec PyProof.Rows
section
variable {prog:Program}{w:World}{A:Around}{E:Value→Shared→Prop}{s:Shared}
end
section
variable {X:Cx}{elts:List Expr}{x1:Nat}{tpos:Pos}
end
section
variable {X:Cx}{a:Expr}{W:WE}{p pos:Pos}
def insL {α:Type} (l:List α) (k:Nat) (y:α):List α:=l.take k++y::l.drop k
theorem Vals.ins {xs:List V}{us:List Value}{y:V}{u:Value} (k:Nat) (r:Vals xs us) (ry:RelV y u):Vals (insL xs k y) (insL us k u):=(r.take k).append (.cons ry (r.drop k))
def rInsert:V→List V→Hp→VK→Prop:=fun x vs H Q => ∃ l xs i y,x = .ref l∧vs=[.int i,y]∧H l=some (.lst xs)∧0≤i∧i≤xs.length∧xs.length<sizeLine∧Q .non (upd H l (.lst (insL xs i.toNat y)))
theorem mt_insert:MtM X "list.insert" rInsert:=by
 intro pins s σ H x vs v us Q I rx rv h
 obtain ⟨l,xs,i,y,rfl,rfl,hH,i0,i1,hz,q⟩:=h
 cases rx
 obtain ⟨u,w',rfl,ru,rw'⟩:=rv.two
 obtain ⟨t,rfl⟩:=ru
 obtain ⟨z,its,n,r,hl,e⟩:=I.lstM hH
 have hsl:sizeLine<2^62:=by decide
 refine call_meets F.slot_list_insert ⟨_,e,rfl⟩ F.entry_list_insert (F.args_list_insert_3 _ _ _) (AutoSeq1.list_insert_list_int_val_1 l its.toArray n i t w' (by rw [fitsIndex_both (by omega) (by omega)];decide) (by rw [List.size_toArray];omega)) ⟨e,?_⟩
 refine ⟨.non,_,I.lset (its':=insL its i.toNat w') hH e ?_ (Vals.ins i.toNat r rw') ?_,rfl,q⟩
 ·have hk:(if i<0 then (i+(its.toArray.size:Int)).toNat else min i.toNat its.toArray.size)=i.toNat:=by
   rw [if_neg (by omega),List.size_toArray,Nat.min_eq_left (by omega)]
  simp only [hk]
  unfold insL
  apply Array.toList_inj.mp
  simp
  exact List.take_of_length_le (by simp)
 ·unfold insL
  simp only [List.length_append,List.length_cons,List.length_take,List.length_drop]
  omega
theorem iss_ins {K:PySem.W.Frag}{H:Hp}{l:List PyData}{xs:List V}{d:PyData}{y:V} (k:Nat) (r:Iss K H l xs) (h:Is K H d y):Iss K H (insL l k d) (insL xs k y):=iss_append (iss_take k r) (iss_cons h (iss_drop k r))
variable {e1 e2:Expr}{W1 W2:WE}
def wIns (i:Nat) (W1 W2:WE):WS:=fun D env=>(gS env i).mut=true∧W1 env fun d e=>W2 e fun y e'=>match d with
 | .int n=>(gS e' i).mut=true∧(0≤n∧n≤(gS e' i).cnt.length∧(gS e' i).cnt.length<sizeLine)∧D.nx (e'.set i ((gS e' i).upd (insL (gS e' i).cnt n.toNat y)))
 | _=>False
theorem vs_insert (i:Nat) {x:Str}{px apos cpos:Pos} (h1:VE X e1 W1) (h2:VE X e2 W2) (hN:X.N[i]?=some x:=by rfl) (hv:Vis X.env.scope x:=by first|exact Or.inl rfl|exact Or.inr (Or.inl rfl)|exact Or.inr (Or.inr rfl)) (hd:(x==("__debug__" : Str))=false:=by decide)
 (hcd:(x==("__classdict__" : Str))=false:=by decide)
 (hbase:attributeBase (.Name x px) "insert" X.env (eval (.Name x px) X.env)=eval (.Name x px) X.env:=by rfl)
 (hfew:((backTo cpos (starEach [e1,e2] X.env)).all (fun x => !x.1)&&(backToKw cpos (keywordEach [] X.env)).all (fun x=>x.1.isSome)
  && decide ([e1,e2].length+([]:List Keyword).length+(if ([]:List Keyword).isEmpty then 0 else 1)<30))=true:=by rfl)
 (hline:(apos.endLine==cpos.line)=true:=by rfl) (hst:starEach [e1,e2] X.env=(false,eval e1 X.env)::starEach [e2] X.env:=by rfl) (hst2:starEach [e2] X.env=(false,eval e2 X.env)::starEach [] X.env:=by rfl) (hplain:(backTo cpos (starEach [e2] X.env)).any (·.1)=false:=by rfl)
 (hs:swapsWith (.Call (.Attribute (.Name x px) "insert" apos) [e1,e2] [] cpos) none pos.line X.env=pure false:=by rfl):VS X (.Expr (.Call (.Attribute (.Name x px) "insert" apos) [e1,e2] [] cpos) pos) (wIns i W1 W2) :=
 (ps_expr (pe_bm PySem.F.plainAttrs_list PySem.F.slot_list_insert PySem.F.type_list_insert mt_insert (pe_var hN hv hd hcd) (pa_cons h1 (pa_cons h2 pa_nil hst2) hst) hbase hfew hline hst hplain) hs).imp fun D σ H xx146=>by
  obtain ⟨M,env,F,DD,I,⟨hm,h⟩,k⟩:=xx146
  obtain ⟨p,vs,ep,g1,g2,g3,g4⟩:=(I.slot i).addr hm
  refine ⟨_,vS_some ep,.inl ⟨rfl,_,SqL.of g1⟩,M,env,F,_,I,h,fun d v F1 H1 e1 I1 s1 i1 h1=>⟨M,e1,F1,_,I1,h1,fun d2 v2 F2 H2 e2 I2 s2 i2 h2=>?_⟩⟩
  cases d with
  | int n =>
   obtain ⟨m1,⟨n0,n1,z1⟩,q1⟩:=h2
   obtain ⟨p',vs1,ep',f1,f2,f3,f4⟩:=(I2.slot i).addr m1
   rw [ep] at ep';injection ep' with ep';injection ep' with ep';subst ep'
   have fl:=f4.len
   exact ⟨p,vs1,n,v2,rfl,by rw [i1.int_inv],f1,n0,by omega,by omega,k.nx _ F2 _ σ (I2.chg m1 ep (iss_ins n.toNat f4 i2)) (s1.trans s2) q1⟩
  | _=>exact False.elim h2
def wPar (i j:Nat) (Wr:WF):WS:=fun D env=>Wr env fun ds e=>match ds with
 | [d,d']=>D.nx ((e.set i (.val d)).set j (.val d'))
 | _=>False
theorem vs_par {i j:Nat}{x y:Str}{a b:Expr}{Wr:WF}{px py pt pos:Pos}{kt k2 pt2} (hc:X.calm=true) (hN:X.N.Nodup) (ha:VA X [a,b] Wr) (hi:X.N[i]?=some x:=by rfl) (hj:X.N[j]?=some y:=by rfl) (hij:i≠j:=by decide)
 (hx:X.env.scope.names.lookup x=some .local:=by rfl) (hy:X.env.scope.names.lookup y=some .local:=by rfl)
 (hw:swappedStores [.Tuple [.Name x px,.Name y py] kt pt] (.Tuple [a,b] k2 pt2) X.env=pure (some [x,y]):=by rfl)
 (hs:swapsWithSole [.Tuple [.Name x px,.Name y py] kt pt] (.Tuple [a,b] k2 pt2) pos.line X.env=pure false:=by rfl) :
 VS X (.Assign [.Tuple [.Name x px,.Name y py] kt pt] (.Tuple [a,b] k2 pt2) pos) (wPar i j Wr) :=
 (ps_par hc hN hi hj hij hx hy ha hw hs).imp fun D σ H xx147=>by
  obtain ⟨M,env,F,DD,I,h,k⟩:=xx147
  refine ⟨M,env,F,_,I,h,fun ds vs F1 H1 e1 I1 s1 i1 h1=>?_⟩
  cases ds with
  | nil=>exact h1.elim
  | cons d r=>cases r with
   | nil=>exact h1.elim
   | cons d' r=>cases r with
    | cons _ _=>exact h1.elim
    | nil =>
     obtain ⟨v,w',rfl,j1,j2⟩:=iss2 i1
     exact ⟨v,w',rfl,k.nx _ F1 H1 _ ((I1.setv j1).setv j2) s1 h1⟩
end
end L2
namespace L2
open PySem PySem.Spec PyProof.Rows
section
variable {X:Cx}
end
end L2
namespace L2
open PySem PySem.Spec PyProof.Rows
section
variable {X:Cx}
end
end L2
namespace L2
open PySem PySem.Spec PyProof.Rows
section
variable {X:Cx}
end
section
variable {P:Program}{w:World}{K:PySem.W.Frag}{mg:Str→Option Value}{base:Heap}
end
end L2
namespace L2
open PySem PySem.Spec PyProof.Rows
section
variable {X:Cx}{elt target iter cnd:Expr}{scope:Scope}{pos:Pos}{caps own:List Str}{ix:List Nat}{wi:TI}{g:TG}{te:TE}{tt:TT}
end
section
variable {X:Cx}{elt target iter cnd:Expr}{scope:Scope}{pos py spos:Pos}{caps own:List Str}{ix:List Nat}{Wi:WF}{G:WG}{Wt:WT}{We:WE}{i:Nat}{y:Str}
end
end L2
namespace L2
open PySem PySem.Spec PyProof.Rows
section
variable {κ:Type} [DecidableEq κ]
def valV (kvs:List (κ×V)) (k:κ):Option V:=(kvs.find? fun kv=>decide (kv.1=k)).map (·.2)
def putK (kvs:List (κ×V)) (k:κ) (v:V):List (κ×V) :=
 if (kvs.any fun kv=>decide (kv.1=k))=true then kvs.map (fun kv=>if kv.1=k then (kv.1,v) else kv) else kvs++[(k,v)]
theorem valV_pos {p:κ×V}{r:List (κ×V)}{k:κ} (e:p.1=k):valV (p::r) k=some p.2:=by simp [valV,List.find?_cons,e]
theorem valV_neg {p:κ×V}{r:List (κ×V)}{k:κ} (e : ¬ p.1=k):valV (p::r) k=valV r k:=by simp [valV,List.find?_cons,e]
theorem valV_any (k:κ) : ∀ kvs:List (κ×V),(kvs.any fun kv=>decide (kv.1=k))=(valV kvs k).isSome
 | []=>rfl
 | p::r=>by
  rw [List.any_cons]
  by_cases e:p.1=k
  ·simp only [valV_pos e,decide_eq_true e,Bool.true_or,Option.isSome_some]
  ·rw [valV_neg e,decide_eq_false e,Bool.false_or];exact valV_any k r
theorem length_putK (kvs:List (κ×V)) (k:κ) (v:V):(putK kvs k v).length≤kvs.length+1:=by
 unfold putK
 split
 ·rw [List.length_map];omega
 ·rw [List.length_append,List.length_cons,List.length_nil];omega
theorem putK_new {kvs:List (κ×V)}{k:κ} (v:V) (h:valV kvs k=none):putK kvs k v=kvs++[(k,v)]:=by
 unfold putK
 rw [valV_any,h]
 exact if_neg (by decide)
theorem RelO.isSome_eq {o:Option V}{u:Option Value} (r:RelO o u):o.isSome=u.isSome:=by
 cases o with
 | none=>cases u with
  | none=>rfl
  | some _=>exact (show False from r).elim
 | some _=>cases u with
  | none=>exact (show False from r).elim
  | some _=>rfl
theorem KV.length {kvs:List (κ×V)}{vs:List (κ×Value)} (r:KV kvs vs):kvs.length=vs.length:=Paired.length r
end
theorem kV_is {P:Program}{w:World}{k:Key}{u:Value} (r:RelV (kV k) u):(mixKind P w).is k u=true:=by
 cases k with
 | inl i=>obtain ⟨t,e⟩:=(show ∃ t,u=Value.int i t from r);subst e;exact mixKind_int P w i t
 | inr x=>obtain ⟨t,e⟩:=(show ∃ t,u=Value.str x t from r);subst e;exact mixKind_str P w x t
theorem items_are {P:Program}{w:World} : ∀ {ks:List Key}{us:List Value},Vals (ks.map kV) us→ItemsAre (mixKind P w) ks us
 | [],_,r=>by rw [List.map_nil] at r;cases r;exact .nil
 | k::ks,_,r=>by
  rw [List.map_cons] at r
  cases r with
  | cons h t=>exact .cons (kV_is h) (items_are t)
abbrev KT (H:Hp):List (List Key×V)→List (List Key×Addr×Value)→Prop:=Paired fun p q=>p.1=q.1∧H q.2.1=some (.tup (p.1.map kV))∧RelV p.2 q.2.2
theorem KT.val {H:Hp}{kvs:List (List Key×V)}{xs:List (List Key×Addr×Value)} (r:KT H kvs xs) (k:List Key):RelO (valV kvs k) ((atKey xs k).map (·.2)):=by
 induction r with
 | nil=>exact True.intro
 | @cons p q ps qs h t ih =>
  obtain ⟨h1,_,h2⟩:=h
  by_cases e:p.1=k
  ·have e':q.1=k:=h1.symm.trans e
   have b:atKey (q::qs) k=some q.2:=by simp [atKey,List.find?_cons,e']
   rw [valV_pos e,b];exact h2
  ·have e' : ¬ q.1=k:=fun z=>e (h1.trans z)
   have b:atKey (q::qs) k=atKey qs k:=by simp [atKey,List.find?_cons,e']
   rw [valV_neg e,b];exact ih
theorem KT.repl {H:Hp}{kvs:List (List Key×V)}{xs:List (List Key×Addr×Value)} (r:KT H kvs xs) (k:List Key) {y:V}{u:Value} (ry:RelV y u) :
 KT H (kvs.map fun kv=>if kv.1=k then (kv.1,y) else kv) (xs.map (putAt k u)):=by
  induction r with
  | nil=>exact .nil
  | @cons p q ps qs h t ih =>
   rw [List.map_cons,List.map_cons]
   refine .cons ?_ ih
   obtain ⟨h1,h2,h3⟩:=h
   unfold putAt
   by_cases e:p.1=k
   ·rw [if_pos e,if_pos (h1.symm.trans e)];exact ⟨h1,h2,ry⟩
   ·rw [if_neg e,if_neg (fun z=>e (h1.trans z))];exact ⟨h1,h2,h3⟩
theorem KT.put {H:Hp}{kvs:List (List Key×V)}{xs:List (List Key×Addr×Value)} (r:KT H kvs xs) (k:List Key) {b:Addr}{y:V}{u:Value} (hb:H b=some (.tup (k.map kV))) (ry:RelV y u) :
 KT H (putK kvs k y) (storedH xs k b u):=by
  have e:(kvs.any fun kv=>decide (kv.1=k))=(atKey xs k).isSome:=by
   rw [valV_any,(r.val k).isSome_eq,Option.isSome_map]
  unfold putK storedH
  rw [e]
  by_cases q:(atKey xs k).isSome=true
  ·rw [if_pos q,if_pos q];exact r.repl k ry
  ·rw [if_neg q,if_neg q];exact Paired.snoc r ⟨rfl,hb,ry⟩
theorem KT.keeps {H H':Hp}{kvs:List (List Key×V)}{xs:List (List Key×Addr×Value)} (r:KT H kvs xs) (ht : ∀ b ys,H b=some (.tup ys)→H' b=some (.tup ys)):KT H' kvs xs :=
 Paired.mapP r fun _ _ z=>⟨z.1,ht _ _ z.2.1,z.2.2⟩
section
variable {P:Program}{w:World}{H:Hp}{h:Heap}{a:Addr}
theorem rd_of {u:HO} (ok:HOk P w H h) (e:Rd H a u):ObjOk P w H h a u:=e.ok ok
theorem dk_rd {kvs:List (Key×V)} (ok:HOk P w H h) (e:Rd H a (.dK kvs)):kvs.length≤sizeLine∧(a==sysModules)=false ∧ ∃ vs,KV kvs vs∧h.DictOf (mixKind P w) a vs :=
 show ObjOk P w H h a (.dK kvs) from rd_of ok e
theorem key_of {ks:List Key} (ok:HOk P w H h) (e:H a=some (.tup (ks.map kV))):(tupleKind (mixKind P w)).is h ks a:=by
 obtain ⟨_,its,r,o,h1,h2,n,h3⟩:=(show ObjOk P w H h a (.tup (ks.map kV)) from ok a _ e)
 exact ⟨o,its.toArray,n,h1,h2,h3,by simpa using items_are r⟩
theorem dt_rd {kvs:List (List Key×V)} (ok:HOk P w H h) (e:Rd H a (.dT kvs)):kvs.length≤sizeLine∧(a==sysModules)=false ∧
 ∃ xs,KT H kvs xs∧h.DictOfH (tupleKind (mixKind P w)) a xs:=by
  obtain ⟨z,y,xs,r,o,es,ep,h1,h2,h3,h4,h5⟩:=(show ObjOk P w H h a (.dT kvs) from rd_of ok e)
  refine ⟨z,y,xs,r,o,es,ep,h1,h2,h3,h4,fun x hx=>?_,h5⟩
  have all : ∀ {l:List (List Key×V)}{m:List (List Key×Addr×Value)},KT H l m → ∀ x ∈ m,(tupleKind (mixKind P w)).is h x.1 x.2.1:=by
   intro l m q
   induction q with
   | nil=>intro x hx;exact nomatch hx
   | @cons p q ps qs hq t ih =>
    intro x hx
    rcases List.mem_cons.mp hx with e|hx
    ·subst e
     exact key_of ok (by rw [← hq.1];exact hq.2.1)
    ·exact ih x hx
  exact all r x hx
theorem dt_of {kvs:List (List Key×V)} (ok:HOk P w H h) (e:H a=some (.dT kvs)):kvs.length≤sizeLine∧(a==sysModules)=false ∧
 ∃ xs,KT H kvs xs∧h.DictOfH (tupleKind (mixKind P w)) a xs:=dt_rd ok (.inl e)
end
section
variable {X:Cx}{pins:List (Addr×Obj)}{σ:St}{H:Hp}{s:Shared}{a:Addr}{y v:V}{u r:Value}{o:Option V}{A:Around}{E:Value→Shared→Prop}
theorem Inv.big (I:Inv X pins σ H s):sysModules<s.heap.objs.size:=by
 have h:mainGlobals<s.heap.objs.size:=(I.mod.glob.keeps I.bk).lt
 exact Nat.lt_trans (by decide) h
theorem d_write {h':Heap}{t':Nat}{ob:HO} (I:Inv X pins σ H s) (mu:Mut (H a)) (hs:Heap.SameBut a s.heap h') (he : ∃ q,h'.get? a=some q) (new:ObjOk X.prog X.w (upd H a ob) h' a ob) :
 Inv X pins σ (upd H a ob) { s with heap:=h',toks:=t' } :=
  I.write (x:=a) (e:=a) mu (.inl rfl) (fun b q hb z=>(hs.2 b hb).trans z) he new
end
section
variable {X:Cx}{pins:List (Addr×Obj)}{σ:St}{H:Hp}{s:Shared}{a:Addr}{kvs:List (Key×V)}{k:Key}{u:Value}{A:Around}{E:Value→Shared→Prop}
theorem d_len {Q:Value→Shared→Prop} (I:Inv X pins σ H s) (e:Rd H a (.dK kvs)) (h : ∀ t s',Inv X pins σ H s'→Q (.int kvs.length t) s'):wpAny (model X.prog X.w) A (call (.builtin "len") [.ref a]) Q E s:=by
 obtain ⟨z,hd,vs,rel,dd⟩:=dk_rd I.hok e
 refine call_len_dict hd dd (by rw [← rel.length];rw [sizeLine_eq] at z;omega) ?_
 rw [← rel.length]
 exact h _ _ (I.tok _)
end
def NoSl (i:Expr):Prop := ∀ ov iv,subscripted i false ov iv=operate [ov,iv] (getItem ov iv)
theorem subD_of {prog:Program}{w:World}{A:Around}{E:Value→Shared→Prop}{s:Shared}{env:Env}{value slice:Expr}{pos:Pos}{T id:String}{Q:Value→Shared→Prop}
 (hl:typeLookup (.type T) "__getitem__" = pure (some (.builtin id))) (hs:NoSl slice)
 (h:wpAny (model prog w) A (eval value env) (fun o s₁=>wpAny (model prog w) A (eval slice env) (fun i s₂=>s₂.TypeIs o T∧wpAny (model prog w) A (getItem o i) Q E s₂) E s₁) E s) :
 wpAny (model prog w) A (eval (.Subscript value slice pos) env) Q E s:=by
  refine Subscript_ (wpAny_mono h (fun o s₁ h₁=>wpAny_mono h₁ (fun i s₂ h₂=>?_) fun _ _ x=>x) fun _ _ x=>x)
  obtain ⟨hT,h₂⟩:=h₂
  unfold subscriptTail
  refine wpAny_bind ?_
  rw [getitemInPython_of_ne hT.not_modules]
  refine wpAny_bind (wpAny_specialOf hT hl ?_)
  have fin:wpAny (model prog w) A (subscripted slice false o i) (fun r s₃=>wpAny (model prog w) A (letTemporaryGo value o r >>= fun _=>pure r) Q E s₃) E s₂:=by
   rw [hs o i]
   exact wpAny_operating (wpAny_mono h₂ (fun r s₃ h₃=>wpAny_bind (wpAny_letTemporaryGo (wpAny_pure h₃))) fun _ _ x=>x)
  first
   | exact wpAny_pure (wpAny_bind fin)
   | exact wpAny_bind (wpAny_pure (wpAny_bind fin))
   | exact wpAny_bind fin
section
variable {X:Cx}{o i e value:Expr}{pos pos' tpos:Pos}{td ty tv:TE}
end
theorem dt_empty {P:Program}{w:World}{H:Hp} (h:Heap) (hb:sysModules<h.objs.size):ObjOk P w H (h.push { cls :=.type "dict",data :=.dict #[] }) h.objs.size (.dT []) :=
 ⟨Nat.zero_le _,beq_eq_false_iff_ne.mpr (Ne.symm (Nat.ne_of_lt hb)),[],.nil,_,#[],0,Heap.get?_push_size _ rfl,⟨rfl,rfl,rfl⟩,rfl,rfl,List.nodup_nil⟩
def tDNewT:TE:=fun _ H Q => ∀ p,H p=none→Q (.ref p) (upd H p (.dT []))
section
variable {X:Cx}{pos:Pos}
theorem pe_dnewT:PE X (.Dict [] [] pos) tDNewT:=fun pins s σ H Q I h =>
 wpAny_Dict_empty ⟨.ref s.heap.objs.size,_,I.laid (a:=s.heap.objs.size) (o :=.dT []) (t':=s.toks) (fun _ _ q=>Heap.get?_push_of_some _ q) (Nat.le_refl _) (dt_empty s.heap I.big),rfl,h _ (I.hok.fresh (Nat.le_refl _))⟩
end
structure M2 (X:Cx) (o:Expr) (m:Str) (apos:Pos) (e f:Expr) (cpos:Pos):Prop where
 base:attributeBase o m X.env (eval o X.env)=eval o X.env
 few:((backTo cpos (starEach [e,f] X.env)).all (fun x => !x.1)&&(backToKw cpos (keywordEach [] X.env)).all (fun x=>x.1.isSome)
  && decide (([e,f]:List Expr).length+([]:List Keyword).length+(if ([]:List Keyword).isEmpty then 0 else 1)<30))=true
 line:(apos.endLine==cpos.line)=true
 trees:backTo cpos (starEach [e,f] X.env)=[(false,eval e X.env),(false,eval f X.env)]
def IsD (H:Hp) (a:Addr):Prop:=(∃ kvs,Rd H a (.dK kvs)) ∨ ∃ kvs,Rd H a (.dT kvs)
theorem isD_at {X:Cx}{pins:List (Addr×Obj)}{σ:St}{H:Hp}{s:Shared}{a:Addr} (I:Inv X pins σ H s) (d:IsD H a) :
 s.TypeIs (.ref a) "dict" ∧ (∀ b,Value.ref a = .ref b → ∃ ob,s.heap.get? b=some ob∧ob.dict=none)∧(a==sysModules)=false:=by
  rcases d with ⟨kvs,e⟩|⟨kvs,e⟩
  ·obtain ⟨_,hd,vs,_,dd⟩:=dk_rd I.hok e
   refine ⟨dd.typeIs,fun b q=>?_,hd⟩
   cases q
   obtain ⟨ob,_,_,h1,h2,_⟩:=dd
   exact ⟨ob,h1,h2.2.1⟩
  ·obtain ⟨_,hd,xs,_,dd⟩:=dt_rd I.hok e
   refine ⟨dd.typeIs,fun b q=>?_,hd⟩
   cases q
   obtain ⟨ob,_,_,h1,h2,_⟩:=dd
   exact ⟨ob,h1,h2.2.1⟩
section
variable {X:Cx}{pins:List (Addr×Obj)}{σ:St}{H:Hp}{s:Shared}{a:Addr}{y d:V}{u r:Value}{o:Option V}{A:Around}{E:Value→Shared→Prop}
end
section
variable {X:Cx}{o e f:Expr}{apos cpos:Pos}{td ty tx:TE}
end
end L2
namespace L2
open PySem PySem.Spec PyProof.Rows
section
variable {X:Cx}
end
end L2
namespace L2
open PySem PySem.Spec PyProof.Rows
section
variable {P:Program}{w:World}{K:PySem.W.Frag}{mg:Str→Option Value}{base:Heap}
end
section
variable {X:Cx}
end
end L2
namespace L2
open PySem PySem.Spec PyProof.Rows
section
variable {X:Cx}
theorem VE.pe {e:Expr}{W:WE} (h:VE X e W):PE X e (liftE X.K W):=h
theorem VT.pt {e:Expr}{W:WT} (h:VT X e W):PT X e (liftT X.K W):=h
theorem VS.ps {st:Stmt}{W:WS} (h:VS X st W):PS X st (liftS X.K W):=h
end
mutual
def flatD:PyData→Bool
 | .list _=>false
 | .dict _=>false
 | .tuple l=>flatDs l
 | _=>true
def flatDs:List PyData→Bool
 | []=>true
 | d::l=>flatD d&&flatDs l
end
mutual
theorem Is.off {K:PySem.W.Frag}{F:Hp}{a:Addr}{xs:List V} (hF:F a=some (.lst xs)) : ∀ {d:PyData}{v:V},flatD d=true→Is K F d v→Is K (offA F a) d v
 | .none,_,_,h=>by unfold Is at h ⊢;exact h
 | .bool _,_,_,h=>by unfold Is at h ⊢;exact h
 | .int _,_,_,h=>by unfold Is at h ⊢;exact h
 | .str _,_,_,h=>by unfold Is at h ⊢;exact h
 | .list l,_,z,h=>by simp [flatD] at z
 | .dict l,_,z,h=>by simp [flatD] at z
 | .tuple l,_,z,h=>by
  unfold Is at h ⊢
  obtain ⟨b,ys,e,q,r⟩:=h
  refine ⟨b,ys,e,?_,Iss.off hF (by simpa [flatD] using z) r⟩
  rcases q with q|q
  ·refine .inl ?_
   rcases q with q|⟨o,q⟩
   ·refine .inl ?_
    unfold offA
    rw [if_neg (fun y=>by subst y;rw [hF] at q;cases q)];exact q
   ·refine .inr ⟨o,?_⟩
    unfold offA
    rw [if_neg (fun y=>by subst y;rw [hF] at q;cases q)];exact q
  ·exact .inr q
theorem Iss.off {K:PySem.W.Frag}{F:Hp}{a:Addr}{xs:List V} (hF:F a=some (.lst xs)) : ∀ {l:List PyData}{vs:List V},flatDs l=true→Iss K F l vs→Iss K (offA F a) l vs
 | [],_,_,h=>by unfold Iss at h ⊢;exact h
 | d::l,_,z,h=>by
  unfold Iss at h ⊢
  obtain ⟨x,r,e,p,q⟩:=h
  have z':flatD d=true∧flatDs l=true:=by simpa [flatDs] using z
  exact ⟨x,r,e,Is.off hF z'.1 p,Iss.off hF z'.2 q⟩
end
section
variable {X:Cx}
end
end L2
namespace L2
open PySem PySem.Spec PyProof.Rows
theorem same_upd {F H:Hp}{a:Addr}{o:HO} (s:Same F H) (h:H a=some o):Same (upd F a o) H:=fun b u e=>by
 by_cases z:b=a
 ·subst z;rw [upd_same] at e;exact .of (by rw [← e];exact h)
 ·rw [upd_ne z] at e;exact s b u e
theorem same_fz {F H:Hp}{a:Addr}{o:HO} (s:Same F H) (h:H a=some o):Same F (upd F a o):=fun b u e=>by
 by_cases z:b=a
 ·subst z
  rw [upd_same]
  have:=s _ _ e
  rw [h] at this;exact this
 ·rw [upd_ne z];exact .of e
theorem go_none {F H F' H':Hp}{a:Addr}{o:HO} (g:Go F H F' H') (h:H a=some o) (f:F a=none):F' a=none:=by
 cases e:F' a with
 | none=>rfl
 | some u =>
  rcases g.new a u e with q|q
  ·rw [f] at q;cases q
  ·rw [h] at q;cases q
theorem go_fz {F H F' H':Hp}{b:Addr}{o:HO} (g:Go F H F' H') (hb:H b=none) (h':H' b=some o):Go F H (upd F' b o) H' where
 f:=g.f.trans (same_fz g.fh h')
 h:=g.h
 fh:=same_upd g.fh h'
 new:=fun c u e=>by
  by_cases z:c=b
  ·subst z;exact .inr hb
  ·rw [upd_ne z] at e;exact g.new c u e
section
variable {K:PySem.W.Frag}{M:Frm}{F H:Hp}
def Slots (K:PySem.W.Frag) (M:Frm) (F H:Hp):Sto→St→Prop
 | [],σ=>σ=[]
 | s::e,σ => ∃ x r,σ=x::r∧(SlotOk K M F H s x∧s.mut=false)∧Slots K M F H e r
theorem Slots.len : ∀ {e:Sto}{σ:St},Slots K M F H e σ→e.length=σ.length
 | [],σ,h=>by
  have h:σ=[]:=h
  subst h;rfl
 | s::e,σ,h=>by
  obtain ⟨x,r,rfl,_,h⟩:=h
  rw [List.length_cons,List.length_cons,Slots.len h]
theorem Slots.at : ∀ {e:Sto}{σ:St},Slots K M F H e σ → ∀ i,SlotOk K M F H (gS e i) (vS σ i)∧(gS e i).mut=false
 | [],σ,h,i=>by
  rw [gS_out (Nat.zero_le _)]
  exact ⟨trivial,rfl⟩
 | s::e,σ,h,0=>by
  obtain ⟨x,r,rfl,q,h⟩:=h
  exact q
 | s::e,σ,h,i+1=>by
  obtain ⟨x,r,rfl,q,h⟩:=h
  have e1:vS (x::r) (i+1)=vS r i:=by unfold vS;rw [List.getElem?_cons_succ]
  rw [e1]
  exact Slots.at h i
theorem env_of {env:Sto}{σ:St} (s:Same F H) (h:Slots K ⟨H,H,F⟩ F H env σ):EnvOk K ⟨H,H,F⟩ F H env σ where
 len:=h.len
 slot:=fun i=>(h.at i).1
 dis:=fun i j a _ m _ _ _=>by rw [(h.at i).2] at m;cases m
 f0 :=.refl _
 fe:=s
 fh:=s
 bh :=.refl _
 new:=fun b o e => .inl e
 dom:=fun b o e=>⟨o,e⟩
end
section
variable {X:Cx}
theorem VN.pe {e:Expr}{W:WE} (h:VN X e W):PE X e (liftN X.K W):=h
theorem VA.pa {es:List Expr}{W:WF} (h:VA X es W):PA X es (liftA X.K W):=h
end
section
variable {X:Cx}
end
end L2
namespace L2
open PySem PySem.Spec PyProof.Rows
section
variable {X:Cx}
theorem VI.pi {tg e:Expr}{W:WF} (h:VI X tg e W):PI X tg e (liftI X.K W):=h
end
theorem lift_step {K:PySem.W.Frag}{W:WS}{D:Ends}{σ:St}{H:Hp}{M:Frm}{env:Sto}{F:Hp} (P:Sto→Prop) (I:EnvOk K M F H env σ) (hW:W { nx:=P,rt:=fun _ _=>False } env) (k : ∀ env' F' H' σ',EnvOk K M F' H' env' σ'→Same F F'→P env'→D.nx σ' H'):liftS K W D σ H :=
 ⟨M,env,F,_,I,hW,⟨k,fun _ _ _ _ _ _ _ _ _ q=>q.elim,fun _ _ _ _ _ _ q=>q.elim,fun _ _ _ _ _ _ q=>q.elim⟩⟩
theorem for_raw {K:PySem.W.Frag}{Wi:WF}{i0:Nat}{tb:TS}{D:Ends}{σ:St}{H:Hp}{env:Sto}{F:Hp}{ds0:List PyData} (I:EnvOk K ⟨H,H,F⟩ F H env σ) (hW:Wi env fun ds e=>ds=ds0) (W:Hp→Nat→St→Hp→Prop)
 (start : ∀ F1 H1,Go F H F1 H1→W F1 0 σ H1) (same : ∀ F2 i σ H,W F2 i σ H→Same F2 H)
 (turn : ∀ F2 i σ2 H2 d x F3 H3,W F2 i σ2 H2→ds0[i]?=some d→Go F2 H2 F3 H3→Is K F3 d x→tb { D with nx:=fun σ' H' => ∃ F4,Same F2 F4∧W F4 (i+1) σ' H',ct:=fun σ' H' => ∃ F4,Same F2 F4∧W F4 (i+1) σ' H',bk:=D.nx } (σ2.set i0 (some x)) H3)
  (fin : ∀ F2 σ H,W F2 ds0.length σ H→D.nx σ H):tFor (liftI K Wi) (gName i0) tb D σ H:=by
  refine ⟨⟨H,H,F⟩,env,F,_,I,hW,fun ds J F1 H1 e1 I1 s1 jt q=>?_⟩
  have q:ds=ds0:=q
  subst q
  refine ⟨fun i m σ' H'=>m=ds.length-i∧i≤ds.length ∧ ∃ F2,Same F1 F2∧W F2 i σ' H',⟨ds.length,by simp,Nat.zero_le _,F1,.refl _,start F1 H1 I1.goOf⟩,fun i m σ2 H2 z=>?_⟩
  obtain ⟨hm,hi,F2,s2,w⟩:=z
  have sh:=s2.trans (same _ _ _ _ w)
  by_cases hl:i=ds.length
  ·subst hl
   exact .inl ⟨jt.stop H2 sh,fin F2 σ2 H2 w⟩
  ·have hlt:i<ds.length:=by omega
   refine .inr ⟨jt.go i H2 sh hlt,fun σ' H' => ∃ F4,Same F2 F4∧W F4 (i+1) σ' H',fun σ' H' z=>?_,fun x H3 hy=>?_⟩
   ·obtain ⟨F4,a,c⟩:=z
    exact ⟨ds.length-(i+1),by omega,rfl,hlt,F4,s2.trans a,c⟩
   obtain ⟨d,F3,hd,g,j⟩:=jt.yld i H2 x H3 F2 s2 (same _ _ _ _ w) hlt hy
   exact turn F2 i σ2 H2 d x F3 H3 w hd g j
end L2
namespace L2
open PySem PySem.Spec PyProof.Rows
section
variable {X:Cx}
end
end L2
namespace L2
open PySem PySem.Spec PyProof.Rows
section
variable {X:Cx}{e:Expr}{We:WE}{pos:Pos}
end
end L2
namespace L2
open PySem PySem.Spec PyProof.Rows
section
variable {X:Cx}
end
end L2
namespace L2
open PySem PySem.Spec PyProof.Rows
section
variable {X:Cx}{pos:Pos}
end
end L2
namespace L2
open PySem PySem.Spec PyProof.Rows
mutual
def flatN:PyData→Bool
 | .list _=>false
 | .dict _=>false
 | .tuple l=>flatNs l
 | _=>true
def flatNs:List PyData→Bool
 | []=>true
 | d::l=>flatN d&&flatNs l
end
mutual
theorem is_off {K:PySem.W.Frag}{F:Hp}{a:Addr}{vs:List V} (h:F a=some (.lst vs)) : ∀ {d:PyData}{v:V},flatN d=true→Is K F d v→Is K (offA F a) d v
 | .none,_,_,i=>by unfold Is at i ⊢;exact i
 | .bool _,_,_,i=>by unfold Is at i ⊢;exact i
 | .int _,_,_,i=>by unfold Is at i ⊢;exact i
 | .str _,_,_,i=>by unfold Is at i ⊢;exact i
 | .list l,_,z,_=>by unfold flatN at z;cases z
 | .dict l,_,z,_=>by unfold flatN at z;cases z
 | .tuple l,_,z,i=>by
  unfold flatN at z
  unfold Is at i ⊢
  obtain ⟨b,xs,e,q,r⟩:=i
  refine ⟨b,xs,e,?_,iss_off h z r⟩
  rcases q with (q|⟨o,q⟩)|q
  ·exact .inl (.inl (by unfold offA;rw [if_neg (fun c=>by rw [c,h] at q;cases q)];exact q))
  ·exact .inl (.inr ⟨o,by unfold offA;rw [if_neg (fun c=>by rw [c,h] at q;cases q)];exact q⟩)
  ·exact .inr q
theorem iss_off {K:PySem.W.Frag}{F:Hp}{a:Addr}{vs:List V} (h:F a=some (.lst vs)) : ∀ {l:List PyData}{xs:List V},flatNs l=true→Iss K F l xs→Iss K (offA F a) l xs
 | [],_,_,i=>by unfold Iss at i ⊢;exact i
 | d::l,_,z,i=>by
  unfold flatNs at z
  rw [Bool.and_eq_true] at z
  unfold Iss at i ⊢
  obtain ⟨x,r,e,p,q⟩:=i
  exact ⟨x,r,e,is_off h z.1 p,iss_off h z.2 q⟩
end
section
variable {X:Cx}
end
end L2
namespace L2
open PySem PySem.Spec PyProof.Rows
section
variable {X:Cx}{Ex:St→XK}{a b:Expr}{rest:List Expr}{pos:Pos}{Wa Wx2:WX→WE}{Wb:WE}
end
end L2
namespace L2
open PySem PySem.Spec PyProof.Rows
section
variable {X:Cx}
theorem boot_any:bootBuiltins "any" = some (.builtin "any"):=by decide +kernel
end
section
variable {X:Cx}{elt target iter cnd:Expr}{scope:Scope}{pos py spos:Pos}{caps own:List Str}{ix:List Nat}{Wi:WF}{G:WG}{Wt:WT}{We:WE}{i:Nat}{y:Str}
end
end L2
namespace L2
open PySem PySem.Spec PyProof.Rows
section
variable {X:Cx}{b:Expr}{Wb:WE}{pos px:Pos}
end
end L2
namespace L2
open PySem PySem.Spec PyProof.Rows
section
variable {X:Cx}{Ex:St→XK}{pos:Pos}{Wt:WX→WS}
end
end L2
namespace L2
open PySem PySem.Spec PyProof.Rows PySem.W
structure OrdN (n:Nat) (lt:Nat→Nat→Bool):Prop where
 irr : ∀ i,lt i i=false
 tr : ∀ i j k,i<n→j<n→k<n→lt i j=true→lt j k=true→lt i k=true
 tot : ∀ i j,i<n→j<n→i≠j→lt i j=true∨lt j i=true
structure PmN (n:Nat) (p:Array Nat):Prop where
 s:p.size=n
 p:p.toList.Perm (List.range n)
section
variable {n:Nat}{lt:Nat→Nat→Bool}{p:Array Nat}
theorem PmN.get (h:PmN n p) {k:Nat} (hk:k<n):p[k]?=some (p.getD k 0):=by
 have:k<p.size:=by rw [h.s];exact hk
 rw [Array.getElem?_eq_getElem this]
 simp [Array.getD,this]
theorem PmN.bd (h:PmN n p) {k:Nat} (hk:k<n):p.getD k 0<n:=by
 have e:=h.get hk
 have:p.getD k 0 ∈ p.toList:=by
  rw [← Array.getElem?_toList] at e
  exact List.mem_of_getElem? e
 exact List.mem_range.mp (h.p.mem_iff.mp this)
theorem PmN.inj (h:PmN n p) {i j:Nat} (hi:i<n) (hj:j<n) (ne:i≠j):p.getD i 0≠p.getD j 0:=fun z=>by
 have nd:p.toList.Nodup:=(h.p.nodup_iff).mpr List.nodup_range
 have e1:=h.get hi
 have e2:=h.get hj
 rw [← Array.getElem?_toList] at e1 e2
 rw [z] at e1
 have l1:i<p.toList.length:=by rw [Array.length_toList,h.s];exact hi
 exact ne ((List.getElem?_inj l1 nd).mp (by rw [e1,e2]))
theorem PmN.of (h:PmN n p) {q:Array Nat} (hq:q.Perm p):PmN n q:=by
 have e:=Array.perm_iff_toList_perm.mp hq
 refine ⟨?_,e.trans h.p⟩
 rw [← h.s]
 have:=e.length_eq
 rw [Array.length_toList,Array.length_toList] at this
 exact this
def SrtN (lt:Nat→Nat→Bool) (p:Array Nat) (m:Nat):Prop := ∀ k,1≤k→k<m→lt (p.getD (k-1) 0) (p.getD k 0)=true
def DscN (lt:Nat→Nat→Bool) (p:Array Nat) (m:Nat):Prop := ∀ k,1≤k→k<m→lt (p.getD k 0) (p.getD (k-1) 0)=true
theorem SrtN.pair (o:OrdN n lt) (h:PmN n p) {m:Nat} (hm:m≤n) (s:SrtN lt p m) {i:Nat} : ∀ (d:Nat),i+d+1<m→lt (p.getD i 0) (p.getD (i+d+1) 0)=true
 | 0,hd=>by have:=s (i+1) (by omega) (by omega);exact this
 | d+1,hd=>by
  have a:=SrtN.pair o h hm s (i:=i) d (by omega)
  have b:=s (i+d+2) (by omega) (by omega)
  exact o.tr _ _ _ (h.bd (by omega)) (h.bd (by omega)) (h.bd (by omega)) a b
theorem SrtN.lt2 (o:OrdN n lt) (h:PmN n p) {m:Nat} (hm:m≤n) (s:SrtN lt p m) {i j:Nat} (hij:i<j) (hj:j<m):lt (p.getD i 0) (p.getD j 0)=true:=by
 have:=SrtN.pair o h hm s (i:=i) (j-i-1) (by omega)
 rw [show i+(j-i-1)+1=j by omega] at this
 exact this
theorem OrdN.flip (o:OrdN n lt) {i j:Nat} (hi:i<n) (hj:j<n) (ne:i≠j) (a:lt i j=false):lt j i=true:=by
 rcases o.tot i j hi hj ne with z|z
 ·rw [a] at z;cases z
 ·exact z
theorem rev_get {m k:Nat} (h:PmN n p) (hm:m≤n) (hk:k<n):(kas_rev p 0 m).getD k 0=if k<m then p.getD (m-1-k) 0 else p.getD k 0:=by
 have hz:(kas_rev p 0 m).size=n:=by unfold kas_rev;rw [mirror_size];exact h.s
 have e:(kas_rev p 0 m)[k]?=some ((kas_rev p 0 m).getD k 0):=by
  have:k<(kas_rev p 0 m).size:=by rw [hz];exact hk
  rw [Array.getElem?_eq_getElem this]
  simp [Array.getD,this]
 have e2:=getElem?_mirror_all (xs:=p) (i:=0) (j:=m) (by rw [h.s];exact hm) k
 have e3:(kas_rev p 0 m)[k]?=if 0≤k∧k<m then p[0+m-1-k]? else p[k]?:=e2
 rw [e] at e3
 by_cases q:k<m
 ·rw [if_pos ⟨Nat.zero_le _,q⟩,show 0+m-1-k=m-1-k by omega,h.get (show m-1-k<n by omega)] at e3
  rw [if_pos q]
  exact Option.some.inj e3
 ·rw [if_neg (by omega),h.get hk] at e3
  rw [if_neg q]
  exact Option.some.inj e3
theorem rev_pm {m:Nat} (h:PmN n p):PmN n (kas_rev p 0 m):=h.of (mirror_perm _ _ _ _)
theorem rev_srt {m:Nat} (h:PmN n p) (hm:m≤n) (d:DscN lt p m):SrtN lt (kas_rev p 0 m) m:=fun k h1 h2=>by
 rw [rev_get h hm (by omega),rev_get h hm (by omega),if_pos (by omega),if_pos h2]
 have:=d (m-k) (by omega) (by omega)
 rw [show m-1-(k-1)=m-k by omega,show m-1-k=m-k-1 by omega]
 exact this
end
section
variable {n:Nat}{lt:Nat→Nat→Bool}{cmp:Nat→Nat→(Bool→Shared→Prop)→Shared→Prop}{s:Shared}
theorem asc_wp (o:OrdN n lt) (hc : ∀ i j C,i<n→j<n→C (lt i j) s→cmp i j C s) {p:Array Nat} (h:PmN n p) {Q:Nat→Shared→Prop} : ∀ (f a:Nat),1≤a→a+f≤n→SrtN lt p a→(∀ m,a≤m→m≤a+f→SrtN lt p m→(m<a+f→lt (p.getD m 0) (p.getD (m-1) 0)=true)→Q m s)→(kas_asc p f a).kasWp cmp Q s
 | 0,a,h1,h2,hS,k=>k a (Nat.le_refl _) (by omega) hS (by omega)
 | f+1,a,h1,h2,hS,k=>by
  refine hc _ _ _ (h.bd (by omega)) (h.bd (by omega)) ?_
  cases e:lt (p.getD a 0) (p.getD (a-1) 0) with
  | true=>exact k a (Nat.le_refl _) (by omega) hS (fun _=>e)
  | false =>
   show (kas_asc p f (a+1)).kasWp cmp Q s
   refine asc_wp o hc h f (a+1) (by omega) (by omega) (fun k' q1 q2=>?_) fun m m1 m2 m3 m4=>k m (by omega) (by omega) m3 (fun z=>m4 (by omega))
   by_cases z:k'<a
   ·exact hS k' q1 z
   ·have:k'=a:=by omega
    subst this
    exact o.flip (h.bd (by omega)) (h.bd (by omega)) (h.inj (by omega) (by omega) (by omega)) e
theorem desc_wp (o:OrdN n lt) (hc : ∀ i j C,i<n→j<n→C (lt i j) s→cmp i j C s) {p:Array Nat} (h:PmN n p) {Q:Array Nat×Nat×Nat→Shared→Prop} : ∀ (f a:Nat),1≤a→a+f≤n→DscN lt p a→(∀ m,a≤m→m≤a+f→DscN lt p m→Q (p,m,0) s)→(kas_desc f p a 0).kasWp cmp Q s
 | 0,a,h1,h2,hS,k=>k a (Nat.le_refl _) (by omega) hS
 | f+1,a,h1,h2,hS,k=>by
  refine hc _ _ _ (h.bd (by omega)) (h.bd (by omega)) ?_
  cases e:lt (p.getD a 0) (p.getD (a-1) 0) with
  | true =>
   show (kas_desc f p (a+1) 0).kasWp cmp Q s
   refine desc_wp o hc h f (a+1) (by omega) (by omega) (fun k' q1 q2=>?_) fun m m1 m2 m3=>k m (by omega) (by omega) m3
   by_cases z:k'<a
   ·exact hS k' q1 z
   ·have:k'=a:=by omega
    subst this
    exact e
  | false =>
   refine hc _ _ _ (h.bd (by omega)) (h.bd (by omega)) ?_
   rw [o.flip (h.bd (by omega)) (h.bd (by omega)) (h.inj (by omega) (by omega) (by omega)) e]
   exact k a (Nat.le_refl _) (by omega) hS
theorem tail_wp (o:OrdN n lt) (hc : ∀ i j C,i<n→j<n→C (lt i j) s→cmp i j C s) {p:Array Nat} (h:PmN n p) {Q:Nat×Array Nat→Shared→Prop}{m:Nat} (h1:1≤m) (hm:m≤n) (d:DscN lt p m) (k : ∀ m' p',m'≤n→PmN n p'→SrtN lt p' m'→Q (m',p') s):(kas_tail3 m n p).kasWp cmp Q s:=by
 unfold kas_tail3
 rw [KasT.kasWp_bind]
 exact asc_wp o hc (rev_pm h) _ _ h1 (by omega) (rev_srt h hm d) fun m' q1 q2 q3 _=>k m' _ (by omega) (rev_pm h) q3
theorem count_wp (o:OrdN n lt) (hc : ∀ i j C,i<n→j<n→C (lt i j) s→cmp i j C s) {p:Array Nat} (h:PmN n p) (hn:2≤n) {Q:Nat×Array Nat→Shared→Prop} (k : ∀ m' p',m'≤n→PmN n p'→SrtN lt p' m'→Q (m',p') s):(kas_count n p).kasWp cmp Q s:=by
 unfold kas_count
 rw [KasT.kasWp_bind]
 refine asc_wp o hc h _ 1 (Nat.le_refl _) (by omega) (fun k' q1 q2=>by omega) fun m m1 m2 m3 m4=>?_
 by_cases e:m=n
 ·subst e
  rw [if_pos (beq_self_eq_true m)]
  exact k m p (Nat.le_refl _) h m3
 ·rw [if_neg (by simpa using e)]
  by_cases g:m>1
  ·rw [if_pos g]
   refine hc _ _ _ (h.bd (by omega)) (h.bd (by omega)) ?_
   rw [m3.lt2 o h (show m≤n by omega) (show 0<m-1 by omega) (by omega)]
   exact k m p (by omega) h m3
  ·rw [if_neg g]
   have e1:m=1:=by omega
   subst e1
   unfold kas_descPart
   rw [KasT.kasWp_bind]
   have d2:DscN lt p 2:=fun k' q1 q2=>by
    have:k'=1:=by omega
    subst this
    exact m4 (by omega)
   exact desc_wp o hc h (n-2) 2 (by omega) (by omega) d2 fun m' q1 q2 q3=>show (kas_tail3 m' n p).kasWp cmp Q s from tail_wp o hc h (by omega) (by omega) q3 k
theorem place_wp (o:OrdN n lt) (hc : ∀ i j C,i<n→j<n→C (lt i j) s→cmp i j C s) {p:Array Nat} (h:PmN n p) {Q:Nat→Shared→Prop}{k:Nat} (hk:k<n) (hS:SrtN lt p k)
 (q : ∀ l,l≤k→(∀ i,i<l→lt (p.getD i 0) (p.getD k 0)=true)→(∀ i,l≤i→i<k→lt (p.getD k 0) (p.getD i 0)=true)→Q l s) : ∀ (f l r:Nat),l≤r→r≤k→r-l≤f→(∀ i,i<l→lt (p.getD i 0) (p.getD k 0)=true)→(∀ i,r≤i→i<k→lt (p.getD k 0) (p.getD i 0)=true)→(kas_place p k f l r).kasWp cmp Q s
  | 0,l,r,h1,h2,h3,h4,h5=>q l (by omega) h4 (fun i a b=>h5 i (by omega) b)
  | f+1,l,r,h1,h2,h3,h4,h5=>by
   unfold kas_place
   by_cases z:l≥r
   ·rw [if_pos z];exact q l (by omega) h4 (fun i a b=>h5 i (by omega) b)
   ·rw [if_neg z]
    have c1:(l+r)/2<k:=by omega
    refine hc _ _ _ (h.bd hk) (h.bd (by omega)) ?_
    cases e:lt (p.getD k 0) (p.getD ((l+r)/2) 0) with
    | true =>
     show (kas_place p k f l ((l+r)/2)).kasWp cmp Q s
     refine place_wp o hc h hk hS q f l _ (by omega) (by omega) (by omega) h4 fun i a b=>?_
     by_cases z:i=(l+r)/2
     ·rw [z];exact e
     ·exact o.tr _ _ _ (h.bd hk) (h.bd (by omega)) (h.bd (by omega)) e (hS.lt2 o h (by omega) (show (l+r)/2<i by omega) b)
    | false =>
     show (kas_place p k f ((l+r)/2+1) r).kasWp cmp Q s
     have e':=o.flip (h.bd hk) (h.bd (show (l+r)/2<n by omega)) (h.inj hk (by omega) (by omega)) e
     refine place_wp o hc h hk hS q f _ r (by omega) h2 (by omega) (fun i a=>?_) h5
     by_cases z:i=(l+r)/2
     ·rw [z];exact e'
     ·exact o.tr _ _ _ (h.bd (by omega)) (h.bd (by omega)) (h.bd hk) (hS.lt2 o h (by omega) (show i<(l+r)/2 by omega) c1) e'
theorem bub_get {p:Array Nat} (h:PmN n p) {k l i:Nat} (hk:k<n) (hl:l≤k) (hi:i<n):(bubble p k (k-l)).getD i 0=if i=l then p.getD k 0 else if l<i∧i≤k then p.getD (i-1) 0 else p.getD i 0:=by
 have hz:(bubble p k (k-l)).size=n:=by rw [bubble_size];exact h.s
 have e:(bubble p k (k-l))[i]?=some ((bubble p k (k-l)).getD i 0):=by
  have:i<(bubble p k (k-l)).size:=by rw [hz];exact hi
  rw [Array.getElem?_eq_getElem this]
  simp [Array.getD,this]
 have e2:=getElem?_bubble (xs:=p) (src:=k) (by rw [h.s];exact hk) (k-l) (by omega) i
 rw [e,show k-(k-l)=l by omega] at e2
 by_cases q1:i=l
 ·rw [if_pos q1,h.get hk] at e2
  rw [if_pos q1];exact Option.some.inj e2
 ·rw [if_neg q1] at e2
  rw [if_neg q1]
  by_cases q2:l<i∧i≤k
  ·rw [if_pos q2,h.get (show i-1<n by omega)] at e2
   rw [if_pos q2];exact Option.some.inj e2
  ·rw [if_neg q2,h.get hi] at e2
   rw [if_neg q2];exact Option.some.inj e2
theorem bin_wp (o:OrdN n lt) (hc : ∀ i j C,i<n→j<n→C (lt i j) s→cmp i j C s) {Q:Array Nat→Shared→Prop} (q : ∀ p,PmN n p→SrtN lt p n→Q p s) : ∀ (f:Nat) (p:Array Nat) (k:Nat),PmN n p→1≤k→k+f=n→SrtN lt p k→(kas_bin f p k).kasWp cmp Q s
 | 0,p,k,h,_,e,hS=>by
  have:k=n:=by omega
  subst this
  exact q p h hS
 | f+1,p,k,h,h1,e,hS=>by
  unfold kas_bin
  rw [KasT.kasWp_bind]
  have hk:k<n:=by omega
  refine place_wp o hc h hk hS (fun l hl a b=>?_) k 0 k (Nat.zero_le _) (Nat.le_refl _) (by omega) (fun i z=>by omega) (fun i z1 z2=>by omega)
  refine bin_wp o hc q f _ (k+1) (h.of (bubble_perm _ _ _)) (by omega) (by omega) fun i i1 i2=>?_
  rw [bub_get h hk hl (show i-1<n by omega),bub_get h hk hl (show i<n by omega)]
  by_cases c1:i<l
  ·rw [if_neg (by omega),if_neg (by omega),if_neg (by omega),if_neg (by omega)]
   exact hS i i1 (by omega)
  ·by_cases c2:i=l
   ·rw [if_neg (by omega),if_neg (by omega),if_pos c2]
    exact a (i-1) (by omega)
   ·by_cases c3:i-1=l
    ·rw [if_pos c3,if_neg c2,if_pos ⟨by omega,by omega⟩]
     exact b (i-1) (by omega) (by omega)
    ·rw [if_neg c3,if_pos ⟨by omega,by omega⟩,if_neg c2,if_pos ⟨by omega,by omega⟩]
     exact hS (i-1) (by omega) (by omega)
theorem sort_wp (o:OrdN n lt) (hc : ∀ i j C,i<n→j<n→C (lt i j) s→cmp i j C s) (hn:2≤n) {Q:Array Nat→Shared→Prop} (q : ∀ p,PmN n p→SrtN lt p n→Q p s):(kas_sort n).kasWp cmp Q s:=by
 unfold kas_sort
 rw [KasT.kasWp_bind]
 have h0:PmN n (List.toArray (List.range n)):=⟨by simp,by simp⟩
 refine count_wp o hc h0 hn fun m p h1 hp hS=>?_
 show ((if m<n then kas_bin (n-max m 1) p (max m 1) else .ret p).kasWp cmp Q s)
 by_cases z:m<n
 ·rw [if_pos z]
  refine bin_wp o hc q _ p _ hp (by omega) (by omega) fun k k1 k2=>hS k k1 (by omega)
 ·rw [if_neg z]
  have:m=n:=by omega
  subst this
  exact q p hp hS
end
end L2
namespace L2
open PySem PySem.Spec PyProof.Rows PySem.W
section
variable {prog:Program}{w:World}{A:Around}{R:Result→Shared→Prop}{s:Shared}
theorem lam_enter {a c:Addr}{args:Args}{o oc:Obj}{fd:FuncData}{body:Expr}{vs:Array Value}{q:Str}{t:Tok} (room:A.depth<recursionLimit) (h1:s.heap.get? a=some o) (h2:o.data = .func fd) (h3:fd.scope.isCoroutine=false) (h4:fd.scope.isGenerator=false)
 (h5:fd.body = .expr body) (h6:fd.code = .ref c) (h7:s.heap.get? c=some oc) (h8:oc.data = .fields vs) (h9:vs[1]?=some (.str q t))
 (k:wpAny (model prog w) A.in1 (bindArgs fd args) (fun bs s1=>wpAny (model prog w) A.in1 (newFunctionEnv fd.scope fd.globals fd.closure bs (q ++ ".<locals>.") (some a) (.ref c) none fd.builtins)
 (fun env s2=>s2.heap.NoLimit∧codeAny (model prog w) A (.expr body env) R s2) (fun e s'=>R (.error e) s') s1) (fun e s'=>R (.error e) s') s):codeAny (model prog w) A (.call (.ref a) args) R s:=by
  apply codeAny_of_tree
  have go:wpAny (model prog w) A.in1 (callAny (.ref a) args) (fun r s'=>match r with | .done f=>R (.ok f) s' | .again c'=>c'.quiet=true∧codeAny (model prog w) A c' R s') (fun e s'=>R (.error e) s') s:=by
   simp only [callAny]
   refine wpAny_bind (wpAny_load h1 ?_)
   simp only [h2,callFunction,h3,h4,h5,h6]
   refine wpAny_bind (m:=field (.ref c) 1) (wpAny_field h7 h8 h9 (wpAny_bind (wpAny_pure ?_)))
   refine wpAny_bind (wpAny_mono k (fun bs s1 k1=>?_) fun _ _ z=>z)
   refine wpAny_bind (wpAny_mono k1 (fun env s2 k2=>?_) fun _ _ z=>z)
   exact wpAny_bind (wpAny_enterFrame k2.1 room (wpAny_pure ⟨rfl,k2.2⟩))
  exact go
end
def cxL (P:Program) (w:World) (K:PySem.W.Frag) (mg:Str→Option Value) (base:Heap) (q:Str) (scope:Scope) (f:Addr) (cd:Value) (cl:List (Str×Addr)) (N:List Str) (A:Around) (outer:List Env) (s:Shared) (H:Hp):Cx where
 prog:=P
 w:=w
 K:=K
 mg:=mg
 base:=base
 A:=A.deeper (envX q scope s.heap.objs.size f cd cl)
 N:=N
 s₀:=s
 H₀:=H
 env:=envX q scope s.heap.objs.size f cd cl
 outer:=outer
 stack:=envX q scope s.heap.objs.size f cd cl::outer
 ex:=[]
 fn:=fun _=>false
 calm:=true
 pn:=[]
 xe:=fun _ _=>False
structure LamScope (scope:Scope) (x y:Str):Prop where
 kind:scope.kind = .function
 co:scope.isCoroutine=false
 gen:scope.isGenerator=false
 px:scope.names.lookup x=some .local
 py:scope.names.lookup y=some .free
 ne:x≠y
 nocell : ∀ z ∈ scope.names,z.2 ≠ .cell
 free : ∀ z,scope.names.lookup z=some .free→z=y
section
variable {P:Program}{w:World}{K:PySem.W.Frag}{mg:Str→Option Value}{base:Heap}{q:Str}{scope:Scope}{f cg:Addr}{cd ug u:Value}{x y:Str}{A:Around}{outer:List Env}{s:Shared}{H:Hp}{v vg:V}{h1:Heap}{tk:Nat}
theorem inv_lam (S:LamScope scope x y) (hd:A.handled=none) (e0:Env0 P w K mg base A outer s H) (hc:s.heap.IsCell cg (some ug)) (hn:H cg=none) (rg:RelV vg ug) (ru:RelV v u)
 (ns:h1.Ns s.heap.objs.size (fun z=>([(x,u)]:List (Str×Value)).reverse.lookup z)) (hk : ∀ b o,s.heap.get? b=some o→h1.get? b=some o) :
 Inv (cxL P w K mg base q scope f cd [(y,cg)] [x,y] A outer s H) [] [some v,some vg] H { s with heap:=h1,toks:=tk }:=by
  have noA : ∀ b:Addr,b ∉ (cxL P w K mg base q scope f cd [(y,cg)] [x,y] A outer s H).ex:=fun b z=>absurd (show b ∈ ([]:List Addr) from z) (by simp)
  have look : ∀ z c,(cxL P w K mg base q scope f cd [(y,cg)] [x,y] A outer s H).env.cells.lookup z=some c→z=y∧c=cg:=fun z c h=>by
   have h:([(y,cg)]:List (Str×Addr)).lookup z=some c:=h
   rw [List.lookup_cons] at h
   cases e:z==y with
   | true=>rw [e] at h;exact ⟨eq_of_beq e,(Option.some.inj h).symm⟩
   | false=>rw [e] at h;cases h
  have lky:([(y,cg)]:List (Str×Addr)).lookup y=some cg:=by rw [List.lookup_cons,beq_self_eq_true]
  refine ⟨⟨e0.mod,S.kind,rfl,rfl,Nat.le_refl _,fun z z' c a b=>(look z c a).1.trans (look z' c b).1.symm,fun z hz=>?_,fun z c a b=>(by cases a),fun _=>hd,Around.frames_deeper e0.frames,.inr ⟨rfl,rfl⟩,fun b z=>absurd z (noA b),e0.bs,e0.bsz,fun b _ _=>noA b,fun b z=>absurd z (noA b),e0.funs,e0.frf⟩,
   rfl,e0.bare,Un.kept hk,⟨_,ns,fun i z v' a1 a2 a3=>?_⟩,fun z c a=>?_,e0.hok.fresh (Nat.le_refl _),fun z c a=>?_,fun p hp=>absurd (show p ∈ ([]:List (Addr×Obj)) from hp) (by simp),e0.hok.kept hk,rfl⟩
  ·have hz:scope.names.lookup z=some .cell∨scope.names.lookup z=some .free:=hz
   rcases hz with hz|hz
   ·exact absurd rfl (S.nocell _ (PySem.mem_of_lookup hz))
   ·rw [S.free z hz];exact ⟨cg,lky⟩
  ·have a1:([x,y]:List Str)[i]?=some z:=a1
   match i,a1,a2 with
   | 0,a1,a2 =>
    have e1:x=z:=Option.some.inj a1
    have e2:v=v':=Option.some.inj (Option.some.inj a2)
    subst e1
    subst e2
    refine ⟨u,ru,.inl ⟨S.px,?_⟩⟩
    show ([(x,u)]:List (Str×Value)).lookup x=some u
    rw [List.lookup_cons,beq_self_eq_true]
   | 1,a1,a2 =>
    have e1:y=z:=Option.some.inj a1
    have e2:vg=v':=Option.some.inj (Option.some.inj a2)
    subst e1
    subst e2
    obtain ⟨oc,ho,hd'⟩:=hc
    exact ⟨ug,rg,.inr ⟨.inr S.py,cg,lky,oc,hk _ _ ho,hd'⟩⟩
   | i+2,a1,a2=>cases a1
  ·rw [(look z c a).2]
   obtain ⟨oc,ho,hd'⟩:=hc
   exact ⟨_,oc,hk _ _ ho,hd'⟩
  ·rw [(look z c a).2];exact hn
theorem lam_run {nm qual:Str}{params:Arguments}{body:Expr}{pm ct:Value}{c:Addr}{o oc:Obj}{vs:Array Value}{t:Tok}{te:TE}{Q:VK}{E:XK} (S:LamScope scope x y) (hd:A.handled=none) (e0:Env0 P w K mg base A outer s H) (room:A.depth<recursionLimit)
 (ho:s.heap.get? f=some o) (h2:o.data = .func (kla_fn nm qual params body scope [(y,cg)] pm (.ref c) ct)) (hb:bindArgs (kla_fn nm qual params body scope [(y,cg)] pm (.ref c) ct) ⟨[u],[]⟩=pure [(x,u)])
 (h7:s.heap.get? c=some oc) (h8:oc.data = .fields vs) (h9:vs[1]?=some (.str q t)) (hc:s.heap.IsCell cg (some ug)) (hn:H cg=none) (rg:RelV vg ug) (ru:RelV v u)
 (he:PE (cxL P w K mg base q scope f (.ref c) [(y,cg)] [x,y] A outer s H) body te) (h:te [some v,some vg] H Q):codeAny (model P w) A (.call (.ref f) ⟨[u],[]⟩) (CR CX0 outer P w H s Q E) s:=by
  refine lam_enter room ho h2 S.co S.gen rfl rfl h7 h8 h9 ?_
  rw [hb]
  refine wpAny_pure (wpAny_newFunctionEnv S.nocell (fun z hz=>by rw [List.mem_singleton.mp hz];exact S.px) (fun h1 ns sb=>?_) S.kind)
  have hk : ∀ b o,s.heap.get? b=some o→h1.get? b=some o:=fun b o e=>sb.extBut b o (Nat.ne_of_lt (Heap.lt_size e)) (Heap.get?_push_of_some _ e)
  refine ⟨(e0.mod.nolimit.keeps fun b o e=>(e0.bs b o e).1).keeps hk,?_⟩
  have I:=inv_lam (q:=q) (f:=f) (cd :=.ref c) (tk:=s.toks+([(x,u)]:List (Str×Value)).length) S hd e0 hc hn rg ru ns hk
  refine kla_codeExpr (wpAny_mono (he [] _ _ H Q I h) (fun r s' z=>?_) fun _ _ z=>z.elim)
  obtain ⟨v',H',I',r',q'⟩:=z
  exact ⟨v',H',I'.os,I'.bare,I'.base,I'.hok,r',q'⟩
end
end L2
namespace L2
open PySem PySem.Spec PyProof.Rows PySem.W
def TbS (tb:Addr) (H:Hp):Prop := ∃ ps,H tb=some (.tbl ps)∧GoodT H ps
theorem TbS.of {X:Cx}{pins:List (Addr×Obj)}{σ:St}{H:Hp}{s:Shared}{tb:Addr} (I:Inv X pins σ H s) (h:TbS tb X.H₀):TbS tb H:=by
 obtain ⟨ps,e,g⟩:=h
 obtain ⟨more,e',g'⟩:=I.base.tbls tb ps e
 exact ⟨_,e',(g.mono I.base.frzs).app g'⟩
structure TbGo (tb:Addr) (H H':Hp):Prop where
 h : ∀ b o,b≠tb→H b=some o→H' b=some o
 ts:TbS tb H'
theorem TbGo.same {tb:Addr}{H H':Hp} (g:TbGo tb H H') (t:TbS tb H):Same H H':=fun b o e=>by
 by_cases z:b=tb
 ·subst z
  obtain ⟨ps,e1,_⟩:=t
  obtain ⟨ps',e2,_⟩:=g.ts
  rw [e1] at e
  cases e
  rw [e2]
  exact ⟨fun n=>n.elim,fun _ _=>⟨ps',rfl⟩⟩
 ·exact .of (g.h b o z e)
section
variable {X:Cx}{pins:List (Addr×Obj)}{σ:St}{H:Hp}{s:Shared}{tb c0:Addr}{nm qual:Str}{params:Arguments}{body:Expr}{scope:Scope}{clos:List (Str×Addr)}{pos:Pos}{line:Nat}{Q:Value→Shared→Prop}
theorem Inv.pinOne {f:Addr}{o:Obj} (I:Inv X pins σ H s) (h1:s.heap.get? f=some o) (h2:H f=none) (h3:f≠X.env.locals) (h4:f ∉ X.fs) (h5 : ∀ v,o.data ≠ .cell v):Inv X (pins++[(f,o)]) σ H s:=I.pins_of fun p hp=>by
 rcases List.mem_append.mp hp with z|z
 ·exact I.pin p (List.mem_append_right _ z)
 ·rw [List.mem_singleton.mp z];exact ⟨h1,h2,h3,h4,h5⟩
theorem lam_make (I:Inv X pins σ H s) (T:TbS tb H) (hcode:X.env.code = .ref c0) (C:CodeHd X.base c0 tb) (hb:X.base.BuiltinsAt X.mg tb) (hcl:closureFor scope X.env=pure clos)
 (k : ∀ f c ct pm oc vs q t s' H',Inv X (pins++[(f,{ cls :=.type "function",data :=.func (kla_fn nm qual params body scope clos pm (.ref c) ct) })]) σ H' s'→TbGo tb H H'→(∀ b,H' b≠none→H b≠none∨s.heap.objs.size≤b)→s.heap.objs.size≤f→(∃ u,H' c=some (.frz oc u))→oc.data = .fields vs→vs[1]?=some (.str q t)→Q (.ref f) s') :
  wpAny (model X.prog X.w) X.A (makeFunction nm qual params (.expr body) scope X.env [] [] [] pos line) Q X.xe s:=by
  obtain ⟨ps,et,g⟩:=T
  have gt:s.heap.get? tb=some (tabObj ps):=(I.hok tb _ et)
  have hg:s.heap.Ns mainGlobals X.mg:=I.mod.glob.keeps I.bk
  have gP:mainGlobals≠tb:=fun z=>by
   obtain ⟨o,es,ep,ho,_⟩:=I.mod.glob
   have:=(I.bs _ _ ho).2
   rw [z,et] at this;cases this
  obtain ⟨bm,ob,b1,b2,b3,b4,b5,b6⟩:=hb
  have hb':s.heap.BuiltinsAt X.mg tb:=⟨bm,ob,b1,b2,b3,b4,I.bk _ _ b5,b6⟩
  have nL:X.env.locals≠tb:=fun z=>by have:=I.free;rw [z,et] at this;cases this
  have lts : ∀ f:Addr,s.heap.objs.size≤f→f≠X.env.locals∧f ∉ X.fs:=fun f hf=>by
   refine ⟨fun z=>?_,fun z=>?_⟩
   ·obtain ⟨m,⟨o,es,ep,ho,_⟩,_⟩:=I.loc
    have:=Heap.lt_size ho
    rw [← z] at this
    exact absurd this (Nat.not_lt.mpr hf)
   ·obtain ⟨_,o,ho,_⟩:=I.ok.funs.mem z
    have a1:=Heap.lt_size ho
    obtain ⟨o',ho'⟩:=I.base.there f o ho (fun zz=>(I.ok.exfs f zz) z)
    exact absurd (Heap.lt_size ho') (Nat.not_lt.mpr hf)
  cases ea:codeAmong pos ps.toList with
  | some cv =>
   refine kla_makeFunctionHit (mg:=X.mg) hcl I.ok.glob hg hcode (C.keeps I.bk) gt g.tr ea hb' fun ct h' tk hk hs=>?_
   obtain ⟨c,oc,u,ev,ec,vs,q,t,d1,d2⟩:=g.co pos cv ea
   subst ev
   have hk2 : ∀ b o,s.heap.get? b=some o→(h'.push { cls :=.type "function",data :=.func (kla_fn nm qual params body scope clos ((X.mg "__name__").getD .none) (.ref c) ct) }).get? b=some o:=fun b o e=>Heap.get?_push_of_some _ (hk b o e)
   obtain ⟨l1,l2⟩:=lts _ hs
   exact k h'.objs.size c ct _ oc vs q t _ H ((I.kept (t':=tk) hk2).pinOne (Heap.get?_push_size _ rfl) (I.hok.fresh hs) l1 l2 (fun v z=>by cases z)) ⟨fun b o _ e=>e,ps,et,g⟩ (fun b hb => .inl hb) hs ⟨u,ec⟩ d1 d2
  | none =>
   refine kla_makeFunction (mg:=X.mg) hcl I.ok.glob hg hcode (C.keeps I.bk) gt g.tr ea gP hb' fun c ct h' tk hx hge hlt hrec htb=>?_
   obtain ⟨c2,oc,vs,t,e2,hoc,d1,d2⟩:=hrec
   cases e2
   have ne:c≠tb:=fun z=>absurd (Heap.lt_size gt) (Nat.not_lt.mpr (z ▸ hge))
   have hc0:H c=none:=I.hok.fresh hge
   obtain ⟨more,em⟩ : ∃ more,more = #[rawInt pos.line,rawInt pos.col,Value.ref c]:=⟨_,rfl⟩
   rw [← em] at htb
   obtain ⟨H1,eH⟩ : ∃ H1,H1=upd (upd H tb (.tbl (ps++more))) c (.frz oc (.own 0)):=⟨_,rfl⟩
   have u1:H1 c=some (.frz oc (.own 0)):=by rw [eH,upd_same]
   have u2:H1 tb=some (.tbl (ps++more)):=by rw [eH,upd_ne (Ne.symm ne),upd_same]
   have u3 : ∀ b,b≠c→b≠tb→H1 b=H b:=fun b h1 h2=>by rw [eH,upd_ne h1,upd_ne h2]
   have old : ∀ b o,H b=some o→b≠c:=fun b o e z=>by rw [z,hc0] at e;cases e
   have gm:GoodT H1 more:=⟨by rw [em];exact trivial,fun p v h=>by
    rw [em] at h
    have h:(if (pos.line:Int)==p.line&&(pos.col:Int)==p.col then some (Value.ref c) else codeAmong p [])=some v:=h
    split at h
    ·exact ⟨c,oc,_,(Option.some.inj h).symm,u1,vs,qual,t,d1,d2⟩
    ·simp [codeAmong] at h⟩
   have gf : ∀ b o u,H b=some (.frz o u)→H1 b=some (.frz o u):=fun b o u e=>by
    rw [u3 b (old b _ e) fun z=>by rw [z,et] at e;cases e];exact e
   have hk2 : ∀ b o,b≠tb→s.heap.get? b=some o→(h'.push (kla_obj nm qual params body scope clos ((X.mg "__name__").getD .none) c ct)).get? b=some o:=fun b o hb e=>Heap.get?_push_of_some _ (hx b o hb e)
   have szs:s.heap.objs.size≤h'.objs.size:=Nat.le_trans hge (Nat.le_of_lt hlt)
   have I1:Inv X pins σ H1 { s with heap:=h'.push (kla_obj nm qual params body scope clos ((X.mg "__name__").getD .none) c ct),toks:=tk }:=by
    refine Inv.step (g':=s.gens) (d':=s.drawn) (t':=tk) (ch:=[]) I (fun b z=>nomatch z) (fun b o _ _ _ e n=>hk2 b o (fun z=>by rw [z,et] at n;cases n) e) (fun b o _ _ _ e n=>⟨o.slots,hk2 b o (fun z=>by rw [z,et] at n;cases n) e⟩)
     (fun b o _ e n=>?_) (fun b o _ e=>?_) (fun b xs e=>?_) (fun b o u e=>gf b o u e) (fun b qs e=>?_) (fun m hm=>?_) (fun b u e=>?_) I.bare
    ·rw [u3 b (fun z=>absurd (Heap.lt_size e) (Nat.not_lt.mpr (z ▸ hge))) (fun z=>by rw [z,et] at n;cases n)];exact n
    ·by_cases z:b=tb
     ·rw [z];exact ⟨_,Heap.get?_push_of_some _ htb⟩
     ·exact ⟨o,hk2 b o z e⟩
    ·rw [u3 b (old b _ e) fun z=>by rw [z,et] at e;cases e];exact e
    ·by_cases z:b=tb
     ·rw [z,et] at e
      cases e
      exact ⟨more,by rw [z];exact u2,gm⟩
     ·exact ⟨#[],by rw [u3 b (old b _ e) z,e];simp,.nil⟩
    ·exact (hm.extBut hx nL).push _
    ·by_cases zc:b=c
     ·subst zc
      rw [u1] at e
      cases e
      exact ⟨Heap.get?_push_of_some _ hoc,oc,Heap.get?_push_of_some _ hoc⟩
     ·by_cases zt:b=tb
      ·subst zt
       rw [u2] at e
       cases e
       exact Heap.get?_push_of_some _ htb
      ·rw [u3 b zc zt] at e
       refine (I.hok b u e).stay (fun d ob hd z=>hk2 d ob (fun y=>?_) z) (fun d z=>?_) fun d xs z=>?_
       ·rcases hd with y2|y2
        ·exact zt (y2.symm.trans y)
        ·rw [y,et] at y2;cases y2
       ·rw [u3 d (old d _ z) fun y=>by rw [y,et] at z;cases z];exact z
       ·rw [u3 d (old d _ z) fun y=>by rw [y,et] at z;cases z];exact z
   obtain ⟨l1,l2⟩:=lts _ szs
   have fn:H1 h'.objs.size=none:=by
    rw [u3 _ (Nat.ne_of_gt hlt) fun z=>absurd (Heap.lt_size gt) (Nat.not_lt.mpr (z ▸ szs))]
    exact I.hok.fresh szs
   refine k h'.objs.size c ct _ oc vs qual t _ H1 (I1.pinOne (Heap.get?_push_size _ rfl) fn l1 l2 (fun v z=>by cases z)) ⟨fun b o hb e=>?_,_,u2,(g.mono gf).app gm⟩ (fun b hb=>?_) szs ⟨_,u1⟩ d1 d2
   ·rw [u3 b (old b _ e) hb];exact e
   ·by_cases zc:b=c
    ·exact .inr (zc ▸ hge)
    ·by_cases zt:b=tb
     ·left;rw [zt,et];exact fun z=>by cases z
     ·left;rw [u3 b zc zt] at hb;exact hb
end
end L2
namespace L2
open PySem PySem.Spec PyProof.Rows PySem.W
def lexN (x y:Nat→Int):Nat→Nat→Bool
 | 0,_=>false
 | k+1,i=>if x i==y i then lexN x y k (i+1) else decide (x i<y i)
open AutoSeq1 (wpAny_loadPart') in
open MeetsSeq MeetsSeq3 in
theorem lt_loop (l b:Addr) (items items2:Array Value) (n n2:Nat) (hsz:items.size=items2.size) (x y:Nat→Int) (hx : ∀ j (h:j<items.size),∃ t,items[j] = .int (x j) t) (hy : ∀ j (h:j<items2.size),∃ t,items2[j] = .int (y j) t) (k:Nat) :
 ∀ i:Nat,items.size-i=k→Meets (Builtin.«list.__eq__.loop» ⟨[.ref l,.ref b,rawInt i,rawInt 0],[]⟩)
 (fun _ R s=>s.heap.get? l=some { cls :=.type "list",dict:=none,data :=.seq items n,slots := #[] }∧s.heap.get? b=some { cls :=.type "list",dict:=none,data :=.seq items2 n2,slots := #[] } ∧
  R (.ok (.ret (.bool (lexN x y k i)))) s):=by
  induction k with
  | zero =>
   rintro i hk prog w A R ⟨hp,g,d,tk,os⟩ ⟨hl,hb,h⟩
   wp_walk using wpAny_loadPart' hl,wpAny_loadPart' hb
   rw [show items[((i:Nat):Int).toNat]?=none by simp;omega,show items2[((i:Nat):Int).toNat]?=none by simp;omega]
   wp_walk using wpAny_loadPart' hl,wpAny_loadPart' hb
   have e:decide (items.size<items2.size)=false:=decide_eq_false (by omega)
   show R (.ok (.ret (.bool (decide (items.size<items2.size))))) _
   rw [e];exact h
  | succ k ih =>
   rintro i hk prog w A R ⟨hp,g,d,tk,os⟩ ⟨hl,hb,h⟩
   have l1:i<items.size:=by omega
   have l2:i<items2.size:=by omega
   obtain ⟨t1,e1⟩:=hx i l1
   obtain ⟨t2,e2⟩:=hy i l2
   have g1:items[((i:Nat):Int).toNat]?=some (.int (x i) t1):=by rw [← e1];simp [l1]
   have g2:items2[((i:Nat):Int).toNat]?=some (.int (y i) t2):=by rw [← e2];simp [l2]
   wp_walk using wpAny_loadPart' hl,wpAny_loadPart' hb
   rw [g1,g2]
   refine wpAny_bind (wpAny_eqBool_int ?_)
   unfold lexN at h
   cases q:(x i==y i) with
   | true =>
    rw [q] at h
    wp_walk
    rw [show ((i:Int)+1)=((i+1:Nat):Int) by push_cast;rfl]
    exact ⟨plainId_quiet plain_eq_loop _,codeAny_builtin entry_eq_loop (by
     rw [Around.under_plainId plain_eq_loop _]
     exact ih (i+1) (by omega) prog w A R _ ⟨hl,hb,h⟩)⟩
   | false =>
    rw [q] at h
    wp_walk using wpAny_loadPart' hl,wpAny_loadPart' hb
    rw [g1,g2]
    dsimp only
    refine wpAny_bind (wpAny_lt_int ?_)
    wp_walk
    exact h
open AutoSeq1 (wpAny_loadPart') in
open MeetsSeq MeetsSeq3 in
theorem list_lt (l b:Addr) (items items2:Array Value) (n n2:Nat) (hsz:items.size=items2.size) (x y:Nat→Int) (hx : ∀ j (h:j<items.size),∃ t,items[j] = .int (x j) t) (hy : ∀ j (h:j<items2.size),∃ t,items2[j] = .int (y j) t) :
 Meets (Builtin.«list.__lt__» ⟨[.ref l,.ref b],[]⟩)
 (fun _ R s=>s.heap.get? l=some { cls :=.type "list",dict:=none,data :=.seq items n,slots := #[] }∧s.heap.get? b=some { cls :=.type "list",dict:=none,data :=.seq items2 n2,slots := #[] } ∧
  R (.ok (.ret (.bool (lexN x y items.size 0)))) s):=by
  rintro prog w A R ⟨hp,g,d,tk,os⟩ ⟨hl,hb,h⟩
  have f3:=AutoSeq1.sub_list_list
  wp_walk using wpAny_loadPart' hl,wpAny_loadPart' hb
  exact ⟨plainId_quiet plain_eq_loop _,codeAny_builtin entry_eq_loop (by
   rw [Around.under_plainId plain_eq_loop _]
   exact lt_loop l b items items2 n n2 hsz x y hx hy _ 0 (by omega) prog w A R _ ⟨hl,hb,h⟩)⟩
theorem key_lt {prog:Program}{w:World}{A:Around}{E:Value→Shared→Prop}{s:Shared}{l b:Addr}{items items2:Array Value}{n n2:Nat}{x y:Nat→Int}{Q:Bool→Shared→Prop} (hu:A.units<cLine) (hl:s.heap.get? l=some { cls :=.type "list",data :=.seq items n }) (hb:s.heap.get? b=some { cls :=.type "list",data :=.seq items2 n2 })
 (hsz:items.size=items2.size) (hx : ∀ j (h:j<items.size),∃ t,items[j] = .int (x j) t) (hy : ∀ j (h:j<items2.size),∃ t,items2[j] = .int (y j) t) (h:Q (lexN x y items.size 0) s) :
 wpAny (model prog w) A (keyLt' oneType' (.ref l) (.ref b)) Q E s:=by
 rw [keyLt'_oneType,oneLt'_eq]
 simp only [if_true]
 refine wpAny_bind (wpAny_cRoomFor hu (wpAny_bind (wpAny_callSpecialIfBound?_slot (T := "list") ⟨_,hl,rfl⟩ F.slot_list_lt (call_meets F.slot_list_lt ⟨_,hl,rfl⟩ F.entry_list_lt (F.args_list_lt_2 _ _) (list_lt l b items items2 n n2 hsz x y hx hy) ⟨hl,hb,?_⟩))))
 exact wpAny_truthy_bool h
end L2
namespace L2
open PySem PySem.Spec PyProof.Rows PySem.W
structure OwnA (X:Cx) (pins:List (Addr×Obj)) (a:Addr):Prop where
 l:a≠X.env.locals
 s:X.s₀.heap.objs.size≤a
 c : ∀ x c,X.env.cells.lookup x=some c→c≠a
 p : ∀ p ∈ X.pn++pins,p.1≠a
 f:a ∉ frs X.stack
section
variable {X:Cx}{pins:List (Addr×Obj)}{σ:St}{H:Hp}{s:Shared}
theorem own_a (I:Inv X pins σ H s) {a:Addr} (h:s.heap.objs.size≤a):OwnA X pins a:=by
 have lt : ∀ b o,s.heap.get? b=some o→b≠a:=fun b o e z=>absurd (Heap.lt_size e) (Nat.not_lt.mpr (z ▸ h))
 refine ⟨fun z=>?_,Nat.le_trans I.sz h,fun x c e z=>?_,fun p hp z=>?_,fun z=>?_⟩
 ·obtain ⟨m,⟨o,es,ep,ho,_⟩,_⟩:=I.loc
  exact lt _ _ ho z.symm
 ·obtain ⟨v,o,ho,_⟩:=I.cell x c e
  exact lt _ _ ho z
 ·exact lt _ _ (I.pin p hp).1 z
 ·obtain ⟨_,o,ho,_⟩:=I.stack.mem z
  exact lt _ _ ho rfl
theorem Inv.own (I:Inv X pins σ H s) {a:Addr} (o:OwnA X pins a) (hn:H a=none) {h':Heap}{t':Nat} (k : ∀ b u,b≠a→s.heap.get? b=some u→h'.get? b=some u):Inv X pins σ H { s with heap:=h',toks:=t' } :=
 I.turned (it:=a) k hn o.l (.inr o.s) o.c o.p
def KeyAt (b:Bool) (kl:Nat→List Int) (i:Nat) (r:Value) (H:Hp):Prop:=match b with
 | true => ∃ p,r = .ref p∧H p=some (.lst ((kl i).map V.int))
 | false => ∃ n t,r = .int n t∧kl i=[n]
theorem KeyAt.mono {b:Bool}{kl:Nat→List Int}{i:Nat}{r:Value}{H H':Hp} (h:KeyAt b kl i r H) (s:Same H H'):KeyAt b kl i r H':=by
 cases b with
 | true=>obtain ⟨p,e,hp⟩:=h;exact ⟨p,e,s.at hp⟩
 | false=>exact h
theorem upd_other {h:Heap}{a b:Addr}{u:Obj} (g:Obj→Obj) (hb:b≠a) (e:h.get? b=some u):(h.update a g).get? b=some u:=(Heap.get?_update_other _ _ (Ne.symm hb)).trans e
def KeyCall (X:Cx) (pins:List (Addr×Obj)) (σ:St) (A:Around) (f:Value) (vs:List Value) (b:Bool) (kl:Nat→List Int) (G:Hp→Prop):Prop := ∀ (i:Nat) (u:Value) (H:Hp) (s:Shared),vs[i]?=some u→Inv X pins σ H s→G H →
 wpAny (model X.prog X.w) A (call f [u]) (fun r s' => ∃ H',Inv X pins σ H' s'∧Un (frs X.stack) [] H H' s.heap s'.heap∧Same H H'∧G H'∧KeyAt b kl i r H') (fun _ _=>False) s
def keyLess (kl:Nat→List Int) (m:Nat) (i j:Nat):Bool:=lexN (fun k=>(kl i).getD k 0) (fun k=>(kl j).getD k 0) m 0
variable {A:Around}{E:Value→Shared→Prop}{f:Value}{vs:List Value}{kl:Nat→List Int}{G:Hp→Prop}{m:Nat}{a kS:Addr}{e1:Nat}{b:Bool}{P:PySem.Fin→Shared→Prop}
def SortEnd (X:Cx) (pins:List (Addr×Obj)) (σ:St) (vs:List Value) (kl:Nat→List Int) (G:Hp→Prop) (m:Nat) (a:Addr) (H:Hp) (P:PySem.Fin→Shared→Prop):Prop :=
 ∀ (p:Array Nat) (H':Hp) (s':Shared) (c:Nat),PmN vs.length p→SrtN (keyLess kl m) p vs.length→Inv X pins σ H' s'→Same H H'→G H'→H' a=none→s'.heap.get? a=some (seqObj "list" (p.toList.map fun i=>vs.getD i .none).toArray c)→P (.done (.ret .none)) s'
theorem sort_tail {ks:List Value}{ek:Nat}{p:Array Nat}{st:SortSt}{H0:Hp} (I:Inv X pins σ H s) (oa:OwnA X pins a) (ok:OwnA X pins kS) (na:H a=none) (nk:H kS=none) (ne:kS≠a) (h64:vs.length<64) (kz:ks.length<64) (ha:s.heap.get? a=some (seqObj "list" #[] e1)) (hk:s.heap.get? kS=some (seqObj "list" ks.toArray ek))
 (hp:PmN vs.length p) (hs:SrtN (keyLess kl m) p vs.length) (sm:Same H0 H) (g:G H) (hout:(arrOf st).map (·.2)=(p.toList.map fun i=>vs.getD i .none).toArray) (hf:failedOf st=none) (h:SortEnd X pins σ vs kl G m a H0 P) :
 wpAny (model X.prog X.w) A (ksk_tail a false e1 (.ref kS) st) P E s:=by
  unfold ksk_tail
  dsimp only
  rw [hout]
  have I1:=I.own (a:=kS) (t':=s.toks) (h':=s.heap.update kS (Obj.mapSeq fun _=>(#[]:Array Value))) ok nk fun b u hb e=>upd_other _ hb e
  have ha1:(s.heap.update kS (Obj.mapSeq fun _=>(#[]:Array Value))).get? a=some (seqObj "list" #[] e1):=upd_other _ (Ne.symm ne) ha
  have lz:(p.toList.map fun i=>vs.getD i Value.none).toArray.size=vs.length:=by rw [List.size_toArray,List.length_map,Array.length_toList,hp.s]
  refine wpAny_bind (listUpdate_at hk rfl ?_ (by rw [List.size_toArray,sizeLine_eq];omega) (Nat.zero_le _))
  refine wpAny_bind (wpAny_letGo ?_)
  refine wpAny_bind (seqEpoch_at ha1 rfl ?_)
  refine wpAny_bind (listUpdate_at ha1 rfl ?_ (Nat.zero_le _) (Nat.le_trans (Nat.le_of_eq lz) (by rw [sizeLine_eq];omega)))
  rw [hf]
  simp only [bne_self_eq_false,Bool.false_eq_true,if_false]
  have I2:=I1.own (a:=a) (t':=s.toks) (h':=(s.heap.update kS (Obj.mapSeq fun _=>(#[]:Array Value))).update a (Obj.mapSeq fun _=>(p.toList.map fun i=>vs.getD i Value.none).toArray)) oa na fun b u hb e=>upd_other _ hb e
  exact wpAny_pure (h p H _ _ hp hs I2 sm g na (get?_update_seq ha1 fun _=>_))
theorem key_obj {i:Nat}{r:Value} (I:Inv X pins σ H s) (hk:KeyAt true kl i r H) : ∃ p its n,r = .ref p∧s.heap.get? p=some { cls :=.type "list",data :=.seq its n }∧its.size=(kl i).length ∧ ∀ j (h:j<its.size),∃ t,its[j] = .int ((kl i).getD j 0) t:=by
 obtain ⟨p,rfl,e⟩:=hk
 obtain ⟨_,its,n,rv,ho⟩:=I.hok p _ e
 have hl:its.length=(kl i).length:=by rw [← rv.length,List.length_map]
 refine ⟨p,its.toArray,n,rfl,ho,by rw [List.size_toArray];exact hl,fun j h=>?_⟩
 rw [List.size_toArray] at h
 have hj:((kl i).map V.int)[j]?=some (.int ((kl i).getD j 0)):=by
  rw [List.getElem?_map,List.getElem?_eq_getElem (by omega)]
  simp [List.getD,List.getElem?_eq_getElem (show j<(kl i).length by omega)]
 obtain ⟨u,hu,t,ru⟩:=rv.get hj
 refine ⟨t,?_⟩
 rw [List.getElem?_eq_getElem h] at hu
 rw [List.getElem_toArray]
 rw [← ru]
 exact Option.some.inj hu
theorem sort_end {ks:List Value}{ek:Nat}{H0:Hp} (hu:A.units<cLine) (o:OrdN vs.length (keyLess kl m)) (hm : ∀ i,i<vs.length→(kl i).length=m) (I:Inv X pins σ H s) (oa:OwnA X pins a) (ok:OwnA X pins kS) (na:H a=none) (nk:H kS=none) (ne:kS≠a) (h64:vs.length<64) (kz:ks.length=vs.length)
 (ha:s.heap.get? a=some (seqObj "list" #[] e1)) (hk:s.heap.get? kS=some (seqObj "list" ks.toArray ek)) (hks : ∀ i,i<vs.length→KeyAt b kl i (ks.getD i .none) H) (sm:Same H0 H) (g:G H) (h:SortEnd X pins σ vs kl G m a H0 P) :
 wpAny (model X.prog X.w) A (ksk_end a false vs.toArray e1 (.ref kS) ks.toArray) P E s:=by
  unfold ksk_end
  dsimp only
  simp only [Bool.false_eq_true,if_false]
  by_cases h2:vs.length<2
  ·have c:vs.toArray.size<2:=by rw [List.size_toArray];exact h2
   rw [if_pos c,if_pos c]
   refine wpAny_bind (wpAny_pure (wpAny_bind ?_))
   rw [StateT.run_pure]
   refine wpAny_pure ?_
   refine sort_tail (p:=List.toArray (List.range vs.length)) (st:=SortSt.mk' general' (ks.toArray.zip vs.toArray) #[] 7 none) I oa ok na nk ne h64 (by omega) ha hk ⟨by simp,by simp⟩ (fun k k1 k2=>by omega) sm g ?_ rfl h
   show (ks.toArray.zip vs.toArray).map (·.2)=_
   apply Array.toList_inj.mp
   refine List.ext_getElem? fun i=>?_
   simp only [Array.toList_map,Array.toList_zip,List.getElem?_map,List.getElem?_range]
   by_cases hi:i<vs.length
   ·have e1:ks[i]?=some (ks[i]'(by omega)):=List.getElem?_eq_getElem _
    have e2:vs[i]?=some vs[i]:=List.getElem?_eq_getElem hi
    have e3:(ks.zip vs)[i]?=some (ks[i]'(by omega),vs[i]):=List.getElem?_zip_eq_some.mpr ⟨e1,e2⟩
    rw [e3]
    simp [hi]
   ·rw [List.getElem?_eq_none (by simp;omega)]
    simp [hi]
  ·have c : ¬ vs.toArray.size<2:=by rw [List.size_toArray];exact h2
   rw [if_neg c,if_neg c]
   have g2:2≤ks.length:=by omega
   have kindOk : ∃ T:Value,(∀ v ∈ ks,Looks (model X.prog X.w) s.heap (typeOf v) T)∧(T != Value.type "tuple")=true∧(T==T)=true:=by
    have each : ∀ v ∈ ks,∃ i,i<vs.length∧ks.getD i .none=v:=fun v hv=>by
     obtain ⟨i,hi⟩:=List.getElem?_of_mem hv
     have hlt:i<ks.length:=(List.getElem?_eq_some_iff.mp hi).1
     exact ⟨i,by omega,by simp [List.getD,hi]⟩
    cases b with
    | true =>
     refine ⟨.type "list",fun v hv=>?_,by decide,by decide⟩
     obtain ⟨i,hi,eg⟩:=each v hv
     obtain ⟨p,its,n,er,ho,_,_⟩:=key_obj I (hks i hi)
     rw [← eg,er]
     exact (Looks.ld ho).andThen .now
    | false =>
     refine ⟨.type "int",fun v hv=>?_,by decide,by decide⟩
     obtain ⟨i,hi,eg⟩:=each v hv
     obtain ⟨n,t,er,_⟩:=hks i hi
     rw [← eg,er]
     exact .now
   obtain ⟨T,hT,hT1,hT2⟩:=kindOk
   refine wpAny_bind (kas_kind (T:=T) g2 hT hT1 hT2 ?_)
   refine wpAny_bind (wpAny_mono (kat_run (Q:=fun st' s'=>s'=s ∧ ∃ p:Array Nat,PmN vs.length p∧SrtN (keyLess kl m) p vs.length∧arrOf st'=p.map (kas_item (ks.toArray.zip vs.toArray))∧failedOf st'=none) (G:=fun p s'=>s'=s∧PmN vs.length p∧SrtN (keyLess kl m) p vs.length) kz (by omega) h64 (fun p st' s' a1 a2 a3 a4=>⟨a4.1,p,a4.2.1,a4.2.2,a2,a3⟩) ?_) ?_ fun _ _ z=>z)
   ·refine sort_wp o (fun i j C hi hj hC=>?_) (by omega) fun p hp hs=>⟨rfl,hp,hs⟩
    cases b with
    | true =>
     obtain ⟨p,its,n,er,ho,z1,x1⟩:=key_obj I (hks i hi)
     obtain ⟨p',its',n',er',ho',z2,x2⟩:=key_obj I (hks j hj)
     unfold kas_ask
     rw [er,er']
     refine key_lt hu ho ho' (by rw [z1,z2,hm i hi,hm j hj]) x1 x2 ?_
     rw [z1,hm i hi]
     exact hC
    | false =>
     obtain ⟨n,t,er,z1⟩:=hks i hi
     obtain ⟨n',t',er',z2⟩:=hks j hj
     unfold kas_ask
     rw [er,er']
     refine kat_lt_int ?_
     have m1:m=1:=by rw [← hm i hi,z1];rfl
     have e:keyLess kl m i j=decide (n<n'):=by
      unfold keyLess
      rw [m1,z1,z2]
      show (if n==n' then false else decide (n<n'))=_
      split
      ·rename_i q
       rw [decide_eq_false]
       have:=eq_of_beq q
       omega
      ·rfl
     rw [e] at hC
     exact hC
   ·rintro ⟨⟨⟩,st'⟩ s' ⟨rfl,p,hp,hs,har,hf⟩
    exact sort_tail I oa ok na nk ne h64 (by omega) ha hk hp hs sm g (kat_snds kz har) hf h
theorem sort_rest {H0:Hp} (hu:A.units<cLine) (hc:KeyCall X pins σ A f vs b kl G) (o:OrdN vs.length (keyLess kl m)) (hm : ∀ i,i<vs.length→(kl i).length=m) (I:Inv X pins σ H s) (oa:OwnA X pins a) (ok:OwnA X pins kS) (na:H a=none) (nk:H kS=none) (ne:kS≠a) (h64:vs.length<64)
 (ha:s.heap.get? a=some (seqObj "list" #[] e1)) (hk:s.heap.get? kS=some (seqObj "list" #[] 0)) (sm:Same H0 H) (g:G H) (h:SortEnd X pins σ vs kl G m a H0 P) :
 wpAny (model X.prog X.w) A (ksk_rest a f false vs.toArray e1 (.ref kS)) P E s:=by
  unfold ksk_rest
  refine wpAny_bind (wpAny_rule ?_)
  rw [List.forIn_toArray]
  refine wpAny_bind (ksk_fold (fun i s' => ∃ (H':Hp) (ks:List Value) (ek:Nat),Inv X pins σ H' s'∧Same H0 H'∧G H'∧H' a=none∧H' kS=none∧s'.heap.get? a=some (seqObj "list" #[] e1)∧s'.heap.get? kS=some (seqObj "list" ks.toArray ek)∧ks.length=i ∧ ∀ j,j<i→KeyAt b kl j (ks.getD j .none) H') vs 0 s
   ⟨H,[],0,I,sm,g,na,nk,ha,hk,rfl,fun j z=>absurd z (Nat.not_lt_zero _)⟩ ?_ ?_)
  ·rintro j x s1 hx ⟨H1,ks,ek,I1,sm1,g1,na1,nk1,ha1,hk1,kl1,ky1⟩
   rw [Nat.zero_add] at kl1 ky1
   have jl:j<vs.length:=(List.getElem?_eq_some_iff.mp hx).1
   refine wpAny_bind (wpAny_attempt (wpAny_mono (hc j x H1 s1 hx I1 g1) (fun r s2 z=>?_) fun _ _ z=>z.elim))
   obtain ⟨H2,I2,un,sm2,g2,ky2⟩:=z
   have ha2:s2.heap.get? a=some (seqObj "list" #[] e1):=un.keep a _ ha1 na1 oa.f (by simp)
   have hk2:s2.heap.get? kS=some (seqObj "list" ks.toArray ek):=un.keep kS _ hk1 nk1 ok.f (by simp)
   have na2:H2 a=none:=un.free a _ ha1 na1 (by simp)
   have nk2:H2 kS=none:=un.free kS _ hk1 nk1 (by simp)
   dsimp only
   refine wpAny_bind (listUpdate_at hk2 rfl ?_ (by rw [List.size_toArray,sizeLine_eq];omega) (Nat.le_trans (Nat.le_of_eq (Array.size_push ..)) (by rw [List.size_toArray,sizeLine_eq];omega)))
   have I3:=I2.own (a:=kS) (t':=s2.toks) (h':=s2.heap.update kS (Obj.mapSeq (·.push r))) ok nk2 fun b u hb e=>upd_other _ hb e
   have ea:ks.toArray.push r=(ks++[r]).toArray:=by simp
   refine wpAny_pure ⟨rfl,H2,ks++[r],_,I3,sm1.trans sm2,g2,na2,nk2,upd_other _ (Ne.symm ne) ha2,by rw [← ea];exact get?_update_seq hk2 (·.push r),by rw [List.length_append,kl1,Nat.zero_add];rfl,fun i hi=>?_⟩
   rw [Nat.zero_add] at hi
   by_cases z:i<j
   ·have:(ks++[r]).getD i Value.none=ks.getD i .none:=by simp [List.getD,List.getElem?_append_left (show i<ks.length by omega)]
    rw [this]
    exact (ky1 i z).mono sm2
   ·have:i=j:=by omega
    subst this
    have:(ks++[r]).getD i Value.none=r:=by simp [List.getD,← kl1]
    rw [this];exact ky2
  ·rintro s1 ⟨H1,ks,ek,I1,sm1,g1,na1,nk1,ha1,hk1,kl1,ky1⟩
   rw [Nat.zero_add] at kl1 ky1
   refine wpAny_bind (listItems_at hk1 rfl ?_)
   exact sort_end hu o hm I1 oa ok na1 nk1 ne h64 kl1 ha1 hk1 ky1 sm1 g1 h
theorem sort_keyed {n0:Nat} (hu:A.units<cLine) (hc:KeyCall X pins σ A f vs b kl G) (o:OrdN vs.length (keyLess kl m)) (hm : ∀ i,i<vs.length→(kl i).length=m) (I:Inv X pins σ H s) (oa:OwnA X pins a) (na:H a=none) (h64:vs.length<64) (ha:s.heap.get? a=some (seqObj "list" vs.toArray n0)) (g:G H)
 (h:SortEnd X pins σ vs kl G m a H P):wpAny (model X.prog X.w) A (ksk_tree a f false) P E s:=by
  unfold ksk_tree
  have I1:=I.own (a:=a) (t':=s.toks) (h':=s.heap.update a (Obj.mapSeq fun _=>(#[]:Array Value))) oa na fun b u hb e=>upd_other _ hb e
  obtain ⟨e1,ha1⟩ : ∃ e1,(s.heap.update a (Obj.mapSeq fun _=>(#[]:Array Value))).get? a=some (seqObj "list" #[] e1):=⟨_,get?_update_seq ha fun _ => #[]⟩
  refine wpAny_bind (listItems_at ha rfl ?_)
  refine wpAny_bind (listUpdate_at ha rfl ?_ (by rw [List.size_toArray,sizeLine_eq];omega) (Nat.zero_le _))
  refine wpAny_bind (seqEpoch_at ha1 rfl ?_)
  refine wpAny_bind (wpAny_newTuple ?_ (by show vs.length≤_;rw [sizeLine_eq];omega))
  refine wpAny_bind (wpAny_newList ?_ (Nat.zero_le _))
  refine wpAny_holding ?_
  have kp : ∀ b u,(s.heap.update a (Obj.mapSeq fun _=>(#[]:Array Value))).get? b=some u→(((s.heap.update a (Obj.mapSeq fun _=>(#[]:Array Value))).push (seqObj "tuple" vs.toArray 0)).push (seqObj "list" #[] 0)).get? b=some u:=fun b u e=>Heap.get?_push_of_some _ (Heap.get?_push_of_some _ e)
  have I2:=I1.kept (t':=s.toks) (h':=((s.heap.update a (Obj.mapSeq fun _=>(#[]:Array Value))).push (seqObj "tuple" vs.toArray 0)).push (seqObj "list" #[] 0)) kp
  have big:(s.heap.update a (Obj.mapSeq fun _=>(#[]:Array Value))).objs.size≤((s.heap.update a (Obj.mapSeq fun _=>(#[]:Array Value))).push (seqObj "tuple" vs.toArray 0)).objs.size:=by rw [Heap.size_push];omega
  have okS:=own_a I1 big
  have nkS:H ((s.heap.update a (Obj.mapSeq fun _=>(#[]:Array Value))).push (seqObj "tuple" vs.toArray 0)).objs.size=none:=I1.hok.fresh big
  exact sort_rest (s:={ s with heap:=((s.heap.update a (Obj.mapSeq fun _=>(#[]:Array Value))).push (seqObj "tuple" vs.toArray 0)).push (seqObj "list" #[] 0) }) hu hc o hm I2 oa okS na nkS (fun z=>absurd (Heap.lt_size ha1) (Nat.not_lt.mpr (Nat.le_trans big (Nat.le_of_eq z)))) h64 (kp _ _ ha1) (Heap.get?_push_size _ rfl) (.refl _) g h
end
end L2
namespace L2
open PySem PySem.Spec PyProof.Rows PySem.W
section
variable {X:Cx}{pins:List (Addr×Obj)}{σ:St}{H:Hp}{s:Shared}
theorem Inv.track {a:Addr}{u:HO} (I:Inv X pins σ H s) (o:OwnA X pins a) (hn:H a=none) (new:ObjOk X.prog X.w (upd H a u) s.heap a u):Inv X pins σ (upd H a u) s:=by
 have up : ∀ b v,H b=some v→upd H a u b=some v:=fun b v e=>by rw [upd_ne (ne_of_none e hn)];exact e
 refine ⟨I.ok,I.os,I.bare,⟨I.base.keep,I.base.slot,fun b o' e n hx=>?_,I.base.there,fun b xs e=>up _ _ (I.base.tups b xs e),fun b o' xs e=>up _ _ (I.base.frzs b o' xs e),fun b ps e=>?_⟩,I.loc,I.cell,?_,fun x c e=>?_,fun p hp=>?_,fun b v e=>?_,I.len⟩
 ·have hb:b≠a:=fun z=>absurd (Heap.lt_size e) (Nat.not_lt.mpr (by rw [z];exact o.s))
  rw [upd_ne hb];exact I.base.free b o' e n hx
 ·obtain ⟨more,q,gm⟩:=I.base.tbls b ps e
  exact ⟨more,up _ _ q,gm.mono fun b o u z=>up _ _ z⟩
 ·rw [upd_ne (Ne.symm o.l)];exact I.free
 ·rw [upd_ne (o.c x c e)];exact I.freeC x c e
 ·obtain ⟨a1,a2,a3⟩:=I.pin p hp
  exact ⟨a1,(upd_ne (o.p p hp)).trans a2,a3⟩
 ·by_cases z:b=a
  ·subst z
   rw [upd_same] at e
   cases e
   exact new
  ·rw [upd_ne z] at e
   exact (I.hok b v e).stay (fun c ob _ q=>q) (fun c q=>up _ _ q) (fun c xs q=>up _ _ q)
variable {K':Type} [DecidableEq K'] {knd:KeyKind X.prog X.w K'}{E:Value→Shared→Prop}{f:Addr}{kvs:List (K'×Value)}{ep:Nat}{kl:Nat→List Int}{G:Hp→Prop}{m:Nat}{r d:Addr}{Q:Value→Shared→Prop}
end
end L2
namespace L2
open PySem PySem.Spec PyProof.Rows PySem.W
theorem DictIs.at {h h':Heap}{d:Addr}{es:Array DictEntry}{ep:Nat} (x:DictIs h d es ep) (k : ∀ o,h.get? d=some o→h'.get? d=some o):DictIs h' d es ep:=let ⟨o,ho,r⟩:=x; ⟨o,k _ ho,r⟩
section
variable {prog:Program}{w:World}{A:Around}{E:Value→Shared→Prop}{s:Shared}{it v d:Addr}{es:Array DictEntry}{i ep:Nat}
theorem vals_iter {Q:Value→Shared→Prop} (hv:s.heap.IsValuesView v d) (hD:DictIs s.heap d es ep)
 (h:Q (.ref s.heap.objs.size) { s with heap:=s.heap.push { cls :=.type "dict_valueiterator",data :=.fields #[.ref d,.int 0 0,.int es.size 0,.int ep 0] } }):wpAny (model prog w) A (pyIter (.ref v)) Q E s:=by
  obtain ⟨ov,g1,_,g2⟩:=id hv
  obtain ⟨od,g3,_,g4⟩:=id hD
  have own:Builtin.Dict_items.ownsTuple "dict_valueiterator" = false:=by decide
  refine wpAny_pyIter_slot hv.typeIs F.slot_dict_values_iter (wpAny_call_entry F.slot_dict_values_iter hv.typeIs F.entry_dict_values_iter ?_ (F.args_dict_values_iter_1 _))
  unfold Builtin.«dict_values.__iter__» Builtin.Dict_items.dictOf Builtin.Dict_items.newIterator
  have step : ∀ (Q':PySem.Fin→Shared→Prop),Q' (.done (.ret (.ref s.heap.objs.size))) { s with heap:=s.heap.push { cls :=.type "dict_valueiterator",data :=.fields #[.ref d,.int 0 0,.int es.size 0,.int ep 0] } }→True:=fun _ _=>trivial
  refine wpAny_bind (wpAny_pure (wpAny_bind (wpAny_bind (wpAny_field g1 g2 (x :=.ref d) rfl (wpAny_pure (wpAny_bind (wpAny_bind (wpAny_dictEntries g3 g4 (wpAny_bind (wpAny_dictEpoch g3 g4 ?_))))))))))
  simp only [own,Bool.false_eq_true,if_false]
  refine wpAny_newObj_type (wpAny_pure ⟨_,rfl,"dict_valueiterator",_,⟨_,Heap.get?_push_size _ rfl,rfl⟩,F.slot_dict_valueiterator_next.lookup,?_⟩)
  simpa [rawInt] using h
theorem vals_next {Q:Option Value→Shared→Prop}{e:DictEntry} (hit:s.heap.IsValIter it d i es.size ep) (hD:DictIs s.heap d es ep) (hx:es[i]?=some e)
 (h : ∀ h',h'.IsValIter it d (i+1) es.size ep→Heap.SameBut it s.heap h'→Q (some e.val) { s with heap:=h' }):wpAny (model prog w) A (pyNext (.ref it)) Q E s:=by
  obtain ⟨o,g1,g2,g3⟩:=id hit
  obtain ⟨od,g4,_,g5⟩:=id hD
  have own:Builtin.Dict_items.ownsTuple "dict_valueiterator" = false:=by decide
  have lt:i<es.size:=(Array.getElem?_eq_some_iff.mp hx).1
  unfold pyNext
  refine wpAny_bind (wpAny_attempt (wpAny_callSpecial?_slot (name:=Str.ofString "__next__") hit.typeIs F.slot_dict_valueiterator_next (wpAny_call_entry F.slot_dict_valueiterator_next hit.typeIs F.entry_dict_valueiterator_next ?_ (F.args_dict_valueiterator_next_1 _))))
  wp_walk using wpAny_typeNameOfWhole_valiter hit.typeIs,wpAny_fieldsOf g1 g3,wpAny_dictEntries g4 g5,wpAny_dictEpoch g4 g5,wpAny_isOneOf_valiter hit.typeIs
  rw [show (if ((i:Nat):Int)<0 then none else es[((i:Nat):Int).toNat]?)=some e by rw [if_neg (by omega),Int.toNat_natCast];exact hx]
  have it2:(s.heap.update it (Obj.mapFields (·.setIfInBounds 1 (rawInt ((i:Int)+1))))).IsValIter it d (i+1) es.size ep :=
   ⟨_,Heap.get?_update_self _ g1 (Obj.isFreed_of_fields (Obj.data_mapFields g3 _)),(Obj.cls_mapFields ..).trans g2,by rw [Obj.data_mapFields g3];simp [rawInt]⟩
  refine wpAny_bind (wpAny_bind (wpAny_typeNameOfWhole_valiter hit.typeIs (wpAny_pure (wpAny_bind (wpAny_isOneOf_valiter hit.typeIs ?_)))))
  show wpAny _ _ (setField (.ref it) 1 (rawInt ((i:Int)+1)) >>= _) _ _ s
  refine wpAny_bind (wpAny_setField g1 g3 (by simp) ?_)
  wp_walk using wpAny_isOneOf_valiter (s:={ s with heap:=s.heap.update it (Obj.mapFields (·.setIfInBounds 1 (rawInt ((i:Int)+1)))) }) it2.typeIs
  exact ⟨_,rfl,wpAny_pure (h _ it2 (Heap.SameBut.update ..))⟩
theorem vals_end {Q:Option Value→Shared→Prop} (hh:A.handled=none) (hit:s.heap.IsValIter it d i es.size ep) (hD:DictIs s.heap d es ep) (hx:es.size≤i)
 (h : ∀ h',Heap.ExtBut it s.heap h'→Q none { s with heap:=h' }):wpAny (model prog w) A (pyNext (.ref it)) Q E s:=by
  obtain ⟨o,g1,g2,g3⟩:=id hit
  obtain ⟨od,g4,_,g5⟩:=id hD
  have own:Builtin.Dict_items.ownsTuple "dict_valueiterator" = false:=by decide
  unfold pyNext
  refine wpAny_bind (wpAny_attempt (wpAny_callSpecial?_slot (name:=Str.ofString "__next__") hit.typeIs F.slot_dict_valueiterator_next (wpAny_call_entry F.slot_dict_valueiterator_next hit.typeIs F.entry_dict_valueiterator_next ?_ (F.args_dict_valueiterator_next_1 _))))
  wp_walk using wpAny_typeNameOfWhole_valiter hit.typeIs,wpAny_fieldsOf g1 g3,wpAny_dictEntries g4 g5,wpAny_dictEpoch g4 g5,wpAny_isOneOf_valiter hit.typeIs
  rw [show (if ((i:Nat):Int)<0 then none else es[((i:Nat):Int).toNat]?)=none by rw [if_neg (by omega),Int.toNat_natCast];exact Array.getElem?_eq_none hx]
  refine wpAny_bind (wpAny_bind (wpAny_typeNameOfWhole_valiter hit.typeIs (wpAny_pure ?_)))
  show wpAny _ _ (setField (.ref it) 0 .none >>= _) _ _ s
  refine wpAny_bind (wpAny_setField g1 g3 (by simp) ?_)
  wp_walk
  simp only [raiseNew]
  refine wpAny_bind (wpAny_handled ?_)
  rw [show A.in1.handled=none from hh]
  refine wpAny_bind (wpAny_pure (wpAny_throw ?_))
  refine wpAny_bind (wpAny_isInstance (T := "StopIteration") (b:=true) ⟨_,Heap.get?_push_size _ rfl,rfl⟩ isSubtype_stop ?_)
  exact wpAny_pure (h _ (((Heap.SameBut.update ..).extBut.push _).push _))
theorem walks_values (hh:A.handled=none) (I d:Addr) (hne:d≠I) (es:Array DictEntry) (ep:Nat):Walks prog w A I [I,d] [I] es.size (fun i v => ∃ e,es[i]?=some e∧e.val=v) (fun i h=>h.IsValIter I d i es.size ep∧DictIs h d es ep) where
 sub:=fun b hb=>by simp at hb;simp [hb]
 frame:=fun _ _ _ st hk=>⟨st.1.at fun o e=>hk I (by simp) o e,st.2.at fun o e=>hk d (by simp) o e⟩
 item:=fun i s Q E hi st hQ=>by
  have hx:es[i]?=some es[i]:=Array.getElem?_eq_getElem hi
  refine vals_next st.1 st.2 hx fun h' i2 sb=>hQ _ h' s.toks ⟨_,hx,rfl⟩ ⟨i2,st.2.at fun o e=>sb.extBut d o hne e⟩ fun b o hb e=>sb.extBut b o (fun z=>hb (by simp [z])) e
 done:=fun s Q E st hQ=>vals_end hh st.1 st.2 (Nat.le_refl _) fun h' k=>hQ h' s.toks fun b o hb e=>k b o (fun z=>hb (by simp [z])) e
 self:=fun _ _ _ _ st hQ=>wpAny_pyIter_valiter st.1 hQ
theorem src_values {r:Addr}:KdlSrc prog w "dict_values" r d es.size (fun i v => ∃ e,es[i]?=some e∧e.val=v) (fun h=>h.IsValuesView r d∧DictIs h d es ep) where
 type:=fun _ hm=>hm.1.typeIs
 there:=fun _ hm=>⟨let ⟨_,ho,_⟩:=hm.1;Heap.lt_size ho,let ⟨_,ho,_⟩:=hm.2;Heap.lt_size ho⟩
 keep:=fun _ _ hm hk=>⟨let ⟨o,ho,x⟩:=hm.1; ⟨o,hk r (.inl rfl) o ho,x⟩,hm.2.at fun o e=>hk d (.inr rfl) o e⟩
 notList:=by decide
 notTuple:=by decide
 hint:=fun _ _ _ _ hm hq=>kdl_hint_values hm.1.typeIs hq
 iter:=fun _ _ hh hm=>⟨_,_,(fun _ _ hq=>vals_iter hm.1 hm.2 hq),walks_values hh _ d (Nat.ne_of_lt (let ⟨_,ho,_⟩:=hm.2;Heap.lt_size ho)) es ep,⟨⟨_,Heap.get?_push_size _ rfl,rfl,rfl⟩,hm.2.at fun o e=>Heap.get?_push_of_some _ e⟩⟩
end
end L2
namespace L2
open PySem PySem.Spec PyProof.Rows PySem.W
section
variable {prog:Program}{w:World}{K:Type} [DecidableEq K] {knd:HeapKind prog w K}{A:Around}{E:Value→Shared→Prop}{s:Shared}{d a:Addr}{xs:List (K×Addr×Value)}{k:K}{dv:Value}
theorem setdef_heap {Q:Value→Shared→Prop} (hu:knd.room A) (hk:knd.is s.heap k a) (hm:s.heap.DictOfH knd d xs) (hz:xs.length≤sizeLine) (h1 : ∀ p,atKey xs k=some p→Q p.2 { s with toks:=s.toks+knd.draws k })
 (h2:atKey xs k=none → ∀ h',h'.DictOfH knd d (storedH xs k a dv)→Heap.SameBut d s.heap h'→Q dv { s with heap:=h',toks:=s.toks+knd.draws k }):wpAny (model prog w) A (dictSetDefault d (.ref a) dv) Q E s:=by
 obtain ⟨o,es,ep,ho,hx,hd,he,his,hn⟩:=hm
 unfold dictSetDefault
 refine wpAny_holding (wpAny_bind (knd.pyHash hu hk (wpAny_bind (wpAny_dictFind_heap (s:={ s with toks:=s.toks+knd.draws k }) hu hk ho hd he his hn (fun no=>?_) fun j p hj=>?_))))
 ·have an:=atKey_none_of_get no
  have nm:=not_mem_keys_of_get no
  refine wpAny_bind (wpAny_rule (wpAny_bind (wpAny_updateDictKeys (hz:=by have e:=size_of_entries he;omega) (s:={ s with toks:=s.toks+knd.draws k }) ho hd (wpAny_pure (h2 an _ ?_ (Heap.SameBut.update ..))))))
  rw [storedH_new an]
  refine ⟨_,_,ep+1,Heap.get?_update_self _ ho (Obj.isFreed_of_dict (Obj.data_mapDictKeys hd _)),hx.mapDictKeys _,Obj.data_mapDictKeys hd _,by simp [he,entryOfKey],fun x mx=>?_,?_⟩
  ·rcases List.mem_append.mp mx with m|m
   ·exact knd.keeps (his x m) ho hd (Heap.SameBut.update ..)
   ·rw [List.mem_singleton.mp m];exact knd.keeps hk ho hd (Heap.SameBut.update ..)
  ·rw [List.map_append,List.nodup_append]
   refine ⟨hn,by simp,fun x mx y my e=>nm ?_⟩
   have:y=k:=by simpa using my
   rw [← this,← e];exact mx
 ·refine wpAny_bind (wpAny_dictEntries (s:={ s with toks:=s.toks+knd.draws k }) ho hd ?_)
  rw [entry_at he j,hj]
  exact wpAny_bind (wpAny_rule (wpAny_pure (h1 p (atKey_of_get hn hj))))
theorem setdef_call {Q:Value→Shared→Prop} (hu:knd.room A.in1) (hk:knd.is s.heap k a) (hy:(d==sysModules)=false) (hm:s.heap.DictOfH knd d xs) (hz:xs.length≤sizeLine) (h1 : ∀ p,atKey xs k=some p→Q p.2 { s with toks:=s.toks+knd.draws k })
 (h2:atKey xs k=none → ∀ h',h'.DictOfH knd d (storedH xs k a dv)→Heap.SameBut d s.heap h'→Q dv { s with heap:=h',toks:=s.toks+knd.draws k }):wpAny (model prog w) A (call (.builtin "dict.setdefault") [.ref d,.ref a,dv]) Q E s:=by
 refine wpAny_call_entry F.slot_dict_setdefault hm.typeIs F.entry_dict_setdefault ?_ (F.args_dict_setdefault_3 _ _ _)
 unfold Builtin.«dict.setdefault» Builtin.Dict.keyAndDefault
 refine wpAny_bind (wpAny_bind (wpAny_notOrdered_dict hm.typeIs ?_))
 show wpAny _ _ (pure (d,Value.ref a,some dv)) _ _ s
 refine wpAny_pure ?_
 show wpAny _ _ (if (d==sysModules)=true then _ else (dictSetDefault d (.ref a) dv >>= _)) _ _ s
 rw [if_neg (by rw [hy];exact Bool.false_ne_true)]
 exact wpAny_bind (setdef_heap hu hk hm hz (fun p e=>wpAny_pure ⟨_,rfl,h1 p e⟩) fun an h' q sb=>wpAny_pure ⟨_,rfl,h2 an h' q sb⟩)
end
section
variable {X:Cx}{pins:List (Addr×Obj)}{σ:St}{H:Hp}{s:Shared}{a b:Addr}{A:Around}{E:Value→Shared→Prop}{kvs:List (List Key×V)}{k:List Key}{dv:V}{r:Value}
theorem d_setdef {Q:Value→Shared→Prop} (hu:A.units+1<cLine) (I:Inv X pins σ H s) (e:H a=some (.dT kvs)) (eb:H b=some (.tup (k.map kV))) (hl:kvs.length<sizeLine) (rd:RelV dv r)
 (h1 : ∀ v,valV kvs k=some v → ∀ u s',Inv X pins σ H s'→RelV v u→Q u s') (h2:valV kvs k=none → ∀ s',Inv X pins σ (upd H a (.dT (putK kvs k dv))) s'→Q r s') :
 wpAny (model X.prog X.w) A (call (.builtin "dict.setdefault") [.ref a,.ref b,r]) Q E s:=by
  obtain ⟨z,hd,xs,rel,dd⟩:=dt_of I.hok e
  have hz:xs.length≤sizeLine:=by rw [← Paired.length rel];exact z
  have rv:=rel.val k
  refine setdef_call (tupleKind_room_in1 hu) (key_of I.hok eb) hd dd hz (fun p ep=>?_) fun an h' dd' sb=>?_
  ·rw [ep] at rv
   cases ev:valV kvs k with
   | none=>rw [ev] at rv;exact rv.elim
   | some v=>rw [ev] at rv;exact h1 v ev _ _ (I.tok _) rv
  ·rw [an] at rv
   cases ev:valV kvs k with
   | some v=>rw [ev] at rv;exact rv.elim
   | none =>
    have l2:(putK kvs k dv).length≤sizeLine:=by have:=length_putK kvs k dv;omega
    refine h2 ev _ ?_
    obtain ⟨q,es,ep,hq,g2,g3,g4,_,g5⟩:=dd'
    refine d_write I (by rw [e];exact True.intro) sb ⟨q,hq⟩ ⟨l2,hd,_,(rel.put k eb rd).keeps fun c ys ec=>?_,q,es,ep,hq,g2,g3,g4,g5⟩
    rw [upd_ne (ne_of ec e (fun z=>nomatch z))]
    exact ec
end
end L2
namespace L2
open PySem PySem.Spec PyProof.Rows PySem.W
section
variable {X:Cx}{pins:List (Addr×Obj)}{σ:St}{H:Hp}{s:Shared}{E:Value→Shared→Prop}{f:Addr}{es:Array DictEntry}{ep:Nat}{kl:Nat→List Int}{G:Hp→Prop}{m:Nat}{r d:Addr}{Q:Value→Shared→Prop}{vs:List Value}
theorem items_vals {acc:Array Value} (h:ItemsOf (fun i v => ∃ e,es[i]?=some e∧e.val=v) acc es.size):acc.toList=es.toList.map (·.val):=by
 refine List.ext_getElem? fun i=>?_
 obtain ⟨h1,h2⟩:=h
 rw [Array.getElem?_toList,List.getElem?_map,Array.getElem?_toList]
 by_cases hi:i<es.size
 ·have e:acc[i]?=some (acc[i]'(by omega)):=Array.getElem?_eq_getElem _
  obtain ⟨k,hk,hv⟩:=h2 i _ e
  rw [e,hk,← hv];rfl
 ·rw [Array.getElem?_eq_none (by omega),Array.getElem?_eq_none (by omega)];rfl
theorem sorted_vals (hu:X.A.in1.in1.units<cLine) (hh:X.A.handled=none) (I:Inv X pins σ H s) (hv:s.heap.IsValuesView r d) (hd:DictIs s.heap d es ep) (ev:es.toList.map (·.val)=vs) (hn:vs.length<64) (hc:KeyCall X pins σ X.A.in1.in1 (.ref f) vs true kl G) (o:OrdN vs.length (keyLess kl m))
 (hm : ∀ i,i<vs.length→(kl i).length=m) (g:G H)
 (k : ∀ (p:Array Nat) (l:Addr) (H':Hp) (s':Shared) (c:Nat),PmN vs.length p→SrtN (keyLess kl m) p vs.length→Inv X pins σ H' s'→Same H H'→G H'→OwnA X pins l→H' l=none→s'.heap.get? l=some (seqObj "list" (p.toList.map fun i=>vs.getD i .none).toArray c)→Q (.ref l) s') :
 wpAny (model X.prog X.w) X.A (call (.builtin "sorted") [.ref r] [(Str.ofString "key",.ref f)]) Q E s:=by
  subst ev
  have zl:es.size=(es.toList.map (·.val)).length:=by rw [List.length_map,Array.length_toList]
  refine call_function_entry_kw kind_sorted plain_sorted entry_sorted (ksk_s1 _ _) ?_
  unfold Builtin.«sorted»
  refine wpAny_bind (m:=checkCount "sorted" 1 1 _) (wpAny_pure (wpAny_bind (kdu_collect (T := "dict_values") (src_values (es:=es) (ep:=ep)) hh ⟨hv,hd⟩ (by rw [sizeLine_eq];omega) fun h1 tk acc keep items=>?_)))
  rw [items_vals items]
  have I1:=I.kept (t':=tk) keep
  have hL:(h1.push (seqObj "list" (es.toList.map (·.val)).toArray 0)).get? h1.objs.size=some (seqObj "list" (es.toList.map (·.val)).toArray 0):=Heap.get?_push_size _ rfl
  refine wpAny_bind (wpAny_newList ?_ (by rw [sizeLine_eq];omega))
  have I2:=I1.kept (t':=tk) (h':=h1.push (seqObj "list" (es.toList.map (·.val)).toArray 0)) fun b u e=>Heap.get?_push_of_some _ e
  have ow:=own_a I1 (Nat.le_refl _)
  have nl:=I1.hok.fresh (Nat.le_refl _)
  refine wpAny_bind (wpAny_holding (wpAny_call_entry_kw slot_list_sort ⟨_,hL,rfl⟩ entry_list_sort ?_ (ksk_l1 _ _)))
  show wpAny (model X.prog X.w) X.A.in1.in1 (Builtin.«list.sort» ⟨[.ref h1.objs.size],[(Str.ofString "key",.ref f)]⟩) _ _ _
  rw [ksk_t1]
  refine sort_keyed hu hc o hm I2 ow nl hn hL g fun p H' s' c hp hs I' sm g' na ha=>?_
  exact ⟨_,rfl,wpAny_pure ⟨_,rfl,k p _ H' s' c hp hs I' sm g' ow na ha⟩⟩
end
section
variable {X:Cx}{o e f:Expr}{apos cpos:Pos}{td ty tx:TE}
def tDSetD (td ty tx:TE):TE:=fun σ H Q=>td σ H fun x H1 => ∃ a,x = .ref a∧IsD H1 a∧ty σ H1 fun y H2=>tx σ H2 fun z H3 => ∃ kvs k b,H3 a=some (.dT kvs)∧y = .ref b∧H3 b=some (.tup (k.map kV))∧kvs.length<sizeLine ∧
 (∀ v,valV kvs k=some v→Q v H3)∧(valV kvs k=none→Q z (upd H3 a (.dT (putK kvs k z))))
theorem pe_dsetdef (hu:X.A.units+1<cLine) (ho:PE X o td) (he:PE X e ty) (hf:PE X f tx) (m:M2 X o "setdefault" apos e f cpos):PE X (.Call (.Attribute o "setdefault" apos) [e,f] [] cpos) (tDSetD td ty tx):=by
 intro pins s σ H Q I h
 refine wpAny_Call_method m.base m.few m.line PySem.F.plainAttrs_dict PySem.F.slot_dict_setdefault PySem.F.type_dict_setdefault (thn (ho pins s σ H _ I h) fun u s1 xx154=>?_)
 obtain ⟨x,H1,I1,rx,a,ex,d,q1⟩:=xx154
 subst ex
 obtain rfl:u=Value.ref a:=rx
 obtain ⟨t1,t2,_⟩:=isD_at I1 d
 refine ⟨t1,t2,?_⟩
 rw [m.trees]
 refine Calls.callWith_builtin rfl (Calls.evalArgs_plain (Calls.spliced_cons (thn (he pins s1 σ H1 _ I1 q1) fun iv s2 ⟨y,H2,I2,ry,q2⟩=>Calls.spliced_cons (thn (hf pins s2 σ H2 _ I2 q2) fun fv s3 ⟨z,H3,I3,rz,kvs,k,b,ea,ey,eb,hl,q3,q4⟩=>Calls.spliced_nil ?_))))
 subst ey
 obtain rfl:iv=Value.ref b:=ry
 exact d_setdef hu I3 ea eb hl rz (fun v ev u s4 I4 ru=>⟨_,H3,I4,ru,q3 v ev⟩) fun ev s4 I4=>⟨_,_,I4,rz,q4 ev⟩
end
end L2
namespace L2
open PySem PySem.Spec PyProof.Rows PySem.W
section
variable {X:Cx}{pins:List (Addr×Obj)}{σ:St}{H:Hp}{s:Shared}{a:Addr}{A:Around}{E:Value→Shared→Prop}{kvs:List (List Key×V)}
abbrev viewO (d:Addr):Obj:={ cls :=.type "dict_values",data :=.fields #[.ref d] }
theorem d_values {Q:Value→Shared→Prop} (I:Inv X pins σ H s) (e:H a=some (.dT kvs)) (h:Q (.ref s.heap.objs.size) { s with heap:=s.heap.push (viewO a) }):wpAny (model X.prog X.w) A (call (.builtin "dict.values") [.ref a]) Q E s:=by
 obtain ⟨_,hd,xs,_,dd⟩:=dt_of I.hok e
 refine wpAny_call_entry F.slot_dict_values dd.typeIs F.entry_dict_values ?_ (F.args_dict_values_1 _)
 refine wpAny_bind ?_
 unfold Builtin.Dict.noArgs
 refine wpAny_bind (wpAny_notOrdered_dict dd.typeIs ?_)
 show wpAny _ _ (pure a) _ _ s
 refine wpAny_pure ?_
 show wpAny _ _ (Builtin.Dict.showsAll a >>= _) _ _ s
 unfold Builtin.Dict.showsAll
 rw [if_neg (by rw [hd];exact Bool.false_ne_true)]
 exact wpAny_bind (wpAny_pure (wpAny_bind (wpAny_newObj_type (wpAny_pure ⟨_,rfl,h⟩))))
theorem dt_vals (I:Inv X pins σ H s) (e:H a=some (.dT kvs)) : ∃ es ep,DictIs s.heap a es ep∧Vals (kvs.map (·.2)) (es.toList.map (·.val)):=by
 obtain ⟨_,_,xs,rel,o,es,ep,h1,h2,h3,h4,_,_⟩:=dt_of I.hok e
 refine ⟨es,ep,⟨o,h1,h2,h3⟩,?_⟩
 rw [h4,List.map_map]
 have : ∀ {l:List (List Key×V)}{m:List (List Key×Addr×Value)},KT H l m→Vals (l.map (·.2)) (m.map ((·.val) ∘ entryOfKey (tupleKind (mixKind X.prog X.w)))):=by
  intro l m q
  induction q with
  | nil=>exact .nil
  | @cons p q ps qs hq t ih=>exact .cons hq.2.2 ih
 exact this rel
end
section
variable {X:Cx}{pins:List (Addr×Obj)}{σ:St}{x y:Str}{scope:Scope}{params:Arguments}{body:Expr}{te:TE}{f cg c:Addr}{pm ct:Value}{vg:V}{vsV:List V}{vs:List Value}{kl:Nat→List Int}{G:Hp→Prop}{oc:Obj}{uu:HO}{fv:Array Value}{q:Str}{t:Tok}{nm qual:Str}{iy:Nat}
theorem lam_key (S:LamScope scope x y) (hh:X.A.handled=none) (room:X.A.in1.in1.depth<recursionLimit) (hpin:(f,({ cls :=.type "function",data :=.func (kla_fn nm qual params body scope [(y,cg)] pm (.ref c) ct) }:Obj)) ∈ pins)
 (hb : ∀ u,bindArgs (kla_fn nm qual params body scope [(y,cg)] pm (.ref c) ct) ⟨[u],[]⟩=pure [(x,u)]) (d1:oc.data = .fields fv) (d2:fv[1]?=some (.str q t)) (hcl:X.env.cells.lookup y=some cg) (hyk:X.env.kindOf y=some .cell) (hN:X.N[iy]?=some y) (hv:σ[iy]?=some (some vg)) (rv:Vals vsV vs)
 (hfr:X.A.in1.in1.frames=X.A.frames) (hhd:X.A.in1.in1.handled=X.A.handled)
 (he : ∀ s H,PE (cxL X.prog X.w X.K X.mg X.base q scope f (.ref c) [(y,cg)] [x,y] X.A.in1.in1 X.stack s H) body te)
 (hk : ∀ (i:Nat) (v:V) (H:Hp),vsV[i]?=some v→G H→te [some v,some vg] H fun r H'=>Same H H'∧G H' ∧ ∃ p,r = .ref p∧H' p=some (.lst ((kl i).map V.int))) :
 KeyCall X pins σ X.A.in1.in1 (.ref f) vs true kl (fun H=>G H∧H c=some (.frz oc uu)):=by
 intro i u H s hi I g
 obtain ⟨g,ec⟩:=g
 have li:i<vs.length:=(List.getElem?_eq_some_iff.mp hi).1
 have lv:i<vsV.length:=by rw [rv.length];exact li
 have ev:vsV[i]?=some vsV[i]:=List.getElem?_eq_getElem lv
 obtain ⟨u',hu',ru⟩:=rv.get ev
 rw [hi] at hu'
 have eu:=Option.some.inj hu'
 subst eu
 obtain ⟨mm,ns,lk⟩:=I.loc
 obtain ⟨ug,rg,look⟩:=lk iy y vg hN hv (.inr (.inl hyk))
 have hc:s.heap.IsCell cg (some ug):=by
  rcases look with ⟨z,_⟩|⟨_,c',e1,e2⟩
  ·rw [hyk] at z;cases z
  ·rw [hcl] at e1
   rw [Option.some.inj e1];exact e2
 have e0:=I.env0
 have e1:Env0 X.prog X.w X.K X.mg X.base X.A.in1.in1 X.stack s H:=⟨by rw [hfr];exact e0.frames,e0.mod,e0.bs,e0.bsz,e0.funs,e0.frf,e0.hok,e0.bare⟩
 have pf:=I.pin _ (List.mem_append_right _ hpin)
 refine wpAny_call (codeAny_mono (lam_run (E:=fun _ _ _=>False) S (by rw [hhd];exact hh) e1 room pf.1 rfl (hb u) (I.hok c _ ec).1 d1 d2 hc (I.freeC y cg hcl) rg ru (he s H) (hk i _ H ev g)) fun r s' hr=>?_)
 cases r with
 | error e=>exact hr.elim
 | ok fl =>
  cases fl with
  | ret u2 =>
   obtain ⟨v',H',os,bare,un,hok,r',sm,g',p,ep,hp⟩:=hr
   subst ep
   obtain rfl:u2=Value.ref p:=r'
   exact ⟨H',I.call' os un hok bare (fun b z=>nomatch z),un,sm,⟨g',sm.at ec⟩,p,rfl,hp⟩
  | next=>exact hr.elim
  | brk=>exact hr.elim
  | cont=>exact hr.elim
end
theorem vals_pick {vsV:List V}{vs:List Value} (h:Vals vsV vs) : ∀ {l:List Nat},(∀ i ∈ l,i<vs.length)→Vals (l.map fun i=>vsV.getD i V.non) (l.map fun i=>vs.getD i Value.none)
 | [],_ => .nil
 | i::l,k=>by
  have hi:=k i (by simp)
  have ev:vsV[i]?=some (vsV[i]'(by rw [h.length];exact hi)):=List.getElem?_eq_getElem _
  obtain ⟨u,hu,ru⟩:=h.get ev
  refine .cons ?_ (vals_pick h fun j hj=>k j (List.mem_cons_of_mem _ hj))
  have a1:vsV.getD i V.non=(vsV[i]?).getD V.non:=by simp [List.getD]
  have a2:vs.getD i Value.none=(vs[i]?).getD Value.none:=by simp [List.getD]
  show RelV (vsV.getD i V.non) (vs.getD i Value.none)
  rw [a1,a2,ev,hu]
  exact ru
def tSK (tb:Addr) (ig iy:Nat) (te:TE):TE:=fun σ H Q => ∃ (d:Addr) (kvs:List (List Key×V)) (vg:V) (kl:Nat→List Int) (m:Nat),(σ[ig]?=some (some (.ref d))∧σ[iy]?=some (some vg)∧H d=some (.dT kvs)∧kvs.length<64) ∧
 OrdN (kvs.map (·.2)).length (keyLess kl m)∧(∀ i,i<(kvs.map (·.2)).length→(kl i).length=m) ∧ ∀ H1,TbGo tb H H1→Same H H1 → ∃ G:Hp→Prop,G H1 ∧
  (∀ (i:Nat) (v:V) (H2:Hp),(kvs.map (·.2))[i]?=some v→G H2→te [some v,some vg] H2 fun r H3=>Same H2 H3∧G H3 ∧ ∃ p,r = .ref p∧H3 p=some (.lst ((kl i).map V.int))) ∧
  ∀ (p:Array Nat) (l:Addr) (H3:Hp),PmN (kvs.map (·.2)).length p→SrtN (keyLess kl m) p (kvs.map (·.2)).length→Same H1 H3→G H3→H3 l=none→H l=none→Q (.ref l) (upd H3 l (.lst (p.toList.map fun i=>(kvs.map (·.2)).getD i .non)))
section
variable {X:Cx}{x y g:Str}{scope:Scope}{params:Arguments}{body:Expr}{te:TE}{cg c0 tb:Addr}{ig iy:Nat}{np gp ap cp lp kp pos:Pos}
theorem pe_sortedK (hu:X.A.in1.in1.units<cLine) (hh:X.A.handled=none) (room:X.A.in1.in1.depth<recursionLimit) (hT:TbS tb X.H₀) (hcode:X.env.code = .ref c0) (C:CodeHd X.base c0 tb) (hbt:X.base.BuiltinsAt X.mg tb) (hg:Gl X "sorted") (hm:X.mg "sorted" = none) (hvar:PE X (.Name g gp) (tVar ig)) (S:LamScope scope x y)
 (hcl:closureFor scope X.env=pure [(y,cg)]) (hlk:X.env.cells.lookup y=some cg) (hyk:X.env.kindOf y=some .cell) (hN:X.N[iy]?=some y)
 (hb : ∀ nm qual pm c ct u,bindArgs (kla_fn nm qual params body scope [(y,cg)] pm (.ref c) ct) ⟨[u],[]⟩=pure [(x,u)])
 (he : ∀ q f c s H,PE (cxL X.prog X.w X.K X.mg X.base q scope f (.ref c) [(y,cg)] [x,y] X.A.in1.in1 X.stack s H) body te)
 (hdef:defaultsOf params X.env=([],[]):=by rfl) (hfr:X.A.in1.in1.frames=X.A.frames:=by rfl) (hhd:X.A.in1.in1.handled=X.A.handled:=by rfl)
  (hbase:attributeBase (.Name g gp) "values" X.env (eval (.Name g gp) X.env)=eval (.Name g gp) X.env:=by rfl)
  (hfew:((backTo cp (starEach [] X.env)).all (fun x => !x.1)&&(backToKw cp (keywordEach [] X.env)).all (fun x=>x.1.isSome)&&decide (([]:List Expr).length+([]:List Keyword).length+(if ([]:List Keyword).isEmpty then 0 else 1)<30))=true:=by rfl)
  (hline:(ap.endLine==cp.line)=true:=by rfl) :
  PE X (.Call (.Name "sorted" np) [.Call (.Attribute (.Name g gp) "values" ap) [] [] cp] [⟨some "key",.Lambda params body scope lp,kp⟩] pos) (tSK tb ig iy te):=by
  intro pins s σ H Q I h
  obtain ⟨d,kvs,vg,kl,m,⟨e1,e2,ed,hn⟩,o,hm',rest⟩:=h
  have T:=TbS.of I hT
  refine wpAny_Call_Name_kw (ld_blt I hg hm boot_sorted ?_)
  refine callWith_kw ?_
  show wpAny _ _ (spliced [(false,eval (.Call (.Attribute (.Name g gp) "values" ap) [] [] cp) X.env)]) _ _ s
  refine Calls.spliced_cons ?_
  refine wpAny_Call_method hbase hfew hline PySem.F.plainAttrs_dict PySem.F.slot_dict_values PySem.F.type_dict_values (thn (hvar pins s σ H (fun v H'=>v = .ref d∧H'=H) I ⟨_,e1,rfl,rfl⟩) fun u s1 xx156=>?_)
  obtain ⟨v1,H1,I1,r1,ev,eH⟩:=xx156
  subst ev
  subst eH
  obtain rfl:u=Value.ref d:=r1
  obtain ⟨t1,t2,_⟩:=isD_at I1 (.inr ⟨kvs,.inl ed⟩)
  refine ⟨t1,t2,?_⟩
  refine Calls.callWith_builtin rfl (PySem.evalArgs_none ?_)
  refine d_values I1 ed ?_
  have hkp : ∀ b u,s1.heap.get? b=some u→(s1.heap.push (viewO d)).get? b=some u:=fun b u e=>Heap.get?_push_of_some _ e
  have gv:(s1.heap.push (viewO d)).get? s1.heap.objs.size=some (viewO d):=Heap.get?_push_size _ rfl
  have ow:=own_a I1 (Nat.le_refl _)
  have nv:=I1.hok.fresh (Nat.le_refl _)
  have nfs:s1.heap.objs.size ∉ X.fs:=fun z=>ow.f (by
   rcases I1.ok.stk with q|⟨q,q2⟩
   ·rw [q];exact z
   ·rw [q];unfold frs;rw [List.filterMap_cons,q2];exact List.mem_cons_of_mem _ z)
  have I2:=(I1.kept (t':=s1.toks) hkp).pinOne gv nv ow.l nfs (fun v z=>by cases z)
  refine Calls.spliced_nil ?_
  refine kws_cons (kla_eval hdef (lam_make I2 (TbS.of I2 hT) hcode C hbt hcl fun f c ct pm oc fv q t s3 H3 I3 go new hf xx155 d1 d2=>?_))
  obtain ⟨uu,ec⟩:=xx155
  refine kws_nil ?_
  show wpAny _ _ (call (.builtin "sorted") [.ref s1.heap.objs.size] [(Str.ofString "key",.ref f)]) _ _ s3
  obtain ⟨G,g0,hk,fin⟩:=rest H3 go (go.same (TbS.of I1 hT))
  have ne:d≠tb:=fun z=>by
   obtain ⟨ps,et,_⟩:=TbS.of I1 hT
   rw [← z,ed] at et;cases et
  have ed3:H3 d=some (.dT kvs):=go.h _ _ ne ed
  obtain ⟨es,ep,hD,hV⟩:=dt_vals I3 ed3
  have hvw:s3.heap.IsValuesView s1.heap.objs.size d:=⟨_,(I3.pin (s1.heap.objs.size,viewO d) (List.mem_append_right _ (List.mem_append_left _ (List.mem_append_right _ (List.mem_singleton.mpr rfl))))).1,rfl,rfl⟩
  have zl:(es.toList.map (·.val)).length=(kvs.map (·.2)).length:=hV.length.symm
  refine sorted_vals hu hh I3 hvw hD rfl (by rw [zl,List.length_map];exact hn) (lam_key (G:=G) (kl:=kl) (uu:=uu) (oc:=oc) (vsV:=kvs.map (·.2)) (iy:=iy) S hh room (List.mem_append_right _ (List.mem_singleton.mpr rfl)) (fun u=>hb _ _ _ _ _ u) d1 d2 hlk hyk hN e2 hV hfr hhd (fun s H=>he q f c s H) hk) (by rw [zl];exact o) (by rw [zl];exact hm') ⟨g0,ec⟩ fun p l H4 s4 cc hp hs I4 sm g4 ow4 nl hl=>?_
  have hp':PmN (kvs.map (·.2)).length p:=by rw [← zl];exact hp
  have hs':SrtN (keyLess kl m) p (kvs.map (·.2)).length:=by rw [← zl];exact hs
  have nl0:H1 l=none:=by
   cases eq:H1 l with
   | none=>rfl
   | some o' =>
    exfalso
    by_cases z:l=tb
    ·obtain ⟨ps,et,_⟩:=go.ts
     rw [← z] at et
     obtain ⟨_,this⟩:=sm.any et
     rw [nl] at this;cases this
    ·obtain ⟨_,this⟩:=sm.any (go.h _ _ z eq)
     rw [nl] at this;cases this
  have vp:Vals (p.toList.map fun i=>(kvs.map (·.2)).getD i V.non) (p.toList.map fun i=>(es.toList.map (·.val)).getD i Value.none):=vals_pick hV fun i hi=>by
   have:=hp.p.mem_iff.mp hi
   exact List.mem_range.mp this
  have I5:=I4.track (u :=.lst (p.toList.map fun i=>(kvs.map (·.2)).getD i V.non)) ow4 nl ⟨by rw [List.length_map,Array.length_toList,hp.s,zl,List.length_map,sizeLine_eq];omega,_,cc,vp,hl⟩
  exact ⟨.ref l,_,I5.unpinned.unpinned,rfl,fin p l H4 hp' hs' sm g4.1 nl nl0⟩
end
end L2
namespace L2
open PySem PySem.Spec PyProof.Rows PySem.W
def Tbs (ts:List Addr) (H:Hp):Prop := ∀ t ∈ ts,TbS t H
def spLawT (ts:List Addr) (K:PySem.W.Frag):Sp:=fun vs H Q E=>Tbs ts H∧spLaw K vs H Q E
section
variable {P:Program}{w:World}{K:PySem.W.Frag}{mg mb:Str→Option Value}{CX:CXT}{k:Nat}{fa a:Addr}{ts:List Addr}{fd:FuncData}{x:Str}{sp:Sp}{s:Shared}{vs:List Value}{ns:List Int}
theorem law_core {H:Hp} (KX:K.In s.heap) (hns:s.heap.Ns mainGlobals mg) (hb:s.heap.Ns builtinsNs mb) (hbb : ∀ x:Str,x ≠ "__name__" → mb x=bootBuiltins x) (hlim:s.heap.NoLimit) (hg:s.gens = #[]) (ha:s.heap.get? a=some { cls :=.type "list",data :=.seq vs.toArray })
 (hr:Room k callerA) (ht : ∀ b ∈ ts,∃ c,s.heap.TableAt c b #[]) (hKt : ∀ b ∈ ts,K.lookup b=none) (F : ∀ base:Heap,K.In base→base.Ns mainGlobals mg→FnOk P w K mg base CX k fa fd [x] sp) (hbind : ∀ (s:Shared) (u:Value),BindsTo s fd ⟨[u],[]⟩ [(x,u)])
 (hA : ∀ b,H b≠none→b=a∨b ∈ ts) (hF : ∀ u,H a=some u → ∃ o xs,u = .frz o (.lst xs)) (hT : ∀ b ∈ ts,H b=some (.tbl #[])) (hok:HOk P w H s.heap) (hK:H a≠none→K.lookup a=none)
 (hsp:sp [.ref a] H (fun v _=>v = .bl true) fun _ _ _=>False) (hCX : ∀ e s',CX [] H s (fun _ _ _=>False) e s'→False) :
 codeAny (model P w) callerA (.call (.ref fa) ⟨[.ref a],[]⟩) (fun r s'=>r = .ok (.ret (.bool true))∧OldK s.heap s'.heap∧s'.os=s.os∧AllBare s'.gens) s:=by
 have bo : ∀ {b:Addr}{o:Obj},s.heap.get? b=some o→H b=none→(hidT s.heap H).get? b=some o:=fun e n=>hidT_get e n
 have nd : ∀ {b:Addr}{o:Obj}{es:Array DictEntry}{ep:Nat},s.heap.get? b=some o→o.data = .dict es ep→H b=none:=fun {b o es ep} e d=>by
  cases q:H b with
  | none=>rfl
  | some u =>
   rcases hA b (by rw [q];simp) with z|z
   ·subst z
    rw [ha] at e;cases e
    have d':Data.seq vs.toArray _=Data.dict es ep:=d
    cases d'
   ·obtain ⟨c,ht⟩:=ht b z
    rw [ht.2] at e;cases e
    cases d
 have nsK : ∀ {b:Addr}{m:Str→Option Value},s.heap.Ns b m→(hidT s.heap H).Ns b m:=fun xx157=>by obtain ⟨o,es,ep,e,d,r⟩:=xx157;exact ⟨o,es,ep,bo e (nd e d),d,r⟩
 have kb:K.In (hidT s.heap H):=fun b o e=>bo (KX b o e) (by
  cases q:H b with
  | none=>rfl
  | some u =>
   rcases hA b (by rw [q];simp) with z|z
   ·subst z
    rw [hK (by rw [q];simp)] at e;cases e
   ·rw [hKt b z] at e;cases e)
 have M:Mod K mg (hidT s.heap H):=⟨kb,nsK hns,⟨mb,nsK hb,hbb⟩,let ⟨mc,h1,h2⟩:=hlim; ⟨mc,nsK h1,h2⟩⟩
 have e0:Env0 P w K mg (hidT s.heap H) callerA [] s H:=⟨rfl,M,fun b o e=>of_hidT e,Nat.le_of_eq (hidT_size _ _),trivial,fun b hb=>absurd (show b ∈ ([]:List Addr) from hb) (by simp),hok,.of_eq hg⟩
 refine codeAny_mono ((F _ kb (nsK hns)).run callerA [] s H ⟨[.ref a],[]⟩ [.ref a] [.ref a] _ _ hr e0 (hbind s (.ref a)) (.cons rfl .nil) hsp) fun r s' h=>?_
 cases r with
 | error e=>exact (hCX e s' h).elim
 | ok fl =>
  cases fl with
  | next=>exact False.elim h
  | brk=>exact False.elim h
  | cont=>exact False.elim h
  | ret u =>
   obtain ⟨v,H',os,bare,un,hok',r',q⟩:=h
   have q':v = .bl true:=q
   subst q'
   obtain rfl:u=Value.bool true:=r'
   refine ⟨rfl,⟨fun b o e=>?_,fun b o e=>un.there b o e (by simp)⟩,os,bare⟩
   cases qb:H b with
   | none=>exact .inl (un.keep b o e qb (by simp [frs]) (by simp))
   | some u =>
    rcases hA b (by rw [qb];simp) with z|z
    ·subst z
     obtain ⟨o2,xs,e3⟩:=hF u qb
     rw [e3] at qb
     obtain ⟨e1,_⟩:=hok b _ qb
     obtain ⟨e2,_⟩:=hok' b _ (un.frzs b _ _ qb)
     rw [e] at e1;cases e1
     exact .inl e2
    ·obtain ⟨c,ht⟩:=ht b z
     obtain ⟨more,e1,_⟩:=un.tbls b _ (hT b z)
     have e2:s'.heap.get? b=some (tabObj (#[]++more)):=hok' b _ e1
     rw [ht.2] at e
     cases e
     exact .inr (.inl ⟨ht.isCodeTable,rfl,#[],more,rfl,e2⟩)
theorem law_callT (KX:K.In s.heap) (hns:s.heap.Ns mainGlobals mg) (hb:s.heap.Ns builtinsNs mb) (hbb : ∀ x:Str,x ≠ "__name__" → mb x=bootBuiltins x) (hlim:s.heap.NoLimit) (hg:s.gens = #[]) (ha:s.heap.get? a=some { cls :=.type "list",data :=.seq vs.toArray }) (hi:IntsAre vs ns) (hl:ns.length≤sizeLine)
 (hr:Room k callerA) (ht : ∀ b ∈ ts,∃ c,s.heap.TableAt c b #[]) (hKt : ∀ b ∈ ts,K.lookup b=none) (F : ∀ base:Heap,K.In base→base.Ns mainGlobals mg→FnOk P w K mg base CX k fa fd [x] sp) (hbind : ∀ (s:Shared) (u:Value),BindsTo s fd ⟨[u],[]⟩ [(x,u)])
 (hsp : ∀ H:Hp,Tbs ts H→SqL K H a (ns.map V.int)→sp [.ref a] H (fun v _=>v = .bl true) fun _ _ _=>False) (hCX : ∀ H e s',CX [] H s (fun _ _ _=>False) e s'→False) :
 codeAny (model P w) callerA (.call (.ref fa) ⟨[.ref a],[]⟩) (fun r s'=>r = .ok (.ret (.bool true))∧OldK s.heap s'.heap∧s'.os=s.os∧AllBare s'.gens) s:=by
 have rv:=vals_ints hi
 have lv:=hi.length
 have ne:a ∉ ts:=fun z=>by
  obtain ⟨c,ht⟩:=ht a z
  have:=ht.2
  rw [ha] at this
  cases this
 cases hk:K.lookup a with
 | some o =>
  have e:=KX a o hk
  rw [ha] at e
  cases e
  refine law_core (H:=fun b=>if b ∈ ts then some (.tbl #[]) else none) KX hns hb hbb hlim hg ha hr ht hKt F hbind (fun b z=>?_) (fun u z=>?_) (fun b hb=>if_pos hb) (fun b u z=>?_) (fun z=>absurd (if_neg ne) z) (hsp _ (fun t ht=>⟨#[],if_pos ht,.nil⟩) ?_) (fun e s'=>hCX _ e s')
  ·by_cases q:b ∈ ts
   ·exact .inr q
   ·exact absurd (if_neg q) z
  ·have:=(if_neg ne).symm.trans z
   cases this
  ·by_cases q:b ∈ ts
   ·have z':=(if_pos q).symm.trans z
    cases z'
    obtain ⟨c,ht⟩:=ht b q
    exact ht.2
   ·have z':=(if_neg q).symm.trans z
    cases z'
  ·exact .inr ⟨_,vs.toArray,_,hk,rfl,rfl,rfl,by rw [List.size_toArray,lv];exact hl,by simpa using rv⟩
 | none =>
  refine law_core (H:=fun b=>if b ∈ ts then some (.tbl #[]) else if b=a then some (.frz { cls :=.type "list",data :=.seq vs.toArray } (.lst (ns.map V.int))) else none) KX hns hb hbb hlim hg ha hr ht hKt F hbind (fun b z=>?_) (fun u z=>?_) (fun b hb=>if_pos hb) (fun b u z=>?_) (fun _=>hk) (hsp _ (fun t ht=>⟨#[],if_pos ht,.nil⟩) ?_) (fun e s'=>hCX _ e s')
  ·by_cases q:b ∈ ts
   ·exact .inr q
   ·by_cases q2:b=a
    ·exact .inl q2
    ·exact absurd ((if_neg q).trans (if_neg q2)) z
  ·have z':=((if_neg ne).trans (if_pos rfl)).symm.trans z
   exact ⟨_,_,(Option.some.inj z').symm⟩
  ·by_cases q:b ∈ ts
   ·have z':=(if_pos q).symm.trans z
    cases z'
    obtain ⟨c,ht⟩:=ht b q
    exact ht.2
   ·by_cases q2:b=a
    ·have z':=((if_neg q).trans (if_pos q2)).symm.trans z
     cases z'
     subst q2
     exact ⟨ha,by rw [List.length_map];exact hl,vs,_,rv,ha⟩
    ·have z':=((if_neg q).trans (if_neg q2)).symm.trans z
     cases z'
  ·exact .inl (.inr ⟨{ cls :=.type "list",data :=.seq vs.toArray },(if_neg ne).trans (if_pos rfl)⟩)
end
theorem walk_ofT {l:PySem.W.OpenLaw}{n k:Nat}{q:Program}{loose:List Str}{XP:(Str→Option Value)→Heap→Prop}{YP:World→Heap→Prop}{d:DefRec}{K:Params→PySem.W.Frag}{tbs:Params→List Addr}{CX:World→CXT}{sp:World→Sp}{x:Str}
 (hn:l.most=some n) (hn2:n≤sizeLine) (hdf:d.params.defaults=[]) (hr:Room k callerA) (hY : ∀ (w:World) (h:Heap),YP w h→(K w.params).In h ∧ ∀ b ∈ tbs w.params,∃ c,h.TableAt c b #[]) (hKt : ∀ P,∀ b ∈ tbs P,(K P).lookup b=none)
 (F : ∀ (w:World) (mg:Str→Option Value) (fa:Addr) (h:Heap),(K w.params).In h→h.Ns mainGlobals mg→mg d.name=some (.ref fa) →
 ∃ fd:FuncData,(∀ (s:Shared) (u:Value),BindsTo s fd ⟨[u],[]⟩ [(x,u)]) ∧ ∀ base:Heap,(K w.params).In base→base.Ns mainGlobals mg→FnOk l.prog w (K w.params) mg base (CX w) k fa fd [x] (sp w))
 (hsp : ∀ (w:World) (H:Hp) (a:Addr) (ns:List Int),ns.length≤n→Tbs (tbs w.params) H→SqL (K w.params) H a (ns.map V.int)→sp w [.ref a] H (fun v _=>v = .bl true) fun _ _ _=>False)
 (hCX : ∀ (w:World) (H:Hp) (s:Shared) (e:Value) (s':Shared),CX w [] H s (fun _ _ _=>False) e s'→False):PySem.W.WalkO q loose XP YP l.row.toRowW d [] (fun f vs=>PySem.call f vs):=by
  refine Att.attach_call hn hdf fun w s₀ s₁ mg mb fa o pm cd doc a vs ns G Y ho hd hcd hmg hobj hints hlen hg=>?_
  obtain ⟨KX,ht⟩:=hY w _ Y
  obtain ⟨fd,hb,hF⟩:=F w mg fa _ KX G.T.g hmg
  exact law_callT KX G.T.g G.T.b G.T.builtins G.T.nolimit hg hobj hints (Nat.le_trans hlen hn2) hr ht (hKt w.params) hF hb (fun H hO hS=>hsp w H a ns hlen hO hS) fun H e s'=>hCX w H s₁ e s'
end L2
namespace L2
open PySem PySem.Spec PyProof.Rows PySem.W
def tabIn (K:PySem.W.Frag) (c tb:Addr):Bool:=match K.lookup c with
 | some ⟨.type "code",_,.fields vs,_⟩=>(vs[11]?==some (.ref tb))&&(match vs.getD 18 .none with | .str _ _=>true|_=>false)&&(match vs.getD 7 .none with | .int _ _=>true|_=>false)&&(match vs.getD 9 .none with | .bool _=>true|_=>false)&&(match vs.getD 10 .none with | .int _ _=>true|_=>false)&&c != tb
 | _=>false
theorem codeHd_of {K:PySem.W.Frag}{h:Heap}{c tb:Addr} (X:K.In h) (q:tabIn K c tb=true):CodeHd h c tb:=by
 unfold tabIn at q
 split at q
 case h_2=>cases q
 rename_i dd vs sl ho
 simp only [Bool.and_eq_true,beq_iff_eq,bne_iff_ne] at q
 obtain ⟨⟨⟨⟨⟨e1,e2⟩,e3⟩,e4⟩,e5⟩,e6⟩:=q
 have e7:vs.getD 11 .none = .ref tb:=by
  have:vs.getD 11 .none=(vs[11]?).getD .none:=by simp [Array.getD_eq_getD_getElem?]
  rw [this,e1];rfl
 split at e2
 case h_2=>cases e2
 rename_i x2 t2 g2
 split at e3
 case h_2=>cases e3
 rename_i x3 t3 g3
 split at e4
 case h_2=>cases e4
 rename_i x4 g4
 split at e5
 case h_2=>cases e5
 rename_i x5 t5 g5
 exact ⟨_,vs,x2,t2,x3,t3,x4,x5,t5,X _ _ ho,rfl,rfl,e1,e7,g2,g3,g4,g5,e6⟩
def blIn (K:PySem.W.Frag) (bm tb:Addr):Bool:=match K.lookup bm with
 | some ⟨.type "module",some d,.plain,_⟩=>d==builtinsNs&&bm != builtinsNs&&bm != mainGlobals&&bm != tb
 | _=>false
theorem bltn_of {K:PySem.W.Frag}{h:Heap}{mg:Str→Option Value}{bm tb:Addr} (X:K.In h) (hm:mg "__builtins__" = some (.ref bm)) (q:blIn K bm tb=true):h.BuiltinsAt mg tb:=by
 unfold blIn at q
 split at q
 case h_2=>cases q
 rename_i d sl ho
 simp only [Bool.and_eq_true,beq_iff_eq,bne_iff_ne] at q
 obtain ⟨⟨⟨e1,e2⟩,e3⟩,e4⟩:=q
 subst e1
 exact ⟨bm,_,hm,e2,e3,e4,X _ _ ho,rfl,rfl,rfl⟩
structure DefT (K:PySem.W.Frag) (mg:Str→Option Value) (x:Str) (st:Stmt) (ps:List Str) (c0:Addr):Prop where
 ex : ∃ (f:Addr) (oc:Value) (od:Option Addr) (kV doc pm:Value) (an:Option Addr) (ct:Value) (osl:Array (Option Value)),K.lookup f=some ⟨oc,od,.func (PySem.W.fnOf x x (defArgs st) (defBody st) (defScope st) .none kV doc pm an (.ref c0) ct),osl⟩∧PySem.W.codeIn K (.ref c0) x=true ∧
  PySem.W.keepIn K (.ref f)=true∧mg x=some (.ref f)∧Binds K (PySem.W.fnOf x x (defArgs st) (defBody st) (defScope st) .none kV doc pm an (.ref c0) ct) ps []
theorem DefT.ok {P:Program}{w:World}{K:PySem.W.Frag}{mg:Str→Option Value}{base:Heap}{x:Str}{st:Stmt}{N ps:List Str}{k:Nat}{sp:Sp}{c0:Addr} (F:DefT K mg x st ps c0) (S:FnScope N ps (defScope st)) (len : ∀ vs H Q E,sp vs H Q E→vs.length=ps.length)
 (hbody : ∀ (f:Addr) (A:Around) (outer:List Env) (s:Shared) (H:Hp) (vs:List V) (Q:VK) (E:XK),Room k (A.deeper (envOfC x (defScope st) s.heap.objs.size f (.ref c0)))→sp vs H Q E →
 ∃ t,PSs (cxOf CX0 P w K mg base N x (defScope st) f (.ref c0) A outer s H E).nox (defBody st) t∧t { nx:=fun _ H'=>Q .non H',rt:=Q } (start N vs) H):Ok P w K mg base x (k+1) ps sp:=by
  obtain ⟨f,oc,od,kV,doc,pm,an,ct,osl,lk,hcd,kp,hm,hb⟩:=F.ex
  refine ⟨f,_,fn_of lk hcd S len fun A outer s H vs Q E hr hsp=>?_,hm,kp,hb⟩
  obtain ⟨t,h,q⟩:=hbody f A outer s H vs Q E hr hsp
  exact ⟨t,h.nox,q⟩
def TaSp (ts:List Addr) (sp:Sp):Sp:=fun vs H Q E=>Tbs ts H∧sp vs H Q E
theorem Ok.t {X:Cx}{x:Str}{k:Nat}{ps:List Str}{sp:Sp}{ts:List Addr} (O:Ok X.prog X.w X.K X.mg X.base x k ps (TaSp ts sp)) (h:Tbs ts X.H₀):OkC X x k ps sp :=
 ⟨_,O,fun _ _ _ _ _ _ _ I q=>⟨fun t ht=>TbS.of I (h t ht),q⟩⟩
section
variable {P:Program}{w:World}{K:PySem.W.Frag}{mg:Str→Option Value}{base:Heap}{ts:List Addr}
theorem Def.tvok {x:Str}{st:Stmt}{N ps:List Str}{k:Nat}{sp:DC} (F:Def K mg x st ps) (S:FnScope N ps (defScope st)) (len : ∀ ds q,sp ds q→ds.length=ps.length)
 (hbody : ∀ (f:Addr) (cdv:Value) (A:Around) (outer:List Env) (s:Shared) (H:Hp) (E:XK),Room k (A.deeper (envOfC x (defScope st) s.heap.objs.size f cdv))→Tbs ts H → ∀ ds q,sp ds q →
 ∃ W,VSs (cxOf CX0 P w K mg base N x (defScope st) f cdv A outer s H E).nox (defBody st) W∧W { nx:=fun _=>q .none,rt:=fun r _=>q r.data } (startE N ds)):Ok P w K mg base x (k+1) ps (TaSp ts (PSp K sp)) :=
  F.ok S (fun vs H Q E xx159=>by obtain ⟨_,F,ds,q,_,i,h,_⟩:=xx159;rw [i.len];exact len ds q h) fun f cdv A outer s H vs Q E hr xx158=>by
   obtain ⟨hT,F,ds,q,sm,i,h,kk⟩:=xx158
   obtain ⟨W,hW,hq⟩:=hbody f cdv A outer s H E hr hT ds q h
   refine ⟨_,hW,⟨H,H,F⟩,startE N ds,F,_,env_start sm i,hq,⟨fun e1 F1 H1 σ1 I1 s1 q1=>kk _ _ F1 H1 I1.goOf is_non q1,fun r v e1 F1 H1 σ1 I1 s1 r1 q1=>?_,fun _ _ _ _ _ _ h=>h.elim,fun _ _ _ _ _ _ h=>h.elim⟩⟩
   obtain ⟨F2,g,j⟩:=r1.is I1
   exact kk _ _ F2 H1 g j q1
theorem Def.tvokF {x:Str}{st:Stmt}{N ps:List Str}{k:Nat}{sp:List PyData→(List PyData→Prop)→Prop} (F:Def K mg x st ps) (S:FnScope N ps (defScope st)) (len : ∀ ds q,sp ds q→ds.length=ps.length)
 (hbody : ∀ (f:Addr) (cdv:Value) (A:Around) (outer:List Env) (s:Shared) (H:Hp) (E:XK),Room k (A.deeper (envOfC x (defScope st) s.heap.objs.size f cdv))→Tbs ts H → ∀ ds q,sp ds q →
 ∃ W,VSs (cxOf CX0 P w K mg base N x (defScope st) f cdv A outer s H E).nox (defBody st) W∧W { nx:=fun _=>False,rt:=fun r _ => ∃ l,r = .own l∧q l } (startE N ds)):Ok P w K mg base x (k+1) ps (TaSp ts (FSp K sp)) :=
  F.ok S (fun vs H Q E xx161=>by obtain ⟨_,F,ds,q,_,i,h,_⟩:=xx161;rw [i.len];exact len ds q h) fun f cdv A outer s H vs Q E hr xx160=>by
   obtain ⟨hT,F,ds,q,sm,i,h,kk⟩:=xx160
   obtain ⟨W,hW,hq⟩:=hbody f cdv A outer s H E hr hT ds q h
   refine ⟨_,hW,⟨H,H,F⟩,startE N ds,F,_,env_start sm i,hq,⟨fun e1 F1 H1 σ1 I1 s1 q1=>q1.elim,fun r v e1 F1 H1 σ1 I1 s1 r1 q1=>?_,fun _ _ _ _ _ _ h=>h.elim,fun _ _ _ _ _ _ h=>h.elim⟩⟩
   obtain ⟨l,rfl,q1⟩:=q1
   obtain ⟨a,vs,rfl,h1,h2,h3,h4,h5⟩:=r1
   exact kk l a vs F1 H1 I1.goOf h4 h2 h1 h5 q1
end
end L2
namespace L2
open PySem PySem.Spec PyProof.Rows
theorem intsAre_get : ∀ {us:List Value}{ns:List Int},IntsAre us ns → ∀ (i:Nat) (v:Value),us[i]?=some v → ∃ n t,ns[i]?=some n∧v = .int n t
 | _,_,.nil,i,v,h=>by simp at h
 | _,_,.cons n t r,0,v,h=>by
  rw [List.getElem?_cons_zero,Option.some.injEq] at h
  exact ⟨n,t,by rw [List.getElem?_cons_zero],h.symm⟩
 | _,_,.cons n t r,i+1,v,h=>by
  rw [List.getElem?_cons_succ] at h
  obtain ⟨m,k,e,z⟩:=intsAre_get r i v h
  exact ⟨m,k,by rw [List.getElem?_cons_succ];exact e,z⟩
theorem intsAre_len : ∀ {us:List Value}{ns:List Int},IntsAre us ns→us.length=ns.length
 | _,_,.nil=>rfl
 | _,_,.cons n t r=>by rw [List.length_cons,List.length_cons,intsAre_len r]
theorem any_range {us:List Value}{ns:List Int} (hb:IntsAre us ns):((List.range us.toArray.size).any fun i=>((ns[i]?).getD 1) != 0)=ns.any (· != 0):=by
 have hlen:us.toArray.size=ns.length:=by rw [List.size_toArray];exact intsAre_len hb
 rw [hlen,Bool.eq_iff_iff,List.any_eq_true,List.any_eq_true]
 constructor
 ·rintro ⟨i,hi,z⟩
  have hi':=List.mem_range.mp hi
  refine ⟨ns[i],List.getElem_mem hi',?_⟩
  simpa [hi'] using z
 ·rintro ⟨b,hb',z⟩
  obtain ⟨i,hi,rfl⟩:=List.getElem_of_mem hb'
  exact ⟨i,List.mem_range.mpr hi,by simpa [hi] using z⟩
section
variable {X:Cx}
def rAnyL (K:PySem.W.Frag):List V→Hp→VK→Prop:=fun xs H Q => ∃ (a:Addr) (ns:List Int),xs=[.ref a]∧SqL K H a (ns.map V.int)∧Q (.bl (ns.any (· != 0))) H
theorem call_anyL (hc:X.calm=true):CallR X (.builtin "any") (rAnyL X.K):=by
 intro pins s σ H xs us Q I r h
 obtain ⟨a,ns,rfl,ha,q⟩:=h
 obtain ⟨u,rfl,rx⟩:=vals1 r
 cases rx
 obtain ⟨its,rv,pl,_⟩:=I.list ha
 have hl:=pl.isList
 have hb:=intsAre_of rv
 have hlt:a<s.heap.objs.size:=pl.lt
 refine call_any_walk (wpAny_pyIter_list hl ?_)
 refine ⟨s.heap.objs.size,[s.heap.objs.size,a],[s.heap.objs.size],its.toArray.size,_,_,fun i=>((ns[i]?).getD 1) != 0,rfl,Walks.list (A:=X.A.in1) (I.ok.hd hc) _ a (Nat.ne_of_lt hlt) its.toArray,
  ⟨⟨_,Heap.get?_push_size _ rfl,rfl,rfl⟩,hl.push _⟩,fun i v s' Q' E' hP hQ=>?_,fun h' tk hk=>?_⟩
 ·obtain ⟨n,t,e,rfl⟩:=intsAre_get hb i v (by simpa using hP)
  simp only [e,Option.getD_some] at hQ
  exact P.truthy_int hQ
 ·rw [any_range hb]
  refine ⟨.bl (ns.any (· != 0)),H,I.kept (t':=tk) (fun b o z=>hk b o (fun hm=>?_) (Heap.get?_push_of_some _ z)),rfl,q⟩
  rw [List.mem_singleton.mp hm] at z
  exact Nat.lt_irrefl _ (Heap.lt_size z)
def dAnyI:DC
 | [.list l],q => ∃ ns:List Int,l=ns.map .int∧q (.bool (ns.any (· != 0)))
 | _,_=>False
theorem c_anyI (hc:X.calm=true):CallV X (.builtin "any") dAnyI:=(call_anyL hc).imp fun xs H Q xx162=>by
 obtain ⟨F,ds,q,s,i,h,k⟩:=xx162
 match ds,h,i with
 | [.list l],h,i =>
  obtain ⟨v,rfl,j⟩:=iss1 i
  obtain ⟨a,xs,rfl,hs,hr⟩:=j.lst_inv
  obtain ⟨ns,rfl,hq⟩:=h
  rw [hr.ints_inv] at hs
  exact ⟨a,ns,rfl,s.seq hs,k _ _ F H (.refl s) (is_bl _) hq⟩
end
end L2
namespace L2
open PySem PySem.Spec PyProof.Rows
abbrev Grp:=List Int×Addr×List Nat
def grKV (x:Grp):List Key×V:=(x.1.map Sum.inl,V.ref x.2.1)
def grL (G:List Nat):List V:=G.map fun i=>V.int ((i:Nat):Int)
structure GrAt (H0 F H:Hp) (d:Addr) (ks:List Grp):Prop where
 hd:H d=some (.dT (ks.map grKV))
 fd:F d=none
 nd:H0 d=none
 hl : ∀ x ∈ ks,H x.2.1=some (.lst (grL x.2.2))
 fl : ∀ x ∈ ks,F x.2.1=none
 nl : ∀ x ∈ ks,H0 x.2.1=none
 dl : ∀ x ∈ ks,x.2.1≠d
 ad:(ks.map (·.2.1)).Nodup
 ky:(ks.map (·.1)).Nodup
def grHit (ks:List Grp) (k:List Int) (s:Nat):List Grp:=ks.map fun x=>if x.1=k then (x.1,x.2.1,x.2.2++[s]) else x
theorem inl_inj {a b:List Int} (h:(a.map Sum.inl:List Key)=b.map Sum.inl):a=b:=by
 induction a generalizing b with
 | nil=>cases b with
  | nil=>rfl
  | cons _ _=>cases h
 | cons x a ih=>cases b with
  | nil=>cases h
  | cons y b =>
   rw [List.map_cons,List.map_cons] at h
   injection h with h1 h2
   injection h1 with h1
   rw [h1,ih h2]
theorem nodup_inj {α β:Type}{f:α→β} : ∀ {l:List α},(l.map f).Nodup → ∀ x ∈ l,∀ y ∈ l,f x=f y→x=y
 | [],_,x,hx,_,_,_=>by cases hx
 | a::l,h,x,hx,y,hy,e=>by
  rw [List.map_cons,List.nodup_cons] at h
  rcases List.mem_cons.mp hx with zx|zx
  ·rcases List.mem_cons.mp hy with zy|zy
   ·rw [zx,zy]
   ·exact (h.1 (List.mem_map.mpr ⟨y,zy,by rw [← e,zx]⟩)).elim
  ·rcases List.mem_cons.mp hy with zy|zy
   ·exact (h.1 (List.mem_map.mpr ⟨x,zx,by rw [e,zy]⟩)).elim
   ·exact nodup_inj h.2 x zx y zy e
theorem val_gr {k:List Int} : ∀ (ks:List Grp),valV (ks.map grKV) (k.map Sum.inl)=(ks.find? fun x=>decide (x.1=k)).map fun x=>V.ref x.2.1
 | []=>rfl
 | x::ks=>by
  rw [List.map_cons]
  by_cases e:x.1=k
  ·rw [valV_pos (by show x.1.map Sum.inl=_;rw [e]),List.find?_cons_of_pos (by simpa using e)];rfl
  ·rw [valV_neg (fun z=>e (inl_inj z)),List.find?_cons_of_neg (by simpa using e),val_gr ks]
theorem Go.at {F0 H0 F H:Hp}{a:Addr}{o:HO} (g:Go F0 H0 F H) (h1:F a=none) (h2:H0 a=none):Go F0 H0 F (upd H a o) :=
 ⟨g.f,fun b u e=>by rw [upd_ne fun z=>by rw [z,h2] at e;cases e];exact g.h b u e,fun b u e=>by rw [upd_ne fun z=>by rw [z,h1] at e;cases e];exact g.fh b u e,g.new⟩
section
variable {F0 H0 F H:Hp}{d l p:Addr}{ks:List Grp}{k:List Int}{G:List Nat}{s:Nat}
theorem GrAt.hit (h:GrAt H0 F H d ks) (m:(k,l,G) ∈ ks):GrAt H0 F (upd H l (.lst (grL (G++[s])))) d (grHit ks k s):=by
 have ne:d≠l:=fun z=>h.dl _ m z.symm
 have addr : ∀ y:Grp,(if y.1=k then (y.1,y.2.1,y.2.2++[s]) else y).2.1=y.2.1:=fun y=>by split <;> rfl
 have key : ∀ y:Grp,(if y.1=k then (y.1,y.2.1,y.2.2++[s]) else y).1=y.1:=fun y=>by split <;> rfl
 have nodup_at:=nodup_inj (f:=fun x:Grp=>x.2.1) h.ad
 have nodup_key:=nodup_inj (f:=fun x:Grp=>x.1) h.ky
 refine ⟨?_,h.fd,h.nd,fun x hx=>?_,fun x hx=>?_,fun x hx=>?_,fun x hx=>?_,?_,?_⟩
 ·rw [upd_ne ne,h.hd]
  unfold grHit
  rw [List.map_map]
  congr 2
  refine List.map_congr_left fun x _=>?_
  show grKV x=grKV _
  unfold grKV
  rw [addr,key]
 ·obtain ⟨y,hy,rfl⟩:=List.mem_map.mp hx
  rw [addr]
  by_cases e:y.1=k
  ·have:=nodup_key y hy _ m e
   subst this
   rw [upd_same,if_pos rfl]
  ·rw [upd_ne fun z=>e ?_,if_neg e]
   ·exact h.hl y hy
   ·have:=nodup_at y hy _ m z
    rw [this]
 ·obtain ⟨y,hy,rfl⟩:=List.mem_map.mp hx
  rw [addr];exact h.fl y hy
 ·obtain ⟨y,hy,rfl⟩:=List.mem_map.mp hx
  rw [addr];exact h.nl y hy
 ·obtain ⟨y,hy,rfl⟩:=List.mem_map.mp hx
  rw [addr];exact h.dl y hy
 ·have:(grHit ks k s).map (·.2.1)=ks.map (·.2.1):=by
   unfold grHit
   rw [List.map_map]
   exact List.map_congr_left fun x _=>addr x
  rw [this];exact h.ad
 ·have:(grHit ks k s).map (·.1)=ks.map (·.1):=by
   unfold grHit
   rw [List.map_map]
   exact List.map_congr_left fun x _=>key x
  rw [this];exact h.ky
theorem GrAt.miss (h:GrAt H0 F H d ks) (hp:H p=none) (fp:F p=none) (np:H0 p=none) (hk : ∀ x ∈ ks,x.1≠k):GrAt H0 F (upd (upd (upd H p (.lst [])) d (.dT ((ks++[(k,p,[s])]).map grKV))) p (.lst (grL [s]))) d (ks++[(k,p,[s])]):=by
 have pd:p≠d:=fun z=>by rw [z,h.hd] at hp;cases hp
 have pl : ∀ x ∈ ks,x.2.1≠p:=fun x hx z=>by have:=h.hl x hx;rw [z,hp] at this;cases this
 have two : ∀ {P:Grp→Prop},(∀ x ∈ ks,P x)→P (k,p,[s]) → ∀ x ∈ ks++[(k,p,[s])],P x:=fun a b x hx=>by
  rcases List.mem_append.mp hx with z|z
  ·exact a x z
  ·rw [List.mem_singleton.mp z];exact b
 refine ⟨?_,h.fd,h.nd,two (fun x hx=>?_) ?_,two h.fl fp,two h.nl np,two h.dl pd,?_,?_⟩
 ·rw [upd_ne (Ne.symm pd),upd_same]
 ·rw [upd_ne (pl x hx),upd_ne (h.dl x hx),upd_ne (pl x hx)];exact h.hl x hx
 ·exact upd_same
 ·rw [List.map_append,List.map_cons,List.map_nil,List.nodup_append]
  refine ⟨h.ad,by simp,fun a ha b hb=>?_⟩
  obtain ⟨x,hx,rfl⟩:=List.mem_map.mp ha
  rw [List.mem_singleton.mp hb];exact pl x hx
 ·rw [List.map_append,List.map_cons,List.map_nil,List.nodup_append]
  refine ⟨h.ky,by simp,fun a ha b hb=>?_⟩
  obtain ⟨x,hx,rfl⟩:=List.mem_map.mp ha
  rw [List.mem_singleton.mp hb];exact hk x hx
theorem grL_snoc:grL G++[V.int ((s:Nat):Int)]=grL (G++[s]):=by unfold grL;rw [List.map_append];rfl
end
def grPut (ks:List Grp) (k:List Int) (p:Addr) (s:Nat):List Grp:=if (ks.any fun x=>decide (x.1=k))=true then grHit ks k s else ks++[(k,p,[s])]
theorem gr_add {K:PySem.W.Frag}{F0 H0 F H:Hp}{d b:Addr}{ks:List Grp}{k:List Int}{s ig ia is:Nat}{σ:St}{D:Ends} (g:Go F0 H0 F H) (h:GrAt H0 F H d ks) (e1:σ[ig]?=some (some (.ref d))) (e2:σ[ia]?=some (some (.ref b))) (e3:σ[is]?=some (some (.int ((s:Nat):Int))))
 (hb:F b=some (.tup (k.map V.int))) (hn:ks.length<900) (hs : ∀ x ∈ ks,x.2.2.length<900)
 (q : ∀ p H',Go F0 H0 F H'→GrAt H0 F H' d (grPut ks k p s)→D.nx σ H'):tDrop (tBM K "list" rAppend (tDSetD (tVar ig) (tVar ia) (tLst tNil)) (tCons (tVar is) tNil)) D σ H:=by
  have hb':=g.fh.at hb
  have ekv:(k.map Sum.inl:List Key).map kV=k.map V.int:=by rw [List.map_map];rfl
  refine ⟨_,e1,d,rfl,.inr ⟨_,.inl h.hd⟩,_,e2,Nat.zero_le _,fun p hp=>?_⟩
  have pd:d≠p:=fun z=>by rw [← z,h.hd] at hp;cases hp
  have fp:F p=none:=same_none g.fh hp
  have np:H0 p=none:=same_none g.h hp
  have pb:b≠p:=fun z=>by rw [← z,hb'] at hp;cases hp
  refine ⟨ks.map grKV,k.map Sum.inl,b,by rw [upd_ne pd];exact h.hd,rfl,by rw [upd_ne pb,ekv];exact hb',by rw [List.length_map,sizeLine_eq];omega,fun v ev=>?_,fun ev=>?_⟩
  ·rw [val_gr] at ev
   cases ef:ks.find? fun x=>decide (x.1=k) with
   | none=>rw [ef] at ev;cases ev
   | some x =>
    rw [ef] at ev
    cases ev
    have xm:=List.mem_of_find?_eq_some ef
    have xk:x.1=k:=by simpa using List.find?_some ef
    obtain ⟨k',l,G⟩:=x
    have xk:k'=k:=xk
    subst xk
    have lp:l≠p:=fun z=>by have:=h.hl _ xm;rw [z] at this;rw [show H p=_ from this] at hp;cases hp
    have hl:=h.hl _ xm
    have ha:(ks.any fun x=>decide (x.1=k'))=true:=List.any_eq_true.mpr ⟨_,xm,by simp⟩
    have h1:GrAt H0 F (upd H p (.lst [])) d ks:=⟨by rw [upd_ne pd];exact h.hd,h.fd,h.nd,fun x hx=>by
     rw [upd_ne fun z=>by have:=h.hl x hx;rw [z,hp] at this;cases this];exact h.hl x hx,h.fl,h.nl,h.dl,h.ad,h.ky⟩
    have z1:=(h1.hit (s:=s) xm)
    have hp':=q p (upd (upd H p (.lst [])) l (.lst (grL (G++[s])))) ((g.at fp np).at (h.fl _ xm) (h.nl _ xm)) (by unfold grPut;rw [if_pos ha];exact z1)
    refine ⟨?_,_,e3,l,grL G,_,rfl,rfl,by rw [upd_ne lp];exact hl,?_,?_⟩
    ·exact .inl ⟨rfl,grL G,SqL.of (by rw [upd_ne lp];exact hl)⟩
    ·have:=hs _ xm
     rw [sizeLine_eq]
     show (grL G).length<_
     unfold grL
     rw [List.length_map]
     show G.length<_
     have:G.length<900:=this
     omega
    ·rw [grL_snoc];exact hp'
  ·rw [val_gr] at ev
   have ef : ∀ x ∈ ks,x.1≠k:=fun x hx z=>by
    cases ef:ks.find? fun x=>decide (x.1=k) with
    | none=>exact (by simpa using List.find?_eq_none.mp ef x hx : ¬ x.1=k) z
    | some y=>rw [ef] at ev;cases ev
   have ha : ¬ (ks.any fun x=>decide (x.1=k))=true:=fun z=>by
    obtain ⟨x,hx,z⟩:=List.any_eq_true.mp z
    exact ef x hx (by simpa using z)
   have eput:putK (ks.map grKV) (k.map Sum.inl) (.ref p)=(ks++[(k,p,[s])]).map grKV:=by
    rw [putK_new _ (by rw [val_gr];exact ev),List.map_append];rfl
   rw [eput]
   have z1:=h.miss (s:=s) hp fp np ef
   have hp':=q p _ (((g.at fp np).at h.fd h.nd).at fp np) (by unfold grPut;rw [if_neg ha];exact z1)
   have hl:upd (upd H p (.lst [])) d (.dT ((ks++[(k,p,[s])]).map grKV)) p=some (.lst []):=by rw [upd_ne (Ne.symm pd),upd_same]
   refine ⟨.inl ⟨rfl,[],SqL.of hl⟩,_,e3,p,[],_,rfl,rfl,hl,by rw [sizeLine_eq];decide,?_⟩
   exact hp'
theorem Room.lam {k:Nat}{A:Around} (r:Room (k+1) A) (env:Env):Room k (A.in1.in1.deeper env) :=
 ⟨r.hd,by have:=r.dp;show A.depth+1+3*k+5<_;omega,by have:=r.un;show A.units+1+1+3+16*k+200<_;omega⟩
theorem Room.sort {k:Nat}{A:Around} (r:Room k A):A.units+1<cLine∧A.in1.in1.units<cLine∧A.in1.in1.depth<recursionLimit :=
 ⟨by have:=r.un;omega,by have:=r.un;show A.units+1+1<_;omega,by have:=r.dp;show A.depth<_;omega⟩
theorem free_only {y:Str} : ∀ {l:List (Str×NameKind)},(∀ p ∈ l,p.2 = .free→p.1=y) → ∀ z,l.lookup z=some .free→z=y
 | [],_,z,h=>by cases h
 | (a,k)::l,g,z,h=>by
  rw [List.lookup_cons] at h
  cases e:z==a with
  | true =>
   rw [e] at h
   have hk:k = .free:=Option.some.inj h
   have:=eq_of_beq e
   rw [this]
   exact g (a,k) (by simp) hk
  | false =>
   rw [e] at h
   exact free_only (fun p hp=>g p (List.mem_cons_of_mem _ hp)) z h
theorem GrAt.go {H0 F H F' H':Hp}{d:Addr}{ks:List Grp} (h:GrAt H0 F H d ks) (g:Go F H F' H'):GrAt H0 F' H' d ks :=
 ⟨g.h _ _ h.hd,go_none g h.hd h.fd,h.nd,fun x hx=>g.h _ _ (h.hl x hx),fun x hx=>go_none g (h.hl x hx) (h.fl x hx),h.nl,h.dl,h.ad,h.ky⟩
def putG (gs:List (List Int×List Nat)) (k:List Int) (s:Nat):List (List Int×List Nat):=if (gs.any fun x=>decide (x.1=k))=true then gs.map (fun x=>if x.1=k then (x.1,x.2++[s]) else x) else gs++[(k,[s])]
def strip (ks:List Grp):List (List Int×List Nat):=ks.map fun x=>(x.1,x.2.2)
theorem strip_put {ks:List Grp}{k:List Int}{p:Addr}{s:Nat}:strip (grPut ks k p s)=putG (strip ks) k s:=by
 have e:((strip ks).any fun x=>decide (x.1=k))=ks.any fun x=>decide (x.1=k):=by unfold strip;rw [List.any_map];rfl
 unfold putG grPut
 rw [e]
 split
 ·unfold grHit strip
  rw [List.map_map,List.map_map]
  refine List.map_congr_left fun x _=>?_
  by_cases z:x.1=k
  ·simp [z]
  ·simp [z]
 ·unfold strip
  rw [List.map_append];rfl
end L2
namespace L2
open PySem PySem.Spec PyProof.Rows PySem.W
section
variable {X:Cx}{t u:TS}
end
section
variable {K:PySem.W.Frag}{M:Frm}{F H:Hp}{env:Sto}{σ:St}{W:WS}{u:TS}
end
section
variable {P:Program}{w:World}{K:PySem.W.Frag}{mg:Str→Option Value}{base:Heap}
theorem Fun.vlawT {x:Str}{st:Stmt}{f:Addr}{ts:List Addr}{fd:FuncData}{N ps:List Str}{k:Nat} (F:Fun K x x st f fd) (S:FnScope N ps (defScope st)) (hp:ps.length=1)
 (hbody : ∀ (cdv:Value) (A:Around) (outer:List Env) (s:Shared) (H:Hp) (E:XK),Room k (A.deeper (envOfC x (defScope st) s.heap.objs.size f cdv))→Tbs ts H → ∀ ns:List Int,ns.length≤63 →
 ∃ W,VSs (cxOf CX0 P w K mg base N x (defScope st) f cdv A outer s H E).nox (defBody st) W∧W { nx:=fun _=>False,rt:=fun r _=>r.data = .bool true } (startE N [.list (ns.map .int)])):FnOk P w K mg base CX0 (k+1) f fd ps (spLawT ts K):=by
  refine F.ok S (fun vs H Q E h=>?_) (fun cdv A outer s H vs Q E hr h=>?_)
  ·obtain ⟨_,a,ns,rfl,_⟩:=h
   exact hp.symm
  ·obtain ⟨tss,a,ns,rfl,hS,hlen,kk⟩:=h
   have hi:Iss K H [.list (ns.map .int)] [.ref a]:=iss_cons (is_lst hS (iss_ints ns)) iss_nil
   obtain ⟨W,hW,hq⟩:=hbody cdv A outer s H E hr tss ns hlen
   refine ⟨_,hW,⟨H,H,H⟩,startE N _,H,_,env_start (.refl _) hi,hq,⟨fun e1 F1 H1 σ1 I1 s1 q1=>q1.elim,fun r v e1 F1 H1 σ1 I1 s1 r1 q1=>?_,fun _ _ _ _ _ _ h=>h.elim,fun _ _ _ _ _ _ h=>h.elim⟩⟩
   obtain ⟨F2,g,j⟩:=r1.is I1
   have q1:r.data = .bool true:=q1
   rw [q1] at j
   rw [j.bl_inv]
   exact kk H1
end
def codeTb (K:PySem.W.Frag) (c tb:Addr):Bool:=match K.lookup c with
 | some ⟨.type "code",_,.fields vs,_⟩=>vs[11]?==some (.ref tb)
 | _=>false
abbrev emT:Obj:=⟨.none,none,.fields #[],#[]⟩
theorem look_tabs {K:PySem.W.Frag}{b:Addr} : ∀ (ts:List (Addr×Addr)),(b ∈ ts.map (·.1)∧(ts.map (fun p=>(p.1,emT))++K).lookup b=some emT)∨(b ∉ ts.map (·.1)∧(ts.map (fun p=>(p.1,emT))++K).lookup b=K.lookup b)
 | [] => .inr ⟨by simp,rfl⟩
 | p::ts=>by
  show (b ∈ p.1::ts.map (·.1)∧((p.1,emT)::(ts.map (fun p=>(p.1,emT))++K)).lookup b=some emT)∨(b ∉ p.1::ts.map (·.1)∧((p.1,emT)::(ts.map (fun p=>(p.1,emT))++K)).lookup b=K.lookup b)
  rw [List.lookup_cons]
  by_cases e:b=p.1
  ·subst e
   rw [beq_self_eq_true]
   exact .inl ⟨List.mem_cons_self,rfl⟩
  ·have hb:(b==p.1)=false:=by simpa using e
   rw [hb]
   rcases look_tabs (K:=K) (b:=b) ts with ⟨h1,h2⟩|⟨h1,h2⟩
   ·exact .inl ⟨List.mem_cons_of_mem _ h1,h2⟩
   ·exact .inr ⟨fun z=>(List.mem_cons.mp z).elim e h1,h2⟩
theorem tabs_in {K:PySem.W.Frag}{ts:List (Addr×Addr)}{h:Heap} (n:(ts.all fun p=>(K.lookup p.1).isNone)=true) (q:(ts.all fun p=>codeTb K p.2 p.1)=true) (Y:PySem.W.Frag.In (ts.map (fun p=>(p.1,emT))++K) h):K.In h ∧ ∀ b ∈ ts.map (·.1),∃ c,h.TableAt c b #[]:=by
 have kin:K.In h:=fun b o e=>by
  rcases look_tabs (K:=K) (b:=b) ts with ⟨h1,h2⟩|⟨h1,h2⟩
  ·obtain ⟨p,hp,rfl⟩:=List.mem_map.mp h1
   have:=List.all_eq_true.mp n p hp
   rw [e] at this;cases this
  ·exact Y b o (h2.trans e)
 refine ⟨kin,fun b hb=>?_⟩
 rcases look_tabs (K:=K) (b:=b) ts with ⟨h1,h2⟩|⟨h1,h2⟩
 ·obtain ⟨p,hp,rfl⟩:=List.mem_map.mp hb
  have q:=List.all_eq_true.mp q p hp
  refine ⟨p.2,?_,Y _ _ h2⟩
  unfold codeTb at q
  split at q
  case h_2=>cases q
  rename_i dd vs sl ho
  exact ⟨_,vs,kin _ _ ho,rfl,rfl,by simpa using q⟩
 ·exact (h1 hb).elim
theorem none_all {K:PySem.W.Frag}{ts:List (Addr×Addr)} (n:(ts.all fun p=>(K.lookup p.1).isNone)=true) : ∀ b ∈ ts.map (·.1),K.lookup b=none:=fun b hb=>by
 obtain ⟨p,hp,rfl⟩:=List.mem_map.mp hb
 exact Option.isNone_iff_eq_none.mp (List.all_eq_true.mp n p hp)
end L2
namespace L2
open PySem PySem.Spec PyProof.Rows PySem.W
section
variable {a:Addr}{F H F1 H1 F2 H2:Hp}
end
end L2
namespace L2
open PySem PySem.Spec PyProof.Rows PySem.W
theorem lex_eq (x y:Nat→Int) : ∀ (ns ms:List Int) (i:Nat),ns.length=ms.length→(∀ k,x (i+k)=ns.getD k 0)→(∀ k,y (i+k)=ms.getD k 0)→HT.lexLt ns ms=lexN x y ns.length i
 | [],[],i,_,_,_=>rfl
 | [],_::_,i,h,_,_=>by cases h
 | _::_,[],i,h,_,_=>by cases h
 | a::ns,b::ms,i,h,hx,hy=>by
  have e1:x i=a:=hx 0
  have e2:y i=b:=hy 0
  have ih:=lex_eq x y ns ms (i+1) (Nat.succ.inj h) (fun k=>by have:=hx (k+1);rw [show i+(k+1)=i+1+k by omega] at this;rw [this];rfl) (fun k=>by have:=hy (k+1);rw [show i+(k+1)=i+1+k by omega] at this;rw [this];rfl)
  rw [HT.lexLt_cons,List.length_cons,lexN,e1,e2]
  by_cases z:a=b
  ·rw [if_pos z,if_pos (by simpa using z),ih]
  ·rw [if_neg z,if_neg (by simpa using z)]
section
variable {prog:Program}{w:World}{A:Around}{E:Value→Shared→Prop}{s:Shared}
theorem eq_same {v:Value}{Q:Bool→Shared→Prop} (h:Q true s):wpAny (model prog w) A (eqBool v v) Q E s:=by
 unfold eqBool
 refine wpAny_holding ?_
 show wpAny _ _ (if (v==v)=true then _ else _) Q E s
 rw [if_pos (beq_self_eq_true v)]
 exact wpAny_bind (wpAny_rule (wpAny_pure h))
theorem lex_same {b:Bool}{Q:Bool→Shared→Prop} (h:Q false s) : ∀ (l:List Value) (i:Nat),KatLex prog w A b false Q (l.zip l) i s
 | [],_=>h
 | v::l,i=>kat_cons (eq_same (kat_yes (lex_same h l (i+1))))
theorem items_ints : ∀ {vs:List Value}{ns:List Int},IntsAre vs ns→ItemsAre (intKind prog w) ns vs
 | [],[],_ => .nil
 | _::_,_::_,.cons i t h => .cons (intKind_is prog w _ _) (items_ints h)
end
section
variable {X:Cx}{pins:List (Addr×Obj)}{σ:St}{H:Hp}{s:Shared}{A:Around}{E:Value→Shared→Prop}{vs:List Value}{kl:Nat→List Int}{m:Nat}{a:Addr}{P:PySem.Fin→Shared→Prop}
def TupAt (K:PySem.W.Frag) (kl:Nat→List Int) (i:Nat) (v:Value) (H:Hp):Prop := ∃ t c rest,v = .ref t∧SqT K H t (.ref c::rest)∧SqT K H c ((kl i).map V.int)
theorem TupAt.obj {i:Nat}{v:Value} (I:Inv X pins σ H s) (h:TupAt X.K kl i v H) : ∃ t c its,v = .ref t∧IsTup s.heap t (List.toArray (Value.ref c::its)) ∧ ∃ xs,IsTup s.heap c (List.toArray xs)∧IntsAre xs (kl i):=by
 obtain ⟨t,c,rest,e,h1,h2⟩:=h
 obtain ⟨its,r,p,_⟩:=I.tuple h1
 obtain ⟨xs,r2,p2,_⟩:=I.tuple h2
 cases r with
 | cons r1 r3 =>
  cases r1
  exact ⟨t,c,_,e,p,xs,p2,intsAre_of r2⟩
theorem sort_plain {n0:Nat} (hu:A.units<cLine) (o:OrdN vs.length (keyLess kl m)) (hm : ∀ i,i<vs.length→(kl i).length=m) (hd : ∀ i j,i<vs.length→j<vs.length→i≠j→kl i≠kl j) (hk : ∀ i,i<vs.length→TupAt X.K kl i (vs.getD i .none) H) (I:Inv X pins σ H s) (oa:OwnA X pins a) (na:H a=none) (h64:vs.length<64)
 (ha:s.heap.get? a=some (seqObj "list" vs.toArray n0)) (h : ∀ (p:Array Nat) (s':Shared) (c:Nat),PmN vs.length p→SrtN (keyLess kl m) p vs.length→Inv X pins σ H s'→s'.heap.get? a=some (seqObj "list" (p.toList.map fun i=>vs.getD i .none).toArray c)→P (.done (.ret .none)) s') :
 wpAny (model X.prog X.w) A (Builtin.«list.sort» ⟨[.ref a],[]⟩) P E s:=by
  rw [list_sort_plain]
  have I1:=I.own (a:=a) (t':=s.toks) (h':=s.heap.update a (Obj.mapSeq fun _=>(#[]:Array Value))) oa na fun b u hb e=>upd_other _ hb e
  obtain ⟨e1,ha1⟩ : ∃ e1,(s.heap.update a (Obj.mapSeq fun _=>(#[]:Array Value))).get? a=some (seqObj "list" #[] e1):=⟨_,get?_update_seq ha fun _ => #[]⟩
  refine wpAny_bind (listItems_at ha rfl ?_)
  refine wpAny_bind (listUpdate_at ha rfl ?_ (by rw [List.size_toArray,sizeLine_eq];omega) (Nat.zero_le _))
  refine wpAny_bind (seqEpoch_at ha1 rfl ?_)
  refine wpAny_bind (wpAny_newTuple ?_ (by show vs.length≤_;rw [sizeLine_eq];omega))
  refine wpAny_bind (wpAny_newList ?_ (Nat.zero_le _))
  refine wpAny_holding ?_
  have kp : ∀ b u,(s.heap.update a (Obj.mapSeq fun _=>(#[]:Array Value))).get? b=some u→(((s.heap.update a (Obj.mapSeq fun _=>(#[]:Array Value))).push (seqObj "tuple" vs.toArray 0)).push (seqObj "list" #[] 0)).get? b=some u:=fun b u e=>Heap.get?_push_of_some _ (Heap.get?_push_of_some _ e)
  have I2:=I1.kept (t':=s.toks) (h':=((s.heap.update a (Obj.mapSeq fun _=>(#[]:Array Value))).push (seqObj "tuple" vs.toArray 0)).push (seqObj "list" #[] 0)) kp
  have ha2:=kp _ _ ha1
  show wpAny (model X.prog X.w) A _ P E { s with heap:=((s.heap.update a (Obj.mapSeq fun _=>(#[]:Array Value))).push (seqObj "tuple" vs.toArray 0)).push (seqObj "list" #[] 0) }
  generalize ((s.heap.update a (Obj.mapSeq fun _=>(#[]:Array Value))).push (seqObj "tuple" vs.toArray 0)).push (seqObj "list" #[] 0)=h2 at I2 ha2
  dsimp only
  have fin : ∀ {st:SortSt}{p:Array Nat},PmN vs.length p→SrtN (keyLess kl m) p vs.length→(arrOf st).map (·.2)=(p.toList.map fun i=>vs.getD i .none).toArray→failedOf st=none →
   wpAny (model X.prog X.w) A (do
    let touched:=(← seqEpoch a) != e1
    Builtin.List.listUpdate (.ref a) fun _=>(arrOf st).map (·.2)
    if let some e:=failedOf st then rule "list.sort.comparison-raised";throw e
    if touched then rule "list.sort.modified";raiseError "ValueError" "list modified during sort"
    ret .none) P E { s with heap:=h2 }:=fun {st p} hp hs hout hf=>by
   have lz:(p.toList.map fun i=>vs.getD i Value.none).toArray.size=vs.length:=by rw [List.size_toArray,List.length_map,Array.length_toList,hp.s]
   rw [hout]
   refine wpAny_bind (seqEpoch_at ha2 rfl ?_)
   refine wpAny_bind (listUpdate_at ha2 rfl ?_ (Nat.zero_le _) (Nat.le_trans (Nat.le_of_eq lz) (by rw [sizeLine_eq];omega)))
   rw [hf]
   simp only [bne_self_eq_false,Bool.false_eq_true,if_false]
   have I3:=I2.own (a:=a) (t':=s.toks) (h':=h2.update a (Obj.mapSeq fun _=>(p.toList.map fun i=>vs.getD i Value.none).toArray)) oa na fun b u hb e=>upd_other _ hb e
   exact wpAny_pure (h p _ _ hp hs I3 (get?_update_seq ha2 fun _=>_))
  by_cases c2:vs.length<2
  ·have c:vs.toArray.size<2:=by rw [List.size_toArray];exact c2
   rw [if_pos c,if_pos c]
   refine wpAny_bind (wpAny_pure (wpAny_bind ?_))
   rw [StateT.run_pure]
   refine wpAny_pure ?_
   refine fin (p:=List.toArray (List.range vs.length)) (st:=SortSt.mk' general' (vs.toArray.zip vs.toArray) #[] 7 none) ⟨by simp,by simp⟩ (fun k k1 k2=>by omega) ?_ rfl
   show (vs.toArray.zip vs.toArray).map (·.2)=_
   apply Array.toList_inj.mp
   refine List.ext_getElem? fun i=>?_
   simp only [Array.toList_map,Array.toList_zip,List.getElem?_map,List.getElem?_range]
   by_cases hi:i<vs.length
   ·have e2:vs[i]?=some vs[i]:=List.getElem?_eq_getElem hi
    have e3:(vs.zip vs)[i]?=some (vs[i],vs[i]):=List.getElem?_zip_eq_some.mpr ⟨e2,e2⟩
    rw [e3]
    simp [hi]
   ·rw [List.getElem?_eq_none (by simp;omega)]
    simp [hi]
  ·have c : ¬ vs.toArray.size<2:=by rw [List.size_toArray];exact c2
   rw [if_neg c,if_neg c]
   have tups : ∀ (l:List Value) (f:Nat→Nat),(∀ (i:Nat) v,l[i]?=some v→TupAt X.K kl (f i) v H) → ∃ fs,KatTups h2 l fs∧fs.length=l.length ∧ ∀ v ∈ fs,Looks (model X.prog X.w) h2 (typeOf v) (.type "tuple"):=by
    intro l
    induction l with
    | nil=>intro f _;exact ⟨[],.nil,rfl,fun v hv=>by cases hv⟩
    | cons v l ih =>
     intro f hl
     obtain ⟨fs,k1,k2,k3⟩:=ih (fun i=>f (i+1)) fun i u hu=>hl (i+1) u (by simpa using hu)
     obtain ⟨t,c,its,rfl,⟨o1,ho,hc,n,hd'⟩,xs,⟨o2,ho2,hc2,n2,hd2⟩,_⟩:=(hl 0 v rfl).obj I2
     refine ⟨.ref c::fs,KatTups.cons ho hc hd' (by simp) k1,by simp [k2],fun u hu=>?_⟩
     rcases List.mem_cons.mp hu with rfl|hu
     ·have q:Looks (model X.prog X.w) h2 (typeOf (.ref c)) o2.cls:=(Looks.ld ho2).andThen .now
      rw [hc2] at q;exact q
     ·exact k3 u hu
   obtain ⟨fs,k1,k2,k3⟩:=tups vs id fun i v hv=>by
    have hi:=(List.getElem?_eq_some_iff.mp hv).1
    have:=hk i hi
    rw [List.getD_eq_getElem?_getD,hv] at this
    exact this
   refine wpAny_bind (kat_kind k1 (by omega) k3 (by decide) ?_)
   have eb:(Value.type "tuple" != Value.type "tuple")=false:=by decide
   rw [eb]
   refine wpAny_bind (wpAny_mono (kat_run (Q:=fun st' s'=>s'={ s with heap:=h2 } ∧ ∃ p:Array Nat,PmN vs.length p∧SrtN (keyLess kl m) p vs.length∧arrOf st'=p.map (kas_item (vs.toArray.zip vs.toArray))∧failedOf st'=none) (G:=fun p s'=>s'={ s with heap:=h2 }∧PmN vs.length p∧SrtN (keyLess kl m) p vs.length) rfl (by omega) h64 (fun p st' s' a1 a2 a3 a4=>⟨a4.1,p,a4.2.1,a4.2.2,a2,a3⟩) ?_) ?_ fun _ _ z=>z)
   ·refine sort_wp o (fun i j C hi hj hC=>?_) (by omega) fun p hp hs=>⟨rfl,hp,hs⟩
    obtain ⟨t,c,its,er,⟨o1,ho,hc,n,hd1⟩,xs,p1,i1⟩:=(hk i hi).obj I2
    obtain ⟨t',c',its',er',⟨o1',ho',hc',n',hd1'⟩,xs',p2,i2⟩:=(hk j hj).obj I2
    unfold kas_ask
    rw [er,er']
    refine kat_lt ho hd1 ho' hd1' ?_
    by_cases ij:i=j
    ·subst ij
     rw [er] at er'
     cases er'
     rw [ho] at ho'
     cases ho'
     rw [hd1] at hd1'
     have eL:(List.toArray (Value.ref c::its))=List.toArray (Value.ref c'::its'):=by injection hd1'
     rw [← eL]
     rw [decide_eq_false (by omega)]
     rw [o.irr] at hC
     exact lex_same hC _ 0
    ·have k1:IsTupleKey (intKind X.prog X.w) h2 (kl i) c:=by
      obtain ⟨o2,q1,q2,n2,q3⟩:=p1
      exact ⟨o2,_,n2,q1,q2,q3,items_ints i1⟩
     have k2:IsTupleKey (intKind X.prog X.w) h2 (kl j) c':=by
      obtain ⟨o2,q1,q2,n2,q3⟩:=p2
      exact ⟨o2,_,n2,q1,q2,q3,items_ints i2⟩
     refine kat_cons (wpAny_eqBool_tuple hu k1 k2 ?_)
     rw [decide_eq_false (hd i j hi hj ij)]
     refine kat_no (kat_one _ _ (HT.lt_tupInts p1 p2 i1 i2 hu ?_))
     have e:=lex_eq (fun k=>(kl i).getD k 0) (fun k=>(kl j).getD k 0) (kl i) (kl j) 0 (by rw [hm i hi,hm j hj]) (fun k=>by rw [Nat.zero_add]) (fun k=>by rw [Nat.zero_add])
     show C (HT.lexLt (kl i) (kl j)) _
     rw [e,hm i hi]
     exact hC
   ·rintro ⟨⟨⟩,st'⟩ s' ⟨rfl,p,hp,hs,har,hf⟩
    exact fin hp hs (kat_snds rfl har) hf
end
end L2
namespace L2
open PySem PySem.Spec PyProof.Rows PySem.W
section
variable {X:Cx}
theorem same_tup {K:PySem.W.Frag}{H H':Hp}{a:Addr}{xs:List V} (e:Same H H') (h:SqT K H a xs):SqT K H' a xs:=by
 rcases h with (h|⟨o,h⟩)|h
 ·exact .inl (.inl (e.at h))
 ·exact .inl (.inr ⟨o,e.at h⟩)
 ·exact .inr h
theorem iss_pick {K:PySem.W.Frag}{F:Hp}{l:List PyData}{xs:List V} (h:Iss K F l xs) : ∀ {js:List Nat},(∀ j ∈ js,j<l.length)→Iss K F (js.map fun j=>l.getD j .none) (js.map fun j=>xs.getD j .non)
 | [],_=>iss_nil
 | j::js,hj=>by
  have e:l[j]?=some (l[j]'(hj j (by simp))):=List.getElem?_eq_getElem _
  obtain ⟨x,ex,ix⟩:=h.get e
  refine iss_cons ?_ (iss_pick h fun k hk=>hj k (List.mem_cons_of_mem _ hk))
  show Is K F (l.getD j .none) (xs.getD j .non)
  rw [List.getD_eq_getElem?_getD,List.getD_eq_getElem?_getD,e,ex]
  exact ix
end
end L2
namespace L2
open PySem PySem.Spec PyProof.Rows PySem.W
section
variable {X:Cx}{elt target iter cnd:Expr}{scope:Scope}{pos py spos:Pos}{caps own:List Str}{ix:List Nat}{Wi:WF}{G:WG}{Wt:WT}{We:WE}{i:Nat}{y:Str}
end
end L2
namespace L2
open PySem PySem.Spec PyProof.Rows PySem.W
end L2
namespace L2
open PySem PySem.Spec PyProof.Rows PySem.W
abbrev IsZipO (h:Heap) (z TI TO a:Addr) (f:Bool):Prop:=h.get? z=some { cls :=.type "zip",dict:=none,data :=.fields #[rawInt a,.bool f,.bool false,.ref TI,.ref TO],slots := #[] }
section
variable {prog:Program}{w:World}{A:Around}{E:Value→Shared→Prop}{s:Shared}{b c f:Bool}{z TI TO j1 j2 l1 l2 a:Addr}{oa:Obj}{k1 k2:Nat}{us vs:Array Value}
theorem own_busy {Q:Bool→Shared→Prop} (a0:IsZipO s.heap z TI TO a f) (ha:s.heap.get? a=some oa)
 (q : ∀ h',IsZipO h' z TI TO a true→Heap.SameBut z s.heap h'→Q false { s with heap:=h' }):wpAny (model prog w) A (Builtin.SmallTypes.ownedTupleIsFree (.ref z)) Q E s:=by
  unfold Builtin.SmallTypes.ownedTupleIsFree
  refine wpAny_bind (wpAny_field a0 rfl (x:=rawInt a) rfl ?_)
  show wpAny _ _ (loadIfAlive ((a:Int).toNat) >>= _) _ _ _
  rw [Int.toNat_natCast]
  refine wpAny_bind (kdx_alive ha ?_)
  simp only [Option.isNone_some,Bool.false_eq_true,if_false]
  refine wpAny_bind (wpAny_field a0 rfl (x :=.bool f) rfl ?_)
  cases f with
  | true =>
   rw [if_neg (show ¬ ((Value.bool true != Value.bool true)=true) from Bool.false_ne_true)]
   exact wpAny_pure (q _ a0 (Heap.SameBut.refl _ _))
  | false =>
   rw [if_pos (show (Value.bool false != Value.bool true)=true from rfl)]
   exact wpAny_bind (wpAny_setField_rec a0 (by simp) fun h3 e3 m3=>wpAny_pure (q h3 e3 m3))
theorem zpn_more {u v:Value}{Q:Value→Shared→Prop} (D:ZipApart z TI TO j1 j2 l1 l2) (a0:IsZipO s.heap z TI TO a f) (ha:s.heap.get? a=some oa) (a1:IsPair s.heap TI (.ref j1) (.ref j2))
 (e1:SqIt b s.heap j1 l1 k1) (e2:SqIt c s.heap j2 l2 k2) (g1:SqOf b s.heap l1 us) (g2:SqOf c s.heap l2 vs) (hu:us[k1]?=some u) (hv:vs[k2]?=some v)
 (q : ∀ h',IsZipO h' z TI TO a true→SqIt b h' j1 l1 (k1+1)→SqIt c h' j2 l2 (k2+1)→IsPair h' s.heap.objs.size u v→h'.objs.size=s.heap.objs.size+1 →
 (∀ x o,x≠z→x≠j1→x≠j2→s.heap.get? x=some o→h'.get? x=some o)→Q (.ref s.heap.objs.size) { s with heap:=h' }) :
  wpAny (model prog w) A (Builtin.«zip.__next__» ⟨[.ref z],[]⟩) (fun r s' => ∃ y,r = .done (.ret y)∧Q y s') E s:=by
  show wpAny _ _ (field (.ref z) 2 >>= _) _ _ _
  refine wpAny_bind (wpAny_field a0 rfl (x :=.bool false) rfl ?_)
  show wpAny _ _ (field (.ref z) 3 >>= _) _ _ _
  refine wpAny_bind (wpAny_field a0 rfl (x :=.ref TI) rfl ?_)
  refine wpAny_bind (wpAny_seqItems a1 rfl ?_)
  show wpAny _ _ (Builtin.SmallTypes.ownedTupleIsFree (.ref z) >>= _) _ _ _
  refine wpAny_bind (own_busy a0 ha fun p1 b0 m1=>?_)
  simp only [Bool.false_eq_true,if_false]
  refine wpAny_bind (?_:_)
  simp only [← Array.forIn_toList,List.forIn_cons,List.forIn_nil]
  refine wpAny_bind (wpAny_bind (wpAny_holding (?_:_)))
  show wpAny _ _ (Builtin.SmallTypes.nextOf (.ref j1) >>= _) _ _ _
  refine wpAny_bind (snx_item (e1.but m1 D.i1z) (g1.but m1 D.l1z) hu fun p2 f1 m2=>wpAny_pure (wpAny_pure ?_))
  refine wpAny_bind (wpAny_bind (wpAny_holding (?_:_)))
  show wpAny _ _ (Builtin.SmallTypes.nextOf (.ref j2) >>= _) _ _ _
  refine wpAny_bind (snx_item ((e2.but m1 D.i2z).but m2 D.i12.symm) ((g2.but m1 D.l2z).but m2 D.l2i1) hv fun p3 f2 m3=>wpAny_pure (wpAny_pure (wpAny_pure ?_)))
  have sz:p3.objs.size=s.heap.objs.size:=by rw [m3.1,m2.1,m1.1]
  have b3:IsZipO p3 z TI TO a true:=m3.extBut _ _ D.i2z.symm (m2.extBut _ _ D.i1z.symm b0)
  refine wpAny_bind (wpAny_newTuple (?_:_) (by show 2≤sizeLine;rw [sizeLine_eq];omega))
  have t:IsPair (p3.push { cls :=.type "tuple",data :=.seq #[u,v] }) p3.objs.size u v:=Heap.get?_push_size _ rfl
  refine wpAny_pure ⟨_,rfl,(?_:Q (.ref p3.objs.size) _)⟩
  rw [sz] at t ⊢
  exact q _ (Heap.get?_push_of_some _ b3) ((f1.but m3 D.i12).at' fun o e=>Heap.get?_push_of_some _ e) (f2.at' fun o e=>Heap.get?_push_of_some _ e) t (by rw [Heap.size_push,sz])
   fun x o n1 n2 n3 e=>Heap.get?_push_of_some _ (m3.extBut _ _ n3 (m2.extBut _ _ n2 (m1.extBut _ _ n1 e)))
theorem zpn_stop {Q:PySem.Fin→Shared→Prop} (hh:A.handled=none) (D:ZipApart z TI TO j1 j2 l1 l2) (a0:IsZipO s.heap z TI TO a f) (ha:s.heap.get? a=some oa) (a1:IsPair s.heap TI (.ref j1) (.ref j2))
 (e1:SqIt b s.heap j1 l1 k1) (e2:SqIt c s.heap j2 l2 k2) (g1:SqOf b s.heap l1 us) (g2:SqOf c s.heap l2 vs) (hend:us[k1]?=none∨vs[k2]?=none)
 (q : ∀ h' e,(∀ x o,x≠z→x≠j1→x≠j2→s.heap.get? x=some o→h'.get? x=some o)→(∃ o,h'.get? e=some o∧o.cls = .type "StopIteration")→E (.ref e) { s with heap:=h' }) :
  wpAny (model prog w) A (Builtin.«zip.__next__» ⟨[.ref z],[]⟩) Q E s:=by
  show wpAny _ _ (field (.ref z) 2 >>= _) _ _ _
  refine wpAny_bind (wpAny_field a0 rfl (x :=.bool false) rfl ?_)
  show wpAny _ _ (field (.ref z) 3 >>= _) _ _ _
  refine wpAny_bind (wpAny_field a0 rfl (x :=.ref TI) rfl ?_)
  refine wpAny_bind (wpAny_seqItems a1 rfl ?_)
  show wpAny _ _ (Builtin.SmallTypes.ownedTupleIsFree (.ref z) >>= _) _ _ _
  refine wpAny_bind (own_busy a0 ha fun p1 b0 m1=>?_)
  simp only [Bool.false_eq_true,if_false]
  refine wpAny_bind (?_:_)
  simp only [← Array.forIn_toList,List.forIn_cons,List.forIn_nil]
  refine wpAny_bind (wpAny_bind (wpAny_holding (?_:_)))
  show wpAny _ _ (Builtin.SmallTypes.nextOf (.ref j1) >>= _) _ _ _
  cases hu:us[k1]? with
  | none=>exact wpAny_bind (snx_end hh (e1.but m1 D.i1z) (g1.but m1 D.l1z) hu fun p2 e m2 he=>q p2 e (fun x o n1 n2 n3 h=>m2 _ _ n2 (m1.extBut _ _ n1 h)) he)
  | some u =>
   have hv:vs[k2]?=none:=by
    rcases hend with h|h
    ·rw [hu] at h;cases h
    ·exact h
   refine wpAny_bind (snx_item (e1.but m1 D.i1z) (g1.but m1 D.l1z) hu fun p2 f1 m2=>wpAny_pure (wpAny_pure ?_))
   refine wpAny_bind (wpAny_bind (wpAny_holding (?_:_)))
   show wpAny _ _ (Builtin.SmallTypes.nextOf (.ref j2) >>= _) _ _ _
   exact wpAny_bind (snx_end hh ((e2.but m1 D.i2z).but m2 D.i12.symm) ((g2.but m1 D.l2z).but m2 D.l2i1) hv fun p3 e m3 he=>q p3 e (fun x o n1 n2 n3 h=>m3 _ _ n3 (m2.extBut _ _ n2 (m1.extBut _ _ n1 h))) he)
theorem zpy_more {u v:Value}{Q:Option Value→Shared→Prop} (D:ZipApart z TI TO j1 j2 l1 l2) (a0:IsZipO s.heap z TI TO a f) (ha:s.heap.get? a=some oa) (a1:IsPair s.heap TI (.ref j1) (.ref j2))
 (e1:SqIt b s.heap j1 l1 k1) (e2:SqIt c s.heap j2 l2 k2) (g1:SqOf b s.heap l1 us) (g2:SqOf c s.heap l2 vs) (hu:us[k1]?=some u) (hv:vs[k2]?=some v)
 (q : ∀ h',IsZipO h' z TI TO a true→SqIt b h' j1 l1 (k1+1)→SqIt c h' j2 l2 (k2+1)→IsPair h' s.heap.objs.size u v→h'.objs.size=s.heap.objs.size+1 →
 (∀ x o,x≠z→x≠j1→x≠j2→s.heap.get? x=some o→h'.get? x=some o)→Q (some (.ref s.heap.objs.size)) { s with heap:=h' }) :
  wpAny (model prog w) A (pyNext (.ref z)) Q E s:=by
  have ty:s.TypeIs (.ref z) "zip":=⟨_,a0,rfl⟩
  unfold pyNext
  exact wpAny_bind (wpAny_attempt (wpAny_callSpecial?_slot (name:=Str.ofString "__next__") ty F.slot_zip_next (wpAny_call_entry F.slot_zip_next ty F.entry_zip_next
   (zpn_more D a0 ha a1 e1 e2 g1 g2 hu hv fun h' r1 r3 r4 r5 r6 r7=>wpAny_pure (q h' r1 r3 r4 r5 r6 r7)) (F.args_zip_next_1 _))))
theorem zpy_stop {Q:Option Value→Shared→Prop} (hh:A.handled=none) (D:ZipApart z TI TO j1 j2 l1 l2) (a0:IsZipO s.heap z TI TO a f) (ha:s.heap.get? a=some oa) (a1:IsPair s.heap TI (.ref j1) (.ref j2))
 (e1:SqIt b s.heap j1 l1 k1) (e2:SqIt c s.heap j2 l2 k2) (g1:SqOf b s.heap l1 us) (g2:SqOf c s.heap l2 vs) (hend:us[k1]?=none∨vs[k2]?=none)
 (q : ∀ h',(∀ x o,x≠z→x≠j1→x≠j2→s.heap.get? x=some o→h'.get? x=some o)→Q none { s with heap:=h' }):wpAny (model prog w) A (pyNext (.ref z)) Q E s:=by
  have ty:s.TypeIs (.ref z) "zip":=⟨_,a0,rfl⟩
  unfold pyNext
  refine wpAny_bind (wpAny_attempt (wpAny_callSpecial?_slot (name:=Str.ofString "__next__") ty F.slot_zip_next (wpAny_call_entry F.slot_zip_next ty F.entry_zip_next (zpn_stop hh D a0 ha a1 e1 e2 g1 g2 hend fun h' e hk he=>?_) (F.args_zip_next_1 _))))
  obtain ⟨o,ho,hc⟩:=he
  exact wpAny_bind (wpAny_isInstance (T := "StopIteration") (b:=true) ⟨o,ho,hc⟩ isSubtype_stop (wpAny_pure (q _ hk)))
end
theorem hiA {a x M:Addr} (h1:x<M) (h2:M≤a):a≠x:=Nat.ne_of_gt (Nat.lt_of_lt_of_le h1 h2)
structure ZSt (b c:Bool) (z TI TO j1 j2 l1 l2 M:Addr) (us vs:Array Value) (i:Nat) (h:Heap):Prop where
 zip:(IsZip h z TI TO .none ∧ ∃ x0 y0,IsPair h TO x0 y0) ∨ ∃ a f oa,IsZipO h z TI TO a f∧h.get? a=some oa∧M≤a
 ti:IsPair h TI (.ref j1) (.ref j2)
 i1:SqIt b h j1 l1 i
 i2:SqIt c h j2 l2 i
 o1:SqOf b h l1 us
 o2:SqOf c h l2 vs
structure ZLow (z TI TO j1 j2 l1 l2 M:Addr):Prop where
 z:z<M
 ti:TI<M
 t:TO<M
 j1:j1<M
 j2:j2<M
 l1:l1<M
 l2:l2<M
structure ZG (us vs:Array Value) (M:Addr) (h:Heap) (as:List Addr):Prop where
 rise:as.Pairwise (· < ·)
 above : ∀ a ∈ as,M≤a
 pairs : ∀ (j:Nat) (a:Addr),as[j]?=some a → ∃ u v,us[j]?=some u∧vs[j]?=some v∧IsPair h a u v
theorem ZG.there {us vs:Array Value}{M:Addr}{h:Heap}{as:List Addr} (g:ZG us vs M h as) {a:Addr} (ha:a ∈ as):a<h.objs.size:=by
 obtain ⟨j,hj⟩:=List.mem_iff_getElem?.mp ha
 obtain ⟨_,_,_,_,e⟩:=g.pairs j a hj
 exact Heap.lt_size e
theorem ZG.keep {us vs:Array Value}{M:Addr}{h h':Heap}{as:List Addr} (g:ZG us vs M h as) (k : ∀ x o,M≤x→h.get? x=some o→h'.get? x=some o):ZG us vs M h' as :=
 ⟨g.rise,g.above,fun j a hj=>let ⟨u,v,h1,h2,h3⟩:=g.pairs j a hj; ⟨u,v,h1,h2,k _ _ (g.above a (List.mem_of_getElem? hj)) h3⟩⟩
section
variable {prog:Program}{w:World}{A:Around}{E:Value→Shared→Prop}{s:Shared}{b c:Bool}{z TI TO j1 j2 l1 l2 M S:Addr}{us vs:Array Value}{i:Nat}{h h':Heap}
theorem ZSt.keep (x:ZSt b c z TI TO j1 j2 l1 l2 M us vs i h) (L:ZLow z TI TO j1 j2 l1 l2 M) (k : ∀ y o,y≠S→h.get? y=some o→h'.get? y=some o) (hS:S<M) (n0:z≠S) (n1:TI≠S) (n2:TO≠S) (n3:j1≠S) (n4:j2≠S) (n5:l1≠S) (n6:l2≠S):ZSt b c z TI TO j1 j2 l1 l2 M us vs i h':=by
 refine ⟨?_,k _ _ n1 x.ti,x.i1.at' fun o e=>k _ o n3 e,x.i2.at' fun o e=>k _ o n4 e,x.o1.at' fun o e=>k _ o n5 e,x.o2.at' fun o e=>k _ o n6 e⟩
 rcases x.zip with ⟨h1,x0,y0,h2⟩|⟨a,f,oa,h1,h2,h3⟩
 ·exact .inl ⟨k _ _ n0 h1,x0,y0,k _ _ n2 h2⟩
 ·exact .inr ⟨a,f,oa,k _ _ n0 h1,k _ _ (hiA hS h3) h2,h3⟩
theorem zst_item {u v:Value}{Q:Option Value→Shared→Prop} (D:ZipApart z TI TO j1 j2 l1 l2) (L:ZLow z TI TO j1 j2 l1 l2 M) (x:ZSt b c z TI TO j1 j2 l1 l2 M us vs i s.heap) (hM:M≤s.heap.objs.size) (hu:us[i]?=some u) (hv:vs[i]?=some v)
 (q : ∀ h',ZSt b c z TI TO j1 j2 l1 l2 M us vs (i+1) h'→IsPair h' s.heap.objs.size u v→h'.objs.size=s.heap.objs.size+1→(∀ x o,x≠z→x≠TO→x≠j1→x≠j2→s.heap.get? x=some o→h'.get? x=some o)→Q (some (.ref s.heap.objs.size)) { s with heap:=h' }) :
  wpAny (model prog w) A (pyNext (.ref z)) Q E s:=by
  rcases x.zip with ⟨h1,x0,y0,h2⟩|⟨a,f,oa,h1,h2,h3⟩
  ·refine zpy_item D h1 x.ti h2 x.i1 x.i2 x.o1 x.o2 hu hv fun h' r1 r2 r3 r4 r5 r6 r7=>?_
   exact q h' ⟨.inr ⟨_,false,_,r1,r5,hM⟩,r7 _ _ D.TIz D.TITO D.TIi1 D.TIi2 x.ti,r3,r4,x.o1.at' fun o e=>r7 _ o D.l1z D.l1TO D.l1i1 D.l1i2 e,x.o2.at' fun o e=>r7 _ o D.l2z D.l2TO D.l2i1 D.l2i2 e⟩ r5 r6 r7
  ·refine zpy_more D h1 h2 x.ti x.i1 x.i2 x.o1 x.o2 hu hv fun h' r1 r3 r4 r5 r6 r7=>?_
   have lz:=L.z
   have l1':=L.j1
   have l2':=L.j2
   exact q h' ⟨.inr ⟨a,true,oa,r1,r7 _ _ (hiA lz h3) (hiA l1' h3) (hiA l2' h3) h2,h3⟩,r7 _ _ D.TIz D.TIi1 D.TIi2 x.ti,r3,r4,x.o1.at' fun o e=>r7 _ o D.l1z D.l1i1 D.l1i2 e,x.o2.at' fun o e=>r7 _ o D.l2z D.l2i1 D.l2i2 e⟩ r5 r6 fun y o n1 _ n3 n4 e=>r7 y o n1 n3 n4 e
theorem zst_done {Q:Option Value→Shared→Prop} (hh:A.handled=none) (D:ZipApart z TI TO j1 j2 l1 l2) (x:ZSt b c z TI TO j1 j2 l1 l2 M us vs i s.heap) (hend:us[i]?=none∨vs[i]?=none)
 (q : ∀ h',(∀ x o,x≠z→x≠TO→x≠j1→x≠j2→s.heap.get? x=some o→h'.get? x=some o)→Q none { s with heap:=h' }):wpAny (model prog w) A (pyNext (.ref z)) Q E s:=by
  rcases x.zip with ⟨h1,x0,y0,h2⟩|⟨a,f,oa,h1,h2,h3⟩
  ·exact zpy_end hh D h1 x.ti h2 x.i1 x.i2 x.o1 x.o2 hend q
  ·exact zpy_stop hh D h1 h2 x.ti x.i1 x.i2 x.o1 x.o2 hend fun h' k=>q h' fun y o n1 _ n3 n4 e=>k y o n1 n3 n4 e
theorem zc_loop {R:Result→Shared→Prop}{h₁:Heap} (hh:A.handled=none) (D:ZipApart z TI TO j1 j2 l1 l2) (L:ZLow z TI TO j1 j2 l1 l2 M) (hS:S<M) (n0:z≠S) (n1:TI≠S) (n2:TO≠S) (n3:j1≠S) (n4:j2≠S) (n5:l1≠S) (n6:l2≠S)
 (n:Nat) (en:n=min us.size vs.size) (hn:n≤sizeLine) (res:Value)
 (hR : ∀ h' acc c' as,(∀ y o,y≠S→y≠z→y≠TO→y≠j1→y≠j2→h₁.get? y=some o→h'.get? y=some o)→h'.get? S=some { cls :=.type "list",dict:=none,data :=.seq acc c',slots := #[] }→as.length=n→ZG us vs M h' as→acc.toList=as.map Value.ref→R (.ok (.ret res)) { s with heap:=h' }) :
  ∀ (k i:Nat) (h:Heap) (c':Nat) (acc:Array Value) (as:List Addr),n-i=k→i≤n→ZSt b c z TI TO j1 j2 l1 l2 M us vs i h→(∀ y o,y≠S→y≠z→y≠TO→y≠j1→y≠j2→h₁.get? y=some o→h.get? y=some o) →
   h.get? S=some { cls :=.type "list",dict:=none,data :=.seq acc c',slots := #[] }→acc.toList=as.map Value.ref→as.length=i→ZG us vs M h as→M≤h.objs.size →
   codeAny (model prog w) A (.builtin "list.extend.loop" ⟨[.ref S,.ref z,res],[]⟩) R { s with heap:=h }:=by
  intro k
  have lz:=L.z
  have lt:=L.t
  have l1':=L.j1
  have l2':=L.j2
  induction k with
  | zero =>
   intro i h c' acc as hk hi st hkeep hSo hacc hal hG hM
   have hin:i=n:=by omega
   refine codeAny_builtin PySem.F.entry_extend_loop ?_
   rw [Around.under_plainId PySem.F.plain_extend_loop _]
   show wpAny _ A.in1 (pyNext (.ref z) >>= _) _ _ _
   refine wpAny_bind (zst_done (s:={ s with heap:=h }) (A:=A.in1) hh D st (by rw [hin,en];simp only [Array.getElem?_eq_none_iff];omega) fun h' he=>?_)
   exact wpAny_pure (hR h' acc c' as (fun y o h1 h2 h3 h4 h5 e=>he y o h2 h3 h4 h5 (hkeep y o h1 h2 h3 h4 h5 e)) (he S _ (Ne.symm n0) (Ne.symm n2) (Ne.symm n3) (Ne.symm n4) hSo) (by omega) (hG.keep fun x o hx e=>he x o (hiA lz hx) (hiA lt hx) (hiA l1' hx) (hiA l2' hx) e) hacc)
  | succ k ih =>
   intro i h c' acc as hk hi st hkeep hSo hacc hal hG hM
   have hlt:i<n:=by omega
   have hsz:acc.size=i:=by rw [← Array.length_toList,hacc,List.length_map,hal]
   have hu:us[i]?=some (us[i]'(by omega)):=Array.getElem?_eq_getElem _
   have hv:vs[i]?=some (vs[i]'(by omega)):=Array.getElem?_eq_getElem _
   refine codeAny_builtin PySem.F.entry_extend_loop ?_
   rw [Around.under_plainId PySem.F.plain_extend_loop _]
   show wpAny _ A.in1 (pyNext (.ref z) >>= _) _ _ _
   refine wpAny_bind (zst_item (s:={ s with heap:=h }) D L st hM hu hv fun h' st' ht hz hkp=>?_)
   dsimp only at ht hz hkp ⊢
   have hS':=hkp S _ (Ne.symm n0) (Ne.symm n2) (Ne.symm n3) (Ne.symm n4) hSo
   have up : ∀ y o,y≠S→h'.get? y=some o→(h'.update S (Obj.mapSeq (·.push (Value.ref h.objs.size)))).get? y=some o:=fun y o hb e=>(Heap.get?_update_other _ _ (Ne.symm hb)).trans e
   show wpAny _ A.in1 (updateSeq S (·.push (Value.ref h.objs.size)) >>= _) _ _ _
   refine wpAny_bind ?_
   refine wpAny_updateSeq hS' rfl (wpAny_pure ⟨plainId_quiet PySem.F.plain_extend_loop _,ih (i+1) _ _ (acc.push (Value.ref h.objs.size)) (as++[h.objs.size]) (by omega) hlt (st'.keep L up hS n0 n1 n2 n3 n4 n5 n6)
    (fun y o h1 h2 h3 h4 h5 e=>up y o h1 (hkp y o h2 h3 h4 h5 (hkeep y o h1 h2 h3 h4 h5 e))) (Heap.get?_update_self _ hS' rfl) (by rw [Array.toList_push,hacc,List.map_append];rfl) (by rw [List.length_append,hal];rfl) ⟨?_,?_,?_⟩ ?_⟩) (by rw [hsz];omega) (by show (acc.push (Value.ref h.objs.size)).size≤sizeLine+1;rw [Array.size_push,hsz];omega)
   ·refine List.pairwise_append.mpr ⟨hG.rise,List.pairwise_singleton _ _,fun x hx y hy=>?_⟩
    rw [List.mem_singleton.mp hy]
    exact hG.there hx
   ·intro x hx
    rcases List.mem_append.mp hx with hx|hx
    ·exact hG.above x hx
    ·rw [List.mem_singleton.mp hx];exact hM
   ·intro j y hj
    by_cases h1:j<as.length
    ·rw [List.getElem?_append_left h1] at hj
     obtain ⟨u,v,e1,e2,e3⟩:=hG.pairs j y hj
     have hb:=hG.above y (List.mem_of_getElem? hj)
     exact ⟨u,v,e1,e2,up y _ (hiA hS hb) (hkp y _ (hiA lz hb) (hiA lt hb) (hiA l1' hb) (hiA l2' hb) e3)⟩
    ·rw [List.getElem?_append_right (by omega)] at hj
     have hj0:j-as.length=0:=by
      have:=(List.getElem?_eq_some_iff.mp hj).1
      simp at this;omega
     rw [hj0] at hj
     cases hj
     have ej:j=i:=by omega
     subst ej
     exact ⟨_,_,hu,hv,up _ _ (hiA hS hM) ht⟩
   ·rw [Heap.size_update,hz];exact Nat.le_succ_of_le hM
theorem zip_no_len:typeLookup (.type "zip") "__len__" = pure none:=by rw [typeLookup_type,builtinLookup_eq_fast];kernel_rfl
theorem zip_no_hint:typeLookup (.type "zip") "__length_hint__" = pure none:=by rw [typeLookup_type,builtinLookup_eq_fast];kernel_rfl
theorem zc_collect {R:List Value→Shared→Prop} (hh:A.handled=none) (D:ZipApart z TI TO j1 j2 l1 l2) (L:ZLow z TI TO j1 j2 l1 l2 s.heap.objs.size) (st:ZSt b c z TI TO j1 j2 l1 l2 (s.heap.objs.size+1) us vs 0 s.heap) (hn:min us.size vs.size≤sizeLine)
 (q : ∀ h' as,(∀ y o,y≠z→y≠TO→y≠j1→y≠j2→s.heap.get? y=some o→h'.get? y=some o)→as.length=min us.size vs.size→ZG us vs (s.heap.objs.size+1) h' as→R (as.map Value.ref) { s with heap:=h' }) :
  wpAny (model prog w) A (collect (.ref z)) R E s:=by
  obtain ⟨q0,q1,q2,q3,q4,q5,q6⟩:=id L
  have L':ZLow z TI TO j1 j2 l1 l2 (s.heap.objs.size+1):=⟨Nat.lt_succ_of_lt q0,Nat.lt_succ_of_lt q1,Nat.lt_succ_of_lt q2,Nat.lt_succ_of_lt q3,Nat.lt_succ_of_lt q4,Nat.lt_succ_of_lt q5,Nat.lt_succ_of_lt q6⟩
  have zt : ∀ {h:Heap},ZSt b c z TI TO j1 j2 l1 l2 (s.heap.objs.size+1) us vs 0 h→Shared.TypeIs { s with heap:=h } (.ref z) "zip":=fun x=>by
   rcases x.zip with ⟨h1,_⟩|⟨a,f,oa,h1,_⟩
   ·exact ⟨_,h1,rfl⟩
   ·exact ⟨_,h1,rfl⟩
  unfold collect
  refine wpAny_bind (wpAny_runValue (codeAny_builtin PySem.F.entry_proto_collect ?_))
  rw [Around.under_plainId PySem.F.plain_proto_collect _]
  show wpAny _ A.in1 (newList [] >>= fun l=>again (.builtin "list.__iadd__" ⟨[l,.ref z],[]⟩)) _ _ s
  refine wpAny_bind (wpAny_newObj_type ?_)
  refine wpAny_pure ⟨plainId_quiet PySem.F.plain_list_iadd _,codeAny_builtin PySem.F.entry_list_iadd ?_⟩
  rw [Around.under_plainId PySem.F.plain_list_iadd _]
  have st1:=st.keep (S:=s.heap.objs.size) (h':=s.heap.push { cls :=.type "list",data :=.seq ([]:List Value).toArray }) L' (fun y o _ e=>Heap.get?_push_of_some _ e) (Nat.lt_succ_self _) (Nat.ne_of_lt q0) (Nat.ne_of_lt q1) (Nat.ne_of_lt q2) (Nat.ne_of_lt q3) (Nat.ne_of_lt q4) (Nat.ne_of_lt q5) (Nat.ne_of_lt q6)
  have sz1:(s.heap.push { cls :=.type "list",data :=.seq ([]:List Value).toArray }).objs.size=s.heap.objs.size+1:=Heap.size_push ..
  have hS₁:(s.heap.push { cls :=.type "list",data :=.seq ([]:List Value).toArray }).get? s.heap.objs.size=some { cls :=.type "list",data :=.seq ([]:List Value).toArray }:=Heap.get?_push_size _ rfl
  have k1 : ∀ y o,s.heap.get? y=some o→(s.heap.push { cls :=.type "list",data :=.seq ([]:List Value).toArray }).get? y=some o:=fun y o e=>Heap.get?_push_of_some _ e
  show wpAny _ A.in1 (Builtin.List.listExtendWith (.ref s.heap.objs.size) (.ref z) (.ref s.heap.objs.size)) _ _ _
  generalize s.heap.push { cls :=.type "list",data :=.seq ([]:List Value).toArray }=p1 at st1 sz1 hS₁ k1
  unfold Builtin.List.listExtendWith
  refine wpAny_bind (wpAny_typeOf (zt st1) ?_)
  have h1:Builtin.List.listSameRef (.ref s.heap.objs.size) (.ref z)=false:=by simp [Builtin.List.listSameRef];exact Nat.ne_of_gt q0
  have h2:(Value.type "zip" == Value.type "list")=false:=by decide
  have h3:(Value.type "zip" == Value.type "tuple")=false:=by decide
  simp only [h1,h2,h3,Bool.or_false,Bool.false_eq_true,if_false]
  have self : ∀ {Q:Value→Shared→Prop}{E:Value→Shared→Prop},Q (.ref z) { s with heap:=p1 }→wpAny (model prog w) A.in1 (pyIter (.ref z)) Q E { s with heap:=p1 }:=fun h=>by
   rcases st1.zip with ⟨h1,_⟩|⟨a,f,oa,h1,_,h3⟩
   ·exact wpAny_pyIter_zip h1 h
   ·rcases st.zip with ⟨h4,_⟩|⟨a',f',oa',h4,h5,h6⟩
    ·have:=k1 _ _ h4
     rw [h1] at this
     simp [rawInt] at this
    ·exact absurd (Heap.lt_size h5) (Nat.not_lt.mpr (Nat.le_of_succ_le h6))
  refine wpAny_bind (self ?_)
  refine wpAny_bind (wpAny_holding ?_)
  unfold Builtin.List.listLengthHint
  refine wpAny_bind (wpAny_specialOf (zt st1) zip_no_len ?_)
  show wpAny _ A.in1 (specialOf (Value.ref z) (Str.ofString "__length_hint__") >>= _) _ _ _
  refine wpAny_bind (wpAny_specialOf (zt st1) zip_no_hint ?_)
  refine wpAny_pure ?_
  show wpAny _ A.in1 (rule "list.extend.makes-room" >>= fun _=>Builtin.List.listTouch (.ref s.heap.objs.size) >>= fun _=>again (.builtin "list.extend.loop" ⟨[.ref s.heap.objs.size,.ref z,.ref s.heap.objs.size],[]⟩)) _ _ _
  refine wpAny_bind (wpAny_rule ?_)
  refine wpAny_bind ?_
  show wpAny _ A.in1 (updateSeq s.heap.objs.size (·.push .none) >>= fun _=>updateSeq s.heap.objs.size (·.pop)) _ _ _
  refine wpAny_bind (wpAny_updateSeq hS₁ rfl ?_)
  have hS₂:=Heap.get?_update_self (Obj.mapSeq (·.push Value.none)) hS₁ rfl
  refine wpAny_updateSeq hS₂ rfl ?_
  have hS₃:=Heap.get?_update_self (Obj.mapSeq (·.pop)) hS₂ rfl
  have oth : ∀ y o,y≠s.heap.objs.size→p1.get? y=some o→((p1.update s.heap.objs.size (Obj.mapSeq (·.push Value.none))).update s.heap.objs.size (Obj.mapSeq (·.pop))).get? y=some o :=
   fun y o hb e=>(Heap.get?_update_other _ _ (Ne.symm hb)).trans ((Heap.get?_update_other _ _ (Ne.symm hb)).trans e)
  have st3:=st1.keep L' oth (Nat.lt_succ_self _) (Nat.ne_of_lt q0) (Nat.ne_of_lt q1) (Nat.ne_of_lt q2) (Nat.ne_of_lt q3) (Nat.ne_of_lt q4) (Nat.ne_of_lt q5) (Nat.ne_of_lt q6)
  refine wpAny_pure ⟨plainId_quiet PySem.F.plain_extend_loop _,zc_loop (s:=s) (h₁:=s.heap) hh D L' (Nat.lt_succ_self _) (Nat.ne_of_lt q0) (Nat.ne_of_lt q1) (Nat.ne_of_lt q2) (Nat.ne_of_lt q3) (Nat.ne_of_lt q4) (Nat.ne_of_lt q5) (Nat.ne_of_lt q6) _ rfl hn _ ?_ _ 0 _ _ #[] [] rfl (Nat.zero_le _) st3 (fun y o _ _ _ _ _ e=>oth y o (Nat.ne_of_lt (Heap.lt_size e)) (k1 y o e)) hS₃ rfl rfl ⟨.nil,(fun _ h=>by cases h),(fun j a h=>by simp at h)⟩ (by rw [Heap.size_update,Heap.size_update,sz1];exact Nat.le_refl _)⟩
  intro h' acc c' as hk hS' hal hG hacc
  show wpAny _ A (load s.heap.objs.size >>= _) _ _ _
  refine wpAny_bind (wpAny_load hS' ?_)
  show wpAny _ A (pure acc.toList) _ _ _
  rw [hacc]
  exact wpAny_pure (q h' as (fun y o n1 n2 n3 n4 e=>hk y o (Nat.ne_of_lt (Heap.lt_size e)) n1 n2 n3 n4 e) hal hG)
end
end L2
namespace L2
open PySem PySem.Spec PyProof.Rows PySem.W
section
variable {X:Cx}{pins:List (Addr×Obj)}{σ:St}{s:Shared}
theorem track_all : ∀ (ps:List (Addr×V×V)) {F H:Hp},Same F H→Inv X pins σ H s→(∀ p ∈ ps,OwnA X pins p.1∧H p.1=none ∧ ∃ u v,RelV p.2.1 u∧RelV p.2.2 v∧IsPair s.heap p.1 u v)→(ps.map (·.1)).Nodup →
 ∃ F' H',Inv X pins σ H' s∧Go F H F' H'∧(∀ b,b ∉ ps.map (·.1)→H' b=H b) ∧ ∀ p ∈ ps,F' p.1=some (.tup [p.2.1,p.2.2])
  | [],F,H,sm,I,_,_=>⟨F,H,I,.refl sm,fun _ _=>rfl,fun p hp=>by cases hp⟩
  | p::ps,F,H,sm,I,h,nd=>by
   obtain ⟨ow,hn,u,v,r1,r2,hp⟩:=h p (by simp)
   rw [List.map_cons,List.nodup_cons] at nd
   have g0:=Go.put (o:=HO.tup [p.2.1,p.2.2]) sm hn
   have I1:=I.track (u :=.tup [p.2.1,p.2.2]) ow hn ⟨by show 2≤sizeLine;rw [sizeLine_eq];omega,[u,v],.cons r1 (.cons r2 .nil),_,hp,rfl,0,rfl⟩
   obtain ⟨F',H',I',g,q1,q2⟩:=track_all ps g0.fh I1 (fun q hq=>by
    obtain ⟨ow',hn',r⟩:=h q (List.mem_cons_of_mem _ hq)
    refine ⟨ow',?_,r⟩
    rw [upd_ne (fun z:q.1=p.1=>nd.1 (List.mem_map.mpr ⟨q,hq,z⟩))]
    exact hn') nd.2
   refine ⟨F',H',I',g0.trans g,fun b hb=>?_,fun q hq=>?_⟩
   ·rw [List.map_cons,List.mem_cons,not_or] at hb
    rw [q1 b hb.2,upd_ne hb.1]
   ·rcases List.mem_cons.mp hq with rfl|hq
    ·exact g.f.at upd_same
    ·exact q2 q hq
def rSortZ (K:PySem.W.Frag):List V→Hp→VK→Prop:=fun vs H Q => ∃ (F:Hp) (b c:Bool) (l m:Addr) (xs ys:List V) (kl:Nat→List Int) (mm:Nat),vs=[.ref l,.ref m]∧Same F H∧SqX b K H l xs∧SqX c K H m ys∧xs.length=ys.length∧xs.length<64 ∧
 (∀ (i:Nat) x,xs[i]?=some x→(kl i).length=mm ∧ ∃ t,x = .ref t∧SqT K H t ((kl i).map V.int))∧OrdN xs.length (keyLess kl mm)∧(∀ i j,i<xs.length→j<xs.length→i≠j→kl i≠kl j) ∧
 ∀ (p:Array Nat) (r:Addr) (as:List Addr) (F' H':Hp),PmN xs.length p→SrtN (keyLess kl mm) p xs.length→Go F H F' H'→as.length=xs.length→(∀ (i:Nat) a x y,as[i]?=some a→xs[i]?=some x→ys[i]?=some y→F' a=some (.tup [x,y])) →
  H' r=none→Q (.ref r) (upd H' r (.lst (p.toList.map fun i=>(as.map V.ref).getD i .non)))
theorem vals_refs : ∀ as:List Addr,Vals (as.map V.ref) (as.map Value.ref)
 | [] => .nil
 | a::as => .cons rfl (vals_refs as)
theorem pe_sortZ {a b:Expr}{ta:TA}{p p2 pos pos2:Pos} (hu:X.A.in1.in1.units<cLine) (hh:X.A.handled=none) (hg:Gl X "sorted") (hm:X.mg "sorted" = none) (hg2:Gl X "zip") (hm2:X.mg "zip" = none) (ha:PA X [a,b] ta)
 (hs0:starEach [.Call (.Name "zip" p2) [a,b] [] pos2] X.env=[(false,eval (.Call (.Name "zip" p2) [a,b] [] pos2) X.env)]:=by rfl) (hs:starEach [a,b] X.env=[(false,eval a X.env),(false,eval b X.env)]:=by rfl) (hs2:starEach [b] X.env=[(false,eval b X.env)]:=by rfl) :
  PE X (.Call (.Name "sorted" p) [.Call (.Name "zip" p2) [a,b] [] pos2] [] pos) (fun σ H Q=>ta σ H fun vs H1=>rSortZ X.K vs H1 Q):=by
  intro pins s σ H Q I h
  refine wpAny_Call_Name_kw (ld_blt I hg hm boot_sorted ?_)
  rw [hs0]
  refine Calls.callWith_builtin rfl (Calls.evalArgs_plain ?_)
  show wpAny _ _ (spliced ((false,eval (.Call (.Name "zip" p2) [a,b] [] pos2) X.env)::[])) _ _ s
  refine Calls.spliced_cons (Call_ (ld_blt I hg2 hm2 boot_zip (PyProof.Rows.callWith_type1 (thn (ha pos2 pins s σ H _ I h) fun us s1 xx163=>?_) (by rw [hs,hs2]) (by rw [hs2];rfl))))
  obtain ⟨vs,H1,I1,r1,q1⟩:=xx163
  obtain ⟨F,kb,kc,l,m,xs,ys,kl,mm,e,sm,hq,hq',el,h64,hk,o,hd,q⟩:=q1
  subst e
  obtain ⟨u1,u2,rfl,r1,r2⟩:=Vals.two r1
  cases r1
  cases r2
  obtain ⟨its,rv,pl⟩:=I1.sqx hq
  obtain ⟨its',rv',pl'⟩:=I1.sqx hq'
  have zl:its.length=xs.length:=rv.length.symm
  have zl':its'.length=xs.length:=by rw [el];exact rv'.length.symm
  refine zp_call pl pl' fun h' a0 a1 a2 a3 a4 hk0=>Calls.spliced_nil ?_
  have D:=zipApart_new pl.lt pl'.lt
  have lt4:s1.heap.objs.size+4<h'.objs.size:=Heap.lt_size a0
  have hle:s1.heap.objs.size≤h'.objs.size:=by omega
  refine Calls.call_function_entry kind_sorted plain_sorted entry_sorted (args_sorted1 _) ?_
  unfold Builtin.«sorted»
  refine wpAny_bind (m:=checkCount "sorted" 1 1 _) (wpAny_pure ?_)
  refine wpAny_bind (zc_collect (s:={ s1 with heap:=h' }) (b:=kb) (c:=kc) hh D ⟨lt4,Nat.lt_of_le_of_lt (by omega) lt4,Nat.lt_of_le_of_lt (by omega) lt4,Nat.lt_of_le_of_lt (by omega) lt4,Nat.lt_of_le_of_lt (by omega) lt4,Nat.lt_of_lt_of_le pl.lt hle,Nat.lt_of_lt_of_le pl'.lt hle⟩
   ⟨.inl ⟨a0,_,_,a2⟩,a1,a3,a4,pl.at' fun o e=>hk0 _ o e,pl'.at' fun o e=>hk0 _ o e⟩ (by rw [sizeLine_eq];simp;omega) fun h2 as kp al zg=>?_)
  have la:as.length=xs.length:=by rw [al];simp;omega
  have old : ∀ y ob,s1.heap.get? y=some ob→h2.get? y=some ob:=fun y ob e=>by
   have hy:=Heap.lt_size e
   exact kp y ob (Nat.ne_of_lt (Nat.lt_of_lt_of_le hy (Nat.le_add_right _ 4))) (Nat.ne_of_lt (Nat.lt_of_lt_of_le hy (Nat.le_add_right _ 3))) (Nat.ne_of_lt hy) (Nat.ne_of_lt (Nat.lt_of_lt_of_le hy (Nat.le_add_right _ 1))) (hk0 y ob e)
  have I2:=I1.kept (t':=s1.toks) old
  have hi : ∀ x ∈ as,s1.heap.objs.size≤x:=fun x hx=>Nat.le_trans (Nat.le_succ_of_le hle) (zg.above x hx)
  have nd:as.Nodup:=zg.rise.imp fun h=>Nat.ne_of_lt h
  let ps:List (Addr×V×V):=as.zip (xs.zip ys)
  have mp:ps.map (·.1)=as:=by
   show (as.zip (xs.zip ys)).map Prod.fst=as
   rw [List.map_fst_zip]
   rw [List.length_zip];omega
  obtain ⟨F',H',I3,g,q1,q2⟩:=track_all ps sm I2 (fun pr hp=>by
   obtain ⟨j,hj⟩:=List.mem_iff_getElem?.mp hp
   obtain ⟨ja,jp⟩:=List.getElem?_zip_eq_some.mp hj
   obtain ⟨jx,jy⟩:=List.getElem?_zip_eq_some.mp jp
   obtain ⟨u,v,e1,e2,e3⟩:=zg.pairs j _ ja
   obtain ⟨u',eu,ru⟩:=rv.get jx
   obtain ⟨v',ev,rw'⟩:=rv'.get jy
   simp at e1 e2
   rw [eu] at e1
   rw [ev] at e2
   cases e1
   cases e2
   have hx:=hi pr.1 (List.mem_of_getElem? ja)
   exact ⟨own_a I1 hx,I1.hok.fresh hx,u,v,ru,rw',e3⟩) (by rw [mp];exact nd)
  have tup : ∀ (i:Nat) a x y,as[i]?=some a→xs[i]?=some x→ys[i]?=some y→F' a=some (.tup [x,y]):=fun i a x y e1 e2 e3 =>
   q2 (a,x,y) (List.mem_of_getElem? (i:=i) (List.getElem?_zip_eq_some.mpr ⟨e1,List.getElem?_zip_eq_some.mpr ⟨e2,e3⟩⟩))
  have hsz:(as.map Value.ref).length=xs.length:=by rw [List.length_map,la]
  refine wpAny_bind (wpAny_newList ?_ (by rw [sizeLine_eq];omega))
  have hoL:(h2.push (seqObj "list" (as.map Value.ref).toArray 0)).get? h2.objs.size=some (seqObj "list" (as.map Value.ref).toArray 0):=Heap.get?_push_size _ rfl
  have I4:=I3.kept (t':=s1.toks) (h':=h2.push (seqObj "list" (as.map Value.ref).toArray 0)) fun b u e=>Heap.get?_push_of_some _ e
  have ow:=own_a I3 (Nat.le_refl h2.objs.size)
  have nl:=I3.hok.fresh (Nat.le_refl h2.objs.size)
  refine wpAny_bind (wpAny_holding (wpAny_call_entry slot_list_sort ⟨_,hoL,rfl⟩ entry_list_sort ?_ (args_list_sort _)))
  refine sort_plain (s:={ s1 with heap:=h2.push (seqObj "list" (as.map Value.ref).toArray 0) }) (kl:=kl) (m:=mm) hu (by rw [hsz];exact o) (fun i hi=>?_) (by rw [hsz];exact hd) (fun i hi=>?_) I4 ow nl (by omega) hoL fun pm s' cc hp hs I' hl=>?_
  ·have e:xs[i]?=some (xs[i]'(by omega)):=List.getElem?_eq_getElem _
   exact (hk i _ e).1
  ·have e:xs[i]?=some (xs[i]'(by omega)):=List.getElem?_eq_getElem _
   have e':ys[i]?=some (ys[i]'(by omega)):=List.getElem?_eq_getElem _
   have ea:as[i]?=some (as[i]'(by omega)):=List.getElem?_eq_getElem _
   obtain ⟨_,t,ex,st⟩:=hk i _ e
   have tt:=tup i _ _ _ ea e e'
   rw [ex] at tt
   exact ⟨_,t,_,by rw [List.getD_eq_getElem?_getD,List.getElem?_map,ea];rfl,SqT.of (g.fh.at tt),same_tup g.h st⟩
  have vp:=vals_pick (vals_refs as) (l:=pm.toList) fun i hi=>by
   have:=List.mem_range.mp (hp.p.mem_iff.mp hi)
   simpa using this
  have I5:=I'.track (u :=.lst (pm.toList.map fun i=>(as.map V.ref).getD i V.non)) ow nl ⟨by rw [List.length_map,Array.length_toList,hp.s,hsz,sizeLine_eq];omega,_,cc,vp,hl⟩
  exact ⟨_,rfl,wpAny_pure ⟨_,rfl,.ref h2.objs.size,_,I5,rfl,q pm _ as F' H' (by rw [← hsz];exact hp) (by rw [← hsz];exact hs) g la tup nl⟩⟩
def wSortZ (Wa Wb:WE):WF:=fun env Q=>Wa env fun x e1=>Wb e1 fun y e => ∃ (l m:List PyData) (kl:Nat→List Int) (mm:Nat),seqD x=some l∧seqD y=some m∧l.length=m.length∧l.length<64∧(∀ (i:Nat) d,l[i]?=some d→(kl i).length=mm∧d = .tuple ((kl i).map .int)) ∧
 OrdN l.length (keyLess kl mm)∧(∀ i j,i<l.length→j<l.length→i≠j→kl i≠kl j) ∧ ∀ p:Array Nat,PmN l.length p→SrtN (keyLess kl mm) p l.length→Q (p.toList.map fun i=>(zipD l m).getD i .none) e
theorem vf_sortZ {a b:Expr}{Wa Wb:WE}{p p2 pos pos2:Pos} (hu:X.A.in1.in1.units<cLine) (hh:X.A.handled=none) (hm:X.mg "sorted" = none) (hm2:X.mg "zip" = none) (ha:VE X a Wa) (hb:VE X b Wb) (hg:Gl X "sorted":=by rfl) (hg2:Gl X "zip":=by rfl)
 (hs0:starEach [.Call (.Name "zip" p2) [a,b] [] pos2] X.env=[(false,eval (.Call (.Name "zip" p2) [a,b] [] pos2) X.env)]:=by rfl) (hs:starEach [a,b] X.env=[(false,eval a X.env),(false,eval b X.env)]:=by rfl) (hs2:starEach [b] X.env=[(false,eval b X.env)]:=by rfl)
 (hs3:starEach [a,b] X.env=(false,eval a X.env)::starEach [b] X.env:=by rfl) (hs4:starEach [b] X.env=(false,eval b X.env)::starEach [] X.env:=by rfl) :
 VF X (.Call (.Name "sorted" p) [.Call (.Name "zip" p2) [a,b] [] pos2] [] pos) (wSortZ Wa Wb) :=
 (pe_sortZ hu hh hg hm hg2 hm2 (pa_cons ha (pa_cons hb pa_nil hs4) hs3) hs0 hs hs2).imp fun σ H R xx165=>by
  obtain ⟨M,env,F,Q,I,h,k⟩:=xx165
  refine ⟨M,env,F,_,I,h,fun d v F1 H1 e1 I1 s1 i1 h1=>⟨M,e1,F1,_,I1,h1,fun d2 v2 F2 H2 e2 I2 s2 i2 xx164=>?_⟩⟩
  obtain ⟨l,m,kl,mm,z1,z2,el,h64,hk,o,hd,hq⟩:=xx164
  obtain ⟨kb,a1,xs,rfl,y1,y2⟩:=is_sqx z1 (i1.mono s2)
  obtain ⟨kc,a2,ys,rfl,y3,y4⟩:=is_sqx z2 i2
  have n1:=y2.len
  have n2:=y4.len
  refine ⟨F2,kb,kc,a1,a2,xs,ys,kl,mm,rfl,I2.fh,same_seqX I2.fh y1,same_seqX I2.fh y3,by omega,by omega,fun i x hx=>?_,by rw [n1];exact o,by rw [n1];exact hd,fun pm r as F' H' hp hs g la tup hr=>?_⟩
  ·have hi:=(List.getElem?_eq_some_iff.mp hx).1
   have e:l[i]?=some (l[i]'(by omega)):=List.getElem?_eq_getElem _
   obtain ⟨km,ed⟩:=hk i _ e
   obtain ⟨x',ex,ix⟩:=y2.get e
   rw [hx] at ex
   cases ex
   rw [ed] at ix
   obtain ⟨t,zs,et,st,iz⟩:=ix.tup_inv
   rw [iz.ints_inv] at st
   exact ⟨km,t,et,same_tup I2.fh st⟩
  ·rw [n1] at hp hs
   have zi:Iss X.K F' (zipD l m) (as.map V.ref):=by
    have gen : ∀ (l m:List PyData) (xs ys:List V) (as:List Addr),Iss X.K F' l xs→Iss X.K F' m ys→l.length=m.length→as.length=xs.length→(∀ (i:Nat) a x y,as[i]?=some a→xs[i]?=some x→ys[i]?=some y→F' a=some (.tup [x,y]))→Iss X.K F' (zipD l m) (as.map V.ref):=by
     intro l
     induction l with
     | nil =>
      intro m xs ys as h1 h2 e1 e2 h3
      have:=h1.len
      have e0:as=[]:=List.length_eq_zero_iff.mp (by rw [e2,this];rfl)
      subst e0
      exact iss_nil
     | cons d l ih =>
      intro m xs ys as h1 h2 e1 e2 h3
      cases m with
      | nil=>cases e1
      | cons d' m =>
       obtain ⟨x,xs,rfl,ix,h1⟩:=h1.cons_inv
       obtain ⟨y,ys,rfl,iy,h2⟩:=h2.cons_inv
       cases as with
       | nil=>cases e2
       | cons a as=>exact iss_cons (is_tup (SqT.of (h3 0 a x y rfl rfl rfl)) (iss_cons ix (iss_cons iy iss_nil))) (ih m xs ys as h1 h2 (Nat.succ.inj e1) (Nat.succ.inj e2) fun i a x y q1 q2 q3=>h3 (i+1) a x y (by simpa using q1) (by simpa using q2) (by simpa using q3))
    exact gen l m xs ys as (y2.mono g.f) (y4.mono g.f) el la tup
   have g':Go F2 H2 F' (upd H' r (.lst (pm.toList.map fun i=>(as.map V.ref).getD i .non))):=g.trans (.side g.fh hr)
   have hr2:=same_none g.h hr
   exact k r _ _ F' _ e2 (I2.go g') ((s1.trans s2).trans g.f) upd_same (same_none g.fh hr) (same_none I2.bh hr2) (I2.he hr2) (fresh_apart I2 hr2) (iss_pick zi fun j hj=>by rw [zipD_len];have:=List.mem_range.mp (hp.p.mem_iff.mp hj);omega) (hq pm hp hs)
end
end L2
namespace L2
open PySem PySem.Spec PyProof.Rows PySem.W
section
variable {P:Program}{w:World}{K:PySem.W.Frag}{mg:Str→Option Value}{base:Heap}{q:Str}{scope:Scope}{f cg:Addr}{cd ug u:Value}{x y:Str}{A:Around}{outer:List Env}{s:Shared}{H:Hp}{v vg:V}{h1:Heap}{tk:Nat}
end
end L2
namespace L2
open PySem PySem.Spec PyProof.Rows PySem.W
section
variable {X:Cx}{pins:List (Addr×Obj)}{σ:St}{H:Hp}{s:Shared}{E:Value→Shared→Prop}{f a:Addr}{xs:List V}{its:List Value}{b:Bool}{kl:Nat→List Int}{G:Hp→Prop}{m:Nat}{Q:Value→Shared→Prop}
end
section
variable {X:Cx}{pins:List (Addr×Obj)}{σ:St}{x y:Str}{scope:Scope}{params:Arguments}{body:Expr}{te:TE}{f cg c:Addr}{pm ct:Value}{vg:V}{vsV:List V}{vs:List Value}{kn:Nat→Int}{G:Hp→Prop}{oc:Obj}{uu:HO}{fv:Array Value}{q:Str}{t:Tok}{nm qual:Str}{iy:Nat}
end
section
variable {X:Cx}{x y:Str}{scope:Scope}{params:Arguments}{body:Expr}{te:TE}{cg c0 tb:Addr}{iy:Nat}{np gp lp kp pos:Pos}
end
section
variable {X:Cx}{elt target iter cnd:Expr}{scope:Scope}{pos py spos:Pos}{caps own:List Str}{ix:List Nat}{Wi:WF}{G:WG}{Wt:WT}{We:WE}{i:Nat}{y:Str}
end
end L2
namespace HT
open PySem PySem.Spec PyProof.Rows
section
variable {prog:Program}{w:World}{A:Around}{E:Value→Shared→Prop}{s:Shared}
end
end HT
namespace L2
open PySem PySem.Spec PyProof.Rows PySem.W
theorem vals_fm {xs:List V}{its:List Value} (h:Vals xs its) (f:Nat→Nat) : ∀ js:List Nat,Vals (js.filterMap fun k=>xs[f k]?) (js.filterMap fun k=>its[f k]?)
 | [] => .nil
 | k::js=>by
  have ih:=vals_fm h f js
  rw [List.filterMap_cons,List.filterMap_cons]
  cases e:xs[f k]? with
  | none =>
   have:its[f k]?=none:=List.getElem?_eq_none (by rw [← h.length];exact List.getElem?_eq_none_iff.mp e)
   rw [this];exact ih
  | some x =>
   obtain ⟨u,hu,r⟩:=h.get e
   rw [hu]
   exact .cons r ih
section
variable {X:Cx}{e:Expr}{te:TE}{p2 pos:Pos}
end
section
variable {X:Cx}{e:Expr}{W:WE}{p2 p3 p4 pos:Pos}
end
section
variable {X:Cx}{x:Str}{px pos p pT:Pos}
end
end L2
namespace L2
open PySem PySem.Spec PyProof.Rows PySem.W
def EV:List XEnt→List (PKy×Addr×Value)→Prop
 | [],vs=>vs=[]
 | x::xs,vs => ∃ t r,vs=(x.1,x.2.1,Value.int x.2.2 t)::r∧EV xs r
theorem ents_ev (P:Program) (w:World) : ∀ {xs:List XEnt}{l:List DictEntry},Ents xs l → ∃ vs,EV xs vs∧l=vs.map (entryOfKey (pkKind P w))
 | [],_,h=>⟨[],rfl,h⟩
 | x::xs,_,h=>by
  obtain ⟨t,r,rfl,h⟩:=h
  obtain ⟨vs,h1,rfl⟩:=ents_ev P w h
  exact ⟨(x.1,x.2.1,.int x.2.2 t)::vs,⟨t,vs,rfl,h1⟩,rfl⟩
theorem ev_ents (P:Program) (w:World) : ∀ {xs:List XEnt}{vs:List (PKy×Addr×Value)},EV xs vs→Ents xs (vs.map (entryOfKey (pkKind P w)))
 | [],_,h=>by rw [show _=[] from h];rfl
 | x::xs,_,h=>by
  obtain ⟨t,r,rfl,h⟩:=h
  exact ⟨t,_,rfl,ev_ents P w h⟩
theorem EV.keys : ∀ {xs:List XEnt}{vs:List (PKy×Addr×Value)},EV xs vs→vs.map (·.1)=xs.map (·.1)∧vs.length=xs.length ∧ ∀ v ∈ vs,∃ x ∈ xs,x.1=v.1∧x.2.1=v.2.1
 | [],_,h=>by rw [show _=[] from h];exact ⟨rfl,rfl,fun v hv=>by cases hv⟩
 | x::xs,_,h=>by
  obtain ⟨t,r,rfl,h⟩:=h
  obtain ⟨h1,h2,h3⟩:=EV.keys h
  refine ⟨by rw [List.map_cons,List.map_cons,h1],by rw [List.length_cons,List.length_cons,h2],fun v hv=>?_⟩
  rcases List.mem_cons.mp hv with rfl|hv
  ·exact ⟨x,by simp,rfl,rfl⟩
  ·obtain ⟨y,hy,e⟩:=h3 v hv
   exact ⟨y,by simp [hy],e⟩
def atX (xs:List XEnt) (k:PKy):Option Int:=(xs.find? fun x=>decide (x.1=k)).map (·.2.2)
theorem EV.at {k:PKy} : ∀ {xs:List XEnt}{vs:List (PKy×Addr×Value)},EV xs vs→(atX xs k=none∧atKey vs k=none) ∨ ∃ n a t,atX xs k=some n∧atKey vs k=some (a,.int n t)
 | [],_,h=>by rw [show _=[] from h];exact .inl ⟨rfl,rfl⟩
 | x::xs,_,h=>by
  obtain ⟨t,r,rfl,h⟩:=h
  unfold atX atKey
  by_cases e:x.1=k
  ·rw [List.find?_cons_of_pos (by simpa using e),List.find?_cons_of_pos (by simpa using e)]
   exact .inr ⟨_,_,t,rfl,rfl⟩
  ·rw [List.find?_cons_of_neg (by simpa using e),List.find?_cons_of_neg (by simpa using e)]
   exact EV.at h
def putX (xs:List XEnt) (k:PKy) (a:Addr) (n:Int):List XEnt:=if (atX xs k).isSome=true then xs.map (fun x=>if x.1=k then (x.1,x.2.1,n) else x) else xs++[(k,a,n)]
theorem EV.set {k:PKy}{n:Int}{t:Tok} : ∀ {xs:List XEnt}{vs:List (PKy×Addr×Value)},EV xs vs→EV (xs.map (fun x=>if x.1=k then (x.1,x.2.1,n) else x)) (vs.map (putAt k (Value.int n t)))
 | [],_,h=>by rw [show _=[] from h];rfl
 | x::xs,_,h=>by
  obtain ⟨t',r,rfl,h⟩:=h
  rw [List.map_cons,List.map_cons]
  by_cases e:x.1=k
  ·rw [if_pos e]
   exact ⟨t,_,by unfold putAt;rw [if_pos e],EV.set h⟩
  ·rw [if_neg e]
   exact ⟨t',_,by unfold putAt;rw [if_neg e],EV.set h⟩
theorem EV.snoc {k:PKy}{a:Addr}{n:Int}{t:Tok} : ∀ {xs:List XEnt}{vs:List (PKy×Addr×Value)},EV xs vs→EV (xs++[(k,a,n)]) (vs++[(k,a,Value.int n t)])
 | [],_,h=>by rw [show _=[] from h];exact ⟨t,[],rfl,rfl⟩
 | x::xs,_,h=>by
  obtain ⟨t',r,rfl,h⟩:=h
  exact ⟨t',_,rfl,EV.snoc h⟩
theorem EV.put {k:PKy}{a:Addr}{n:Int}{t:Tok}{xs:List XEnt}{vs:List (PKy×Addr×Value)} (h:EV xs vs):EV (putX xs k a n) (storedH vs k a (Value.int n t)):=by
 unfold putX storedH
 rcases h.at (k:=k) with ⟨e1,e2⟩|⟨m,b,u,e1,e2⟩
 ·rw [e1,e2];exact h.snoc
 ·rw [e1,e2];exact h.set
section
variable {X:Cx}{pins:List (Addr×Obj)}{σ:St}{H:Hp}{s:Shared}{a:Addr}{k:PKy}{c:Addr}{xs:List XEnt}
theorem prs_is (I:Inv X pins σ H s) : ∀ {k:PKy}{ys:List V}{us:List Value},Prs X.K H k ys→Vals ys us→Its2 X.prog X.w s.heap k us
 | [],ys,us,h,r=>by rw [show _=[] from h] at r;cases r;rfl
 | p::k,ys,us,h,r=>by
  obtain ⟨c,r',rfl,q,h⟩:=h
  cases r with
  | cons rx r =>
   cases rx
   obtain ⟨its,rv,⟨o,h1,h2,n,h3⟩,_⟩:=I.tuple q
   exact ⟨c,_,rfl,⟨o,its.toArray,n,h1,h2,h3,by simpa using items_are (ks:=pk1 p) rv⟩,prs_is I h r⟩
theorem pk_is (I:Inv X pins σ H s) (h:PkAt X.K H k c):(pkKind X.prog X.w).is s.heap k c:=by
 obtain ⟨ys,q,r⟩:=h
 obtain ⟨its,rv,⟨o,h1,h2,n,h3⟩,_⟩:=I.tuple q
 exact ⟨o,its.toArray,n,h1,h2,h3,by simpa using prs_is I r rv⟩
theorem dx_of (I:Inv X pins σ H s) (e:H a=some (.ext (DX a xs))) (ks : ∀ x ∈ xs,PkAt X.K H x.1 x.2.1):(a==sysModules)=false∧xs.length≤900∧(xs.map (·.1)).Nodup ∧ ∃ vs,EV xs vs∧Heap.DictOfH (pkKind X.prog X.w) s.heap a vs:=by
 obtain ⟨⟨⟨z1,z2,z3⟩,es,ep,⟨o,h1,h2,h3⟩,en⟩,_⟩:=(show ObjOk X.prog X.w H s.heap a (.ext (DX a xs)) from I.hok a _ e)
 obtain ⟨vs,ev,el⟩:=ents_ev X.prog X.w en
 obtain ⟨k1,k2,k3⟩:=ev.keys
 refine ⟨z1,z2,z3,vs,ev,o,es,ep,h1,h2,h3,el,fun v hv=>?_,by rw [k1];exact z3⟩
 obtain ⟨x,hx,e1,e2⟩:=k3 v hv
 rw [← e1,← e2]
 exact pk_is I (ks x hx)
theorem dx_back {P:Program}{w:World}{h:Heap}{vs:List (PKy×Addr×Value)} (d:Heap.DictOfH (pkKind P w) h a vs) (ev:EV xs vs) (z:(a==sysModules)=false) (l:xs.length≤900):DX a xs h:=by
 obtain ⟨o,es,ep,h1,h2,h3,h4,_,h5⟩:=d
 rw [ev.keys.1] at h5
 exact ⟨⟨z,l,h5⟩,es,ep,⟨o,h1,h2,h3⟩,by rw [h4];exact ev_ents P w ev⟩
def DgX (K:PySem.W.Frag) (H:Hp) (a:Addr) (y:V) (r:Option Int):Prop := ∃ xs k b,H a=some (.ext (DX a xs))∧(∀ x ∈ xs,PkAt K H x.1 x.2.1)∧y = .ref b∧PkAt K H k b∧r=atX xs k
variable {A:Around}{E:Value→Shared→Prop}{y:V}{u:Value}{n:Int}{r:Option Int}
theorem dx_get {Q:Value→Shared→Prop} (hu:A.units+2<cLine) (I:Inv X pins σ H s) (g:DgX X.K H a y (some n)) (ry:RelV y u) (h : ∀ t s',Inv X pins σ H s'→Q (.int n t) s'):wpAny (model X.prog X.w) A (getItem (.ref a) u) Q E s:=by
 obtain ⟨xs,k,b,e,ks,rfl,kb,er⟩:=g
 cases (show u=Value.ref b from ry)
 obtain ⟨z1,z2,z3,vs,ev,d⟩:=dx_of I e ks
 rcases ev.at (k:=k) with ⟨e1,e2⟩|⟨m,b',t,e1,e2⟩
 ·rw [e1] at er;cases er
 ·rw [e1] at er;cases er
  exact wpAny_getItem_heap (knd:=pkKind X.prog X.w) hu (pk_is I kb) d e2 (h t _ (I.tok _))
theorem dx_notIn {Q:Value→Shared→Prop} (hu:A.units+2<cLine) (I:Inv X pins σ H s) (g:DgX X.K H a y r) (ry:RelV y u) (h : ∀ s',Inv X pins σ H s'→Q (.bool (!r.isSome)) s'):wpAny (model X.prog X.w) A (compareOp .NotIn u (.ref a)) Q E s:=by
 obtain ⟨xs,k,b,e,ks,rfl,kb,rfl⟩:=g
 cases (show u=Value.ref b from ry)
 obtain ⟨z1,z2,z3,vs,ev,d⟩:=dx_of I e ks
 refine wpAny_notIn_heap (knd:=pkKind X.prog X.w) hu (pk_is I kb) z1 d ?_
 rcases ev.at (k:=k) with ⟨e1,e2⟩|⟨m,b',t,e1,e2⟩ <;> rw [e2] <;> rw [e1] at h <;> exact h _ (I.tok _)
theorem dx_get2 {Q:Value→Shared→Prop}{m:Int}{v:Value} (hu:A.units+2<cLine) (I:Inv X pins σ H s) (g:DgX X.K H a y r) (ry:RelV y u) (rv:RelV (.int m) v) (h : ∀ w' s',Inv X pins σ H s'→RelV (.int (r.getD m)) w'→Q w' s'):wpAny (model X.prog X.w) A (call (.builtin "dict.get") [.ref a,u,v]) Q E s:=by
 obtain ⟨xs,k,b,e,ks,rfl,kb,rfl⟩:=g
 cases (show u=Value.ref b from ry)
 obtain ⟨z1,z2,z3,vs,ev,d⟩:=dx_of I e ks
 refine call_meetsIn PySem.F.slot_dict_get d.typeIs PySem.F.entry_dict_get (PySem.F.args_dict_get_3 _ _ _) (meetsH_dict_get_default (pkKind X.prog X.w) a b z1 v) ⟨hu,k,vs,pk_is I kb,d,?_⟩
 rcases ev.at (k:=k) with ⟨e1,e2⟩|⟨m',b',t,e1,e2⟩ <;> rw [e2] <;> rw [e1] at h
 ·exact h _ _ (I.tok _) rv
 ·exact h _ _ (I.tok _) ⟨t,rfl⟩
theorem dx_set {Q:Unit→Shared→Prop}{m:Int}{v:Value}{b:Addr} (hu:A.units+2<cLine) (I:Inv X pins σ H s) (e:H a=some (.ext (DX a xs))) (ks : ∀ x ∈ xs,PkAt X.K H x.1 x.2.1) (kb:PkAt X.K H k b) (l:xs.length<900) (rv:RelV (.int m) v)
 (h : ∀ s',Inv X pins σ (upd H a (.ext (DX a (putX xs k b m)))) s'→Q () s'):wpAny (model X.prog X.w) A (setItem (.ref a) (.ref b) v) Q E s:=by
  obtain ⟨t,rfl⟩:=rv
  obtain ⟨z1,z2,z3,vs,ev,d⟩:=dx_of I e ks
  refine wpAny_setItem_heap (knd:=pkKind X.prog X.w) (hsz:=by rw [ev.keys.2.1,sizeLine_eq];omega) hu (pk_is I kb) d fun h' d' sb=>h _ ?_
  have l':(putX xs k b m).length≤900:=by
   unfold putX
   split
   ·rw [List.length_map];omega
   ·rw [List.length_append];simp;omega
  have o:=dx_back d' (ev.put (t:=t)) z1 l'
  have he : ∃ q,h'.get? a=some q:=let ⟨q,_,_,hq,_⟩:=d'; ⟨q,hq⟩
  exact d_write I (by rw [e];exact True.intro) sb he o.obj
theorem dx_leng {Q:Value→Shared→Prop} (I:Inv X pins σ H s) (e:H a=some (.ext (DX a xs))) (h : ∀ t s',Inv X pins σ H s'→Q (.int xs.length t) s'):wpAny (model X.prog X.w) A (call (.builtin "len") [.ref a]) Q E s:=by
 obtain ⟨⟨⟨z1,z2,z3⟩,es,ep,d,en⟩,_⟩:=(show ObjOk X.prog X.w H s.heap a (.ext (DX a xs)) from I.hok a _ e)
 have l:=en.len
 rw [Array.length_toList] at l
 refine dx_len z1 d (by omega) ?_
 rw [l]
 exact h _ _ (I.tok _)
end
section
variable {X:Cx}{o i e f value:Expr}{pos pos' apos cpos:Pos}{td ty tv tx:TE}
def tDNewX:TE:=fun _ H Q => ∀ p,H p=none→Q (.ref p) (upd H p (.ext (DX p [])))
theorem pe_dnewX:PE X (.Dict [] [] pos) tDNewX:=fun pins s σ H Q I h =>
 wpAny_Dict_empty ⟨.ref s.heap.objs.size,_,I.laid (a:=s.heap.objs.size) (o :=.ext (DX s.heap.objs.size [])) (t':=s.toks) (fun _ _ q=>Heap.get?_push_of_some _ q) (Nat.le_refl _)
  (DX.obj (dx_back (P:=X.prog) (w:=X.w) (Heap.DictOfH.new s.heap) rfl (beq_eq_false_iff_ne.mpr (Ne.symm (Nat.ne_of_lt I.big))) (Nat.zero_le _))),rfl,h _ (I.hok.fresh (Nat.le_refl _))⟩
def tDGet2X (K:PySem.W.Frag) (td ty tx:TE):TE:=fun σ H Q=>td σ H fun x H1 => ∃ a xs,x = .ref a∧H1 a=some (.ext (DX a xs))∧ty σ H1 fun y H2=>tx σ H2 fun z H3 => ∃ r m,z = .int m∧DgX K H3 a y r∧Q (.int (r.getD m)) H3
theorem pe_dget2X (hu:X.A.units+2<cLine) (ho:PE X o td) (he:PE X e ty) (hf:PE X f tx) (m:M2 X o "get" apos e f cpos):PE X (.Call (.Attribute o "get" apos) [e,f] [] cpos) (tDGet2X X.K td ty tx):=by
 intro pins s σ H Q I h
 refine wpAny_Call_method m.base m.few m.line PySem.F.plainAttrs_dict PySem.F.slot_dict_get PySem.F.type_dict_get (thn (ho pins s σ H _ I h) fun u s1 xx168=>?_)
 obtain ⟨x,H1,I1,rx,a,xs,ex,d,q1⟩:=xx168
 subst ex
 obtain rfl:u=Value.ref a:=rx
 obtain ⟨⟨z,es,ep,⟨ob,h1,h2,h3⟩,_⟩,_⟩:=(show ObjOk X.prog X.w H1 s1.heap a (.ext (DX a xs)) from I1.hok a _ d)
 refine ⟨⟨ob,h1,h2.1⟩,fun b q=>by cases q;exact ⟨ob,h1,h2.2.1⟩,?_⟩
 rw [m.trees]
 refine Calls.callWith_builtin rfl (Calls.evalArgs_plain (Calls.spliced_cons (thn (he pins s1 σ H1 _ I1 q1) fun iv s2 ⟨y,H2,I2,ry,q2⟩ =>
  Calls.spliced_cons (thn (hf pins s2 σ H2 _ I2 q2) fun fv s3 ⟨z,H3,I3,rz,r,m,ez,g,q3⟩=>Calls.spliced_nil ?_))))
 subst ez
 exact dx_get2 hu I3 g ry rz fun w' s4 I4 rw'=>⟨_,H3,I4,rw',q3⟩
def sDPutX (K:PySem.W.Frag) (td ty tv:TE):TS:=fun D σ H=>tv σ H fun v H1=>td σ H1 fun x H2=>ty σ H2 fun y H3 => ∃ a b xs k m,x = .ref a∧y = .ref b∧v = .int m∧H3 a=some (.ext (DX a xs))∧(∀ x ∈ xs,PkAt K H3 x.1 x.2.1)∧PkAt K H3 k b∧xs.length<900∧D.nx σ (upd H3 a (.ext (DX a (putX xs k b m))))
theorem ps_dputX (hu:X.A.units+2<cLine) (ho:PE X o td) (hi:PE X i ty) (hv:PE X value tv) (hs:swapsWith value (some (.Subscript o i pos')) pos.line X.env=pure false) :
 PS X (.Assign [.Subscript o i pos'] value pos) (sDPutX X.K td ty tv):=by
  intro pins s σ H D I h
  refine wpAny_Assign_Subscript (thn (hv pins s σ H _ I h) fun r s1 ⟨v,H1,I1,rv,q1⟩=>thn (ho pins s1 σ H1 _ I1 q1) fun u s2 ⟨x,H2,I2,rx,q2⟩=>thn (hi pins s2 σ H2 _ I2 q2) fun iv s3 xx169=>?_) hs
  obtain ⟨y,H3,I3,ry,a,b,xs,k,m,ex,ey,ev,e,ks,kb,l,q3⟩:=xx169
  subst ex ey ev
  obtain rfl:u=Value.ref a:=rx
  obtain rfl:iv=Value.ref b:=ry
  exact dx_set hu I3 e ks kb l rv fun s4 I4=>⟨σ,_,I4,q3⟩
abbrev DEnt:=PKy×Int
def eD (es:List DEnt):List (PyData×PyData):=es.map fun x=>(PyData.tuple (x.1.map prD),PyData.int x.2)
def atD (es:List DEnt) (k:PKy):Option Int:=(es.find? fun x=>decide (x.1=k)).map (·.2)
theorem prD_inj : ∀ {k l:PKy},k.map prD=l.map prD→k=l
 | [],[],_=>rfl
 | [],_::_,h=>by cases h
 | _::_,[],h=>by cases h
 | p::k,q::l,h=>by
  rw [List.map_cons,List.map_cons] at h
  injection h with h1 h2
  unfold prD at h1
  injection h1 with h1
  injection h1 with h1 h3
  injection h3 with h3 _
  injection h1 with h1
  injection h3 with h3
  rw [prD_inj h2,Prod.ext h1 h3]
theorem eD_of : ∀ {xs:List XEnt}{es:List DEnt},eD es=xD xs→es=xs.map fun x=>(x.1,x.2.2)
 | [],[],_=>rfl
 | [],_::_,h=>by cases h
 | _::_,[],h=>by cases h
 | x::xs,e::es,h=>by
  unfold eD xD at h
  rw [List.map_cons,List.map_cons] at h
  injection h with h1 h2
  injection h1 with h1 h3
  injection h1 with h1
  injection h3 with h3
  rw [List.map_cons,← eD_of (xs:=xs) (es:=es) h2,← prD_inj h1,← h3]
theorem atD_x {k:PKy} : ∀ (xs:List XEnt),atD (xs.map fun x=>(x.1,x.2.2)) k=atX xs k
 | []=>rfl
 | x::xs=>by
  unfold atD atX
  rw [List.map_cons]
  by_cases e:x.1=k
  ·rw [List.find?_cons_of_pos (by simpa using e),List.find?_cons_of_pos (by simpa using e)];rfl
  ·rw [List.find?_cons_of_neg (by simpa using e),List.find?_cons_of_neg (by simpa using e)]
   exact atD_x xs
theorem Iss.prs {K:PySem.W.Frag}{F:Hp} : ∀ {k:PKy}{ys:List V},Iss K F (k.map prD) ys→Prs K F k ys
 | [],_,h=>h.nil_inv
 | p::k,_,h=>by
  obtain ⟨x,r,rfl,h1,h2⟩:=h.cons_inv
  obtain ⟨c,zs,rfl,q,r1⟩:=h1.tup_inv
  have e:zs=[V.int p.1,V.int p.2]:=Iss.ints_inv (ns:=[p.1,p.2]) r1
  subst e
  exact ⟨c,r,rfl,q,Iss.prs h2⟩
theorem Is.pk {K:PySem.W.Frag}{F:Hp}{k:PKy}{y:V} (h:Is K F (.tuple (k.map prD)) y) : ∃ b,y = .ref b∧PkAt K F k b:=by
 obtain ⟨b,ys,rfl,q,r⟩:=h.tup_inv
 exact ⟨b,rfl,ys,q,r.prs⟩
theorem Is.dgx {K:PySem.W.Frag}{F F' H:Hp}{es:List DEnt}{k:PKy}{x y:V} (s1:Same F H) (s2:Same F' H) (n:es≠[]) (hd:Is K F (.dict (eD es)) x) (hk:Is K F' (.tuple (k.map prD)) y) : ∃ a,x = .ref a∧DgX K H a y (atD es k):=by
 obtain ⟨a,rfl,⟨kvs,q,m,z⟩|⟨xs,q,m,z⟩⟩:=hd.dct_inv
 ·obtain ⟨e,es',rfl⟩:=List.exists_cons_of_ne_nil n
  have:=z (.tuple (e.1.map prD),.int e.2) (by unfold eD;simp)
  simp [noTup] at this
 ·obtain ⟨b,rfl,kb⟩:=hk.pk
  refine ⟨a,rfl,xs,k,b,s1.at q,fun x hx=>(z x hx).mono s1,rfl,kb.mono s2,?_⟩
  rw [eD_of m,atD_x]
def dNinX:D2:=fun x y q => ∃ es k,y = .dict (eD es)∧es≠[]∧x = .tuple (k.map prD)∧q (.bool !(atD es k).isSome)
theorem op_ninX (hu:X.A.units+2<cLine):OpR X (compareOp .NotIn) (fun x y H Q => ∃ a r,y = .ref a∧DgX X.K H a x r∧Q (.bl (!r.isSome)) H):=by
 intro pins s σ H x y v u Q I rx ry h
 obtain ⟨a,r,rfl,g,q⟩:=h
 cases ry
 exact dx_notIn hu I g rx fun s' I'=>⟨.bl (!r.isSome),H,I',rfl,q⟩
theorem o_ninX (hu:X.A.units+2<cLine):OpV X (compareOp .NotIn) dNinX:=(op_ninX hu).imp fun x y H Q xx172=>by
 obtain ⟨F,dx,dy,q,s,i1,i2,⟨es,k,e1,n,e2,h⟩,kk⟩:=xx172
 subst e1 e2
 obtain ⟨a,rfl,g⟩:=Is.dgx s s n i2 i1
 exact ⟨a,_,rfl,g,kk _ _ F H (.refl s) (is_bl _) h⟩
def dLenX:DC
 | [.dict l],q=>q (.int l.length)
 | _,_=>False
theorem call_lenX:CallR X (.builtin "len") (fun xs H Q => ∃ a n,xs=[.ref a]∧((∃ kvs,H a=some (.dK kvs)∧n=kvs.length) ∨ ∃ ys,H a=some (.ext (DX a ys))∧n=ys.length)∧Q (.int (n:Nat)) H):=by
 intro pins s σ H xs us Q I r h
 obtain ⟨a,n,rfl,hd,q⟩:=h
 obtain ⟨u,rfl,rx⟩:=vals1 r
 cases rx
 rcases hd with ⟨kvs,e,rfl⟩|⟨ys,e,rfl⟩
 ·exact d_len I (.inl e) fun t s' I'=>⟨.int (kvs.length:Nat),H,I',⟨t,rfl⟩,q⟩
 ·exact dx_leng I e fun t s' I'=>⟨.int (ys.length:Nat),H,I',⟨t,rfl⟩,q⟩
theorem c_lenX:CallV X (.builtin "len") dLenX:=call_lenX.imp fun xs H Q xx173=>by
 obtain ⟨F,ds,q,s,i,h,k⟩:=xx173
 match ds,h,i with
 | [.dict l],h,i =>
  obtain ⟨v,rfl,j⟩:=iss1 i
  obtain ⟨a,rfl,⟨kvs,e,m,_⟩|⟨ys,e,m,_⟩⟩:=j.dct_inv
  ·exact ⟨a,kvs.length,rfl,.inl ⟨kvs,s.at e,rfl⟩,k _ _ F H (.refl s) (is_int _) (by have h:q (.int l.length):=h;rw [← m];exact h)⟩
  ·exact ⟨a,ys.length,rfl,.inr ⟨ys,s.at e,rfl⟩,k _ _ F H (.refl s) (is_int _) (by have h:q (.int l.length):=h;rw [m,xD_len] at h;exact h)⟩
def tDGetX (K:PySem.W.Frag) (td ty:TE):TE:=fun σ H Q=>td σ H fun x H1=>ty σ H1 fun y H2 => ∃ a n,x = .ref a∧DgX K H2 a y (some n)∧Q (.int n) H2
theorem pe_dgetX (hu:X.A.units+2<cLine) (ho:PE X o td) (hi:PE X i ty) (hs:NoSl i):PE X (.Subscript o i pos) (tDGetX X.K td ty):=by
 intro pins s σ H Q I h
 refine subD_of PySem.F.slot_dict_getitem.lookup hs (thn (ho pins s σ H _ I h) fun u s1 ⟨x,H1,I1,rx,q1⟩=>thn (hi pins s1 σ H1 _ I1 q1) fun iv s2 xx174=>?_)
 obtain ⟨y,H2,I2,ry,a,n,ex,g,q2⟩:=xx174
 subst ex
 obtain rfl:u=Value.ref a:=rx
 obtain ⟨xs,k,b,e,ks,_,_,_⟩:=id g
 obtain ⟨_,_,_,vs,_,d⟩:=dx_of I2 e ks
 exact ⟨d.typeIs,dx_get hu I2 g ry fun t s3 I3=>⟨.int n,H2,I3,⟨t,rfl⟩,q2⟩⟩
def wDItX (Wd Wk:WE):WE:=fun env Q=>Wd env fun d e1=>Wk e1 fun y e2 => ∃ es k n,d = .dict (eD es)∧es≠[]∧y = .tuple (k.map prD)∧atD es k=some n∧Q (.int n) e2
theorem ve_ditX {Wd Wk:WE} (hu:X.A.units+2<cLine) (ho:VE X o Wd) (hi:VE X i Wk) (hs:NoSl i:=by intro _ _;rfl):VE X (.Subscript o i pos) (wDItX Wd Wk) :=
 (pe_dgetX hu ho hi hs).imp fun σ H R xx176=>by
  obtain ⟨M,env,F,Q,I,h,k⟩:=xx176
  refine ⟨M,env,F,_,I,h,fun d v F1 H1 e1 I1 s1 i1 h1=>⟨M,e1,F1,_,I1,h1,fun d2 v2 F2 H2 e2 I2 s2 i2 h2=>?_⟩⟩
  obtain ⟨es,ky,n,rfl,ne,rfl,ea,q⟩:=h2
  obtain ⟨a,rfl,g⟩:=Is.dgx I2.fh I2.fh ne (i1.mono s2) i2
  rw [ea] at g
  exact ⟨a,n,rfl,g,k _ _ F2 H2 e2 I2 (s1.trans s2) (is_int _) q⟩
end
theorem Room.u2 {k:Nat}{A:Around} (r:Room k A):A.units+2<cLine:=by have:=r.un;omega
structure XAt (K:PySem.W.Frag) (H0 F H:Hp) (d:Addr) (xs:List XEnt):Prop where
 hd:H d=some (.ext (DX d xs))
 fd:F d=none
 nd:H0 d=none
 ks : ∀ x ∈ xs,PkAt K F x.1 x.2.1
theorem XAt.go {K:PySem.W.Frag}{H0 F H F' H':Hp}{d:Addr}{xs:List XEnt} (h:XAt K H0 F H d xs) (g:Go F H F' H'):XAt K H0 F' H' d xs :=
 ⟨g.h.at h.hd,go_none g h.hd h.fd,h.nd,fun x hx=>(h.ks x hx).mono g.f⟩
theorem eD_xD (xs:List XEnt):eD (xs.map fun x=>(x.1,x.2.2))=xD xs:=by unfold eD xD;rw [List.map_map];rfl
theorem putX_keys {K:PySem.W.Frag}{F:Hp}{xs:List XEnt}{k:PKy}{b:Addr}{n:Int} (h : ∀ x ∈ xs,PkAt K F x.1 x.2.1) (kb:PkAt K F k b) : ∀ x ∈ putX xs k b n,PkAt K F x.1 x.2.1:=by
 unfold putX
 split
 ·intro x hx
  obtain ⟨y,hy,rfl⟩:=List.mem_map.mp hx
  have:=h y hy
  split <;> exact this
 ·intro x hx
  rcases List.mem_append.mp hx with hx|hx
  ·exact h x hx
  ·rw [List.mem_singleton.mp hx];exact kb
section
variable {X:Cx}
def liftAF (K:PySem.W.Frag) (i:Nat) (W:WF):TA:=fun σ H R => ∃ M env F Q,EnvOk K M F H env σ∧W env Q ∧ ∀ ds vs a F' H' env',EnvOk K M F' H' env' σ→Same F F'→Iss K F' ds vs→vS σ i=some (.ref a)→(gS env' i).mut=true→Q ds env'→R (.ref a::vs) H'
def VAF (X:Cx) (i:Nat) (e:List Expr) (W:WF):Prop:=PA X e (liftAF X.K i W)
def wFirstO (i:Nat) (Wr:WF):WF:=fun env Q=>(gS env i).mut=true∧Wr env fun ds e=>(gS e i).mut=true∧Q ds e
theorem vaf_first (i:Nat) {x:Str}{pos:Pos}{es:List Expr}{Wr:WF} (ha:VA X es Wr) (hN:X.N[i]?=some x:=by rfl) (hv:Vis X.env.scope x:=by first|exact Or.inl rfl|exact Or.inr (Or.inl rfl)|exact Or.inr (Or.inr rfl)) (hd:(x==("__debug__" : Str))=false:=by decide)
 (hcd:(x==("__classdict__" : Str))=false:=by decide) (hs:starEach (.Name x pos::es) X.env=(false,eval (.Name x pos) X.env)::starEach es X.env:=by rfl):VAF X i (.Name x pos::es) (wFirstO i Wr) :=
 (pa_cons (pe_var hN hv hd hcd) (VA.pa ha) hs).imp fun σ H R xx177=>by
  obtain ⟨M,env,F,Q,I,⟨m,h⟩,k⟩:=xx177
  obtain ⟨a,vs,ea,g1,g2,g3,g4⟩:=(I.slot i).addr m
  exact ⟨_,vS_some ea,M,env,F,_,I,h,fun ds us F1 H1 e1 I1 s1 i1 h1=>k ds us a F1 H1 e1 I1 s1 i1 ea h1.1 h1.2⟩
def wCallF1 (i:Nat) (r:DC) (Wr:WF):WE:=fun env Q=>Wr env fun ds e=>r (.list (gS e i).cnt::ds) fun d=>flatN d=true∧Q d e
theorem ve_fnF1 (i:Nat) {x:Str}{p pos:Pos}{e:Expr}{es:List Expr}{Wr:WF}{k:Nat}{ps:List Str}{sp:DC} (O:OkC X x k ps (PSp X.K sp)) (hr:Room k X.A) (ha:VAF X i (e::es) Wr) (hg:Gl X x:=by rfl) (hdb:(x==("__debug__" : Str))=false:=by decide)
 (he:starEach (e::es) X.env=(false,eval e X.env)::starEach es X.env:=by rfl) (hpl:(backTo pos (starEach es X.env)).any (·.1)=false:=by rfl):VE X (.Call (.Name x p) (e::es) [] pos) (wCallF1 i sp Wr) :=
 (pe_fn O hr ha hg hdb he hpl).imp fun σ H R xx179=>by
  obtain ⟨M,env,F,Q,I,h,k⟩:=xx179
  have e:tCall (PSp X.K sp) [] E0 (liftAF X.K i Wr) σ H R=liftAF X.K i Wr σ H fun vs H1=>liftC X.K sp vs H1 R:=by unfold tCall PSp;simp only [List.append_nil]
  rw [e]
  refine ⟨M,env,F,_,I,h,fun ds us a F1 H1 e1 I1 s1 i1 ea m h1=>?_⟩
  obtain ⟨a',vs,ea',g1,g2,g3,g4⟩:=(I1.slot i).addr m
  rw [ea] at ea';injection ea' with ea';injection ea' with ea';subst ea'
  have sn:Same F1 (upd F1 a (.lst vs)):=same_new g2
  refine ⟨upd F1 a (.lst vs),_,_,fun b o eb=>?_,iss_cons (is_lst (SqL.of upd_same) (g4.mono sn)) (i1.mono sn),h1,fun d v F2 H2 g j ⟨fd,q⟩=>?_⟩
  ·by_cases z:b=a
   ·subst z;rw [upd_same] at eb;rw [g1];exact .of eb
   ·rw [upd_ne z] at eb;exact I1.fh b o eb
  ·have fa:F2 a=some (.lst vs):=g.f a _ upd_same
   have G:Go F1 H1 (offA F2 a) H2:=by
    refine ⟨fun b o eb=>?_,g.h,fun b o eb=>?_,fun b o eb=>?_⟩
    ·unfold offA;rw [if_neg (ne_of_none eb g2)]
     exact sn.trans g.f b o eb
    ·unfold offA at eb;split at eb
     ·cases eb
     ·exact g.fh b o eb
    ·unfold offA at eb;split at eb
     ·cases eb
     ·rename_i z
      rcases g.new b o eb with q|q
      ·rw [upd_ne z] at q;exact .inl q
      ·exact .inr q
   exact k d v _ H2 e1 (I1.go G) (s1.trans G.f) (is_off fa fd j) q
end
end L2
namespace My
open PySem L2
seal VE VF VA VT VW VS VSs VG VGs VI VO OpV CallV CallVF VN VFN VST VSsT VEX VSX VSsX
def top (i:Nat):Stmt:=PySem.Challenge.pw_dullglass_k38_beliefs_behind_signs.main.body.getD i (.Pass ⟨0,0,0,0⟩)
abbrev s_divisor:Stmt:=top 6
abbrev s_over_bottom:Stmt:=top 16
abbrev s_table_of_shares:Stmt:=top 15
abbrev s_stands:Stmt:=top 17
abbrev s_signs:Stmt:=top 18
abbrev s_common_divisor:Stmt:=top 12
abbrev s_divided:Stmt:=top 14
abbrev s_lowest_table:Stmt:=top 13
abbrev s_one_sign:Stmt:=top 20
abbrev s_column:Stmt:=top 19
abbrev s_joined_number:Stmt:=top 26
abbrev s_joined_column:Stmt:=top 24
abbrev s_sorted_groups:Stmt:=top 23
abbrev s_joined_numbers:Stmt:=top 25
abbrev s_place_of:Stmt:=top 27
abbrev s_is_whole:Stmt:=top 5
abbrev s_reduced:Stmt:=top 8
abbrev s_share:Stmt:=top 7
abbrev s_parts_of:Stmt:=top 28
abbrev s_least:Stmt:=top 22
abbrev s_is_weights:Stmt:=top 32
abbrev s_belief_behind:Stmt:=top 33
abbrev s_beliefs:Stmt:=top 31
abbrev s__law_pen:Stmt:=top 35
abbrev s__law_mixed:Stmt:=top 36
abbrev s__law_next:Stmt:=top 37
abbrev s__law_divisor:Stmt:=top 38
abbrev s__law_reduced:Stmt:=top 40
abbrev s__law_row:Stmt:=top 41
abbrev s__law_split:Stmt:=top 42
abbrev s__law_table:Stmt:=top 43
abbrev s__law_weights:Stmt:=top 46
abbrev s__law_share:Stmt:=top 39
abbrev s__law_belief:Stmt:=top 47
abbrev s__law_piles:Stmt:=top 49
abbrev s__law_whole:Stmt:=top 44
abbrev s__law_same:Stmt:=top 45
abbrev s__law_below:Stmt:=top 48
abbrev s__law_right:Stmt:=top 50
abbrev s_law:Stmt:=top 51
theorem sc0 {N P:List Str}{sc:Scope} (a:sc.kind = .function:=by rfl) (b:sc.isCoroutine=false:=by rfl) (c:sc.isGenerator=false:=by rfl) (d:N.Nodup:=by decide +kernel) (e:N.take P.length=P:=by rfl) (f : ∀ x ∈ P,sc.names.lookup x=some .local∨sc.names.lookup x=some .cell:=by decide +kernel) (g : ∀ y ∈ sc.names,y.2 ≠ .free:=by decide +kernel):FnScope N P sc:=⟨a,b,c,d,e,f,g⟩
theorem pv {X:Cx} (i:Nat) {x:Str}{pos:Pos} (hN:X.N[i]?=some x:=by rfl) (hv:Vis X.env.scope x:=by first|exact Or.inl rfl|exact Or.inr (Or.inl rfl)|exact Or.inr (Or.inr rfl)) (hd:(x==("__debug__" : Str))=false:=by decide) (hc:(x==("__classdict__" : Str))=false:=by decide):PE X (.Name x pos) (tVar i):=pe_var hN hv hd hc
structure Cs where
 tb:Addr
 c0:Addr
 bm:Addr
structure Txt (K:PySem.W.Frag) (mg:Str→Option Value) (cs:Cs):Prop where
 tab_h:tabIn K cs.c0 cs.tb=true
 bm_h:blIn K cs.bm cs.tb=true
 bm_:mg "__builtins__" = some (.ref cs.bm)
 abs_:mg "abs" = none
 all_:mg "all" = none
 any_:mg "any" = none
 bool_:mg "bool" = none
 enumerate_:mg "enumerate" = none
 int_:mg "int" = none
 isinstance_:mg "isinstance" = none
 len_:mg "len" = none
 list_:mg "list" = none
 range_:mg "range" = none
 sorted_:mg "sorted" = none
 sum_:mg "sum" = none
 tuple_:mg "tuple" = none
 zip_:mg "zip" = none
 FEWEST_STANDS_ : ∃ t,mg "FEWEST_STANDS" = some (.int 2 t)
 MOST_STANDS_ : ∃ t,mg "MOST_STANDS" = some (.int 4 t)
 MOST_WEIGHT_ : ∃ t,mg "MOST_WEIGHT" = some (.int 1000 t)
section
variable {P:Program}{w:World}{K:PySem.W.Frag}{mg:Str→Option Value}{base:Heap}{cs:Cs}
theorem gcd_turn {a b:Int}{g:Nat} (h0:0≤a) (hb:0≤b) (h1:b≠0) (h:Nat.gcd a.toNat b.toNat=g) :
 0≤a%b∧a%b<b∧Nat.gcd b.toNat (a%b).toNat=g:=by
  have hp:0<b:=by omega
  have e1:=Int.emod_nonneg a h1
  have e2:=Int.emod_lt_of_pos a hp
  refine ⟨e1,e2,?_⟩
  have e3:(a%b).toNat=a.toNat%b.toNat:=by
   have:((a.toNat%b.toNat:Nat):Int)=a%b:=by
    rw [Int.natCast_emod,Int.toNat_of_nonneg h0,Int.toNat_of_nonneg hb]
   rw [← this];rfl
  rw [e3,← h,Nat.gcd_comm b.toNat,Nat.gcd_comm a.toNat]
  exact (Nat.gcd_rec _ _).symm
theorem gcd_end {a:Int}{b:Int}{g:Nat} (h0:0≤a) (h1:b=0) (h:Nat.gcd a.toNat b.toNat=g):a=(g:Int):=by
 subst h1
 rw [← h]
 have:Nat.gcd a.toNat (Int.toNat 0)=a.toNat:=Nat.gcd_zero_right _
 rw [this];omega
theorem gcd_start (a b:Int):Nat.gcd (if a<0 then -a else a).toNat (if b<0 then -b else b).toNat=Int.gcd a b:=by
 have e : ∀ x:Int,(if x<0 then -x else x).toNat=x.natAbs:=fun x=>by split <;> omega
 rw [e,e];rfl
structure Shr (p q:Int):Prop where
 pos:1≤q
 gcd:Int.gcd p q=1
def cm (t b:Int):Int:=if b<0 then -(Int.gcd t b:Int) else (Int.gcd t b:Int)
def shT (t b:Int):Int:=t.fdiv (cm t b)
def shB (t b:Int):Int:=b.fdiv (cm t b)
theorem gcd_pos {t b:Int} (hb:b≠0):0<Int.gcd t b:=Int.gcd_pos_of_ne_zero_right t hb
theorem cm_ne {t b:Int} (hb:b≠0):cm t b≠0:=by
 have:=gcd_pos (t:=t) hb
 unfold cm;split <;> omega
theorem cm_dvd_t (t b:Int):cm t b∣t:=by
 have h:(Int.gcd t b:Int)∣t:=Int.gcd_dvd_left ..
 unfold cm;split
 ·exact Int.neg_dvd.mpr h
 ·exact h
theorem cm_dvd_b (t b:Int):cm t b∣b:=by
 have h:(Int.gcd t b:Int)∣b:=Int.gcd_dvd_right ..
 unfold cm;split
 ·exact Int.neg_dvd.mpr h
 ·exact h
theorem fdiv_of_dvd {c t:Int} (h:c∣t):c*(t.fdiv c)=t:=Int.mul_fdiv_cancel' h
theorem shT_mul (t b:Int):cm t b*shT t b=t:=fdiv_of_dvd (cm_dvd_t t b)
theorem shB_mul (t b:Int):cm t b*shB t b=b:=fdiv_of_dvd (cm_dvd_b t b)
theorem natAbs_cm (t b:Int):(cm t b).natAbs=Int.gcd t b:=by unfold cm;split <;> omega
theorem sh_ok {t b:Int} (hb:b≠0):Shr (shT t b) (shB t b)∧shT t b*b=t*shB t b:=by
 have h1:=shT_mul t b
 have h2:=shB_mul t b
 have hc:=cm_ne (t:=t) hb
 have hg:=gcd_pos (t:=t) hb
 refine ⟨⟨?_,?_⟩,?_⟩
 ·by_cases hn:b<0
  ·have hcn:cm t b<0:=by unfold cm;rw [if_pos hn];omega
   have:0<shB t b:=by
    rcases Int.lt_or_le 0 (shB t b) with h|h
    ·exact h
    ·have:=Int.mul_nonneg_of_nonpos_of_nonpos (Int.le_of_lt hcn) h
     omega
   omega
  ·have hcn:0<cm t b:=by unfold cm;rw [if_neg hn];omega
   have hbp:0<b:=by omega
   have:0<shB t b:=by
    rcases Int.lt_or_le 0 (shB t b) with h|h
    ·exact h
    ·have:=Int.mul_nonpos_of_nonneg_of_nonpos (Int.le_of_lt hcn) h
     omega
   omega
 ·have e:Int.gcd (cm t b*shT t b) (cm t b*shB t b)=(cm t b).natAbs*Int.gcd (shT t b) (shB t b):=Int.gcd_mul_left ..
  rw [h1,h2,natAbs_cm] at e
  have e2:Int.gcd t b*1=Int.gcd t b*Int.gcd (shT t b) (shB t b):=by omega
  exact (Nat.eq_of_mul_eq_mul_left hg e2).symm
 ·have e:shT t b*(cm t b*shB t b)=(cm t b*shT t b)*shB t b:=by
   rw [← Int.mul_assoc,Int.mul_comm (shT t b)]
  rw [h2,h1] at e
  exact e
theorem dvd_cop {k m n:Int} (h:Int.gcd m k=1) (e:k∣m*n):k∣n:=by
 have e':k.natAbs∣m.natAbs*n.natAbs:=by rw [← Int.natAbs_mul];exact Int.natAbs_dvd_natAbs.mpr e
 have c:Nat.Coprime k.natAbs m.natAbs:=by
  show Nat.gcd k.natAbs m.natAbs=1
  rw [Nat.gcd_comm];exact h
 exact Int.natAbs_dvd_natAbs.mp (c.dvd_of_dvd_mul_left e')
theorem sh_uniq {p q p' q':Int} (h:Shr p q) (h':Shr p' q') (e:p*q'=p'*q):p=p'∧q=q':=by
 have d1:q∣q':=dvd_cop h.gcd (e ▸ Int.dvd_mul_left p' q)
 have d2:q'∣q:=dvd_cop h'.gcd (e ▸ Int.dvd_mul_left p q')
 have hq:q=q':=Int.dvd_antisymm (by have:=h.pos;omega) (by have:=h'.pos;omega) d1 d2
 subst hq
 exact ⟨Int.eq_of_mul_eq_mul_right (by have:=h.pos;omega) e,rfl⟩
def sp_divisor:DC
 | [.int a,.int b],q=>q (.int (Int.gcd a b))
 | _,_=>False
theorem abs_nn (x:Int):0≤(if x<0 then -x else x):=by split <;> omega
theorem sc_divisor:FnScope ["one","other","rest"] ["one","other"] (defScope s_divisor):=sc0
theorem ok_divisor (F:Def K mg "divisor" s_divisor ["one","other"]) (T:Txt K mg cs)
 : Ok P w K mg base "divisor" 1 ["one","other"] (PSp K sp_divisor):=by
  refine F.vok sc_divisor (fun ds q h=>by unfold sp_divisor at h;split at h;all_goals first|rfl|exact h.elim) fun f cdv A outer s H E hr ds q h=>?_
  match ds,h with
  | [.int a,.int b],h =>
  refine ⟨_,(vss_cons (vs_set (i:=0) sc_divisor.nd (ve_callB c_abs T.abs_ L2.boot_abs (va_cons (ve_var 0) va_nil)))
   (vss_cons (vs_set (i:=1) sc_divisor.nd (ve_callB c_abs T.abs_ L2.boot_abs (va_cons (ve_var 1) va_nil)))
   (vss_cons (vs_while (vt_cmp (o_ne hr.units) (ve_var 1) ve_int) (vss_cons (vs_set (i:=2) sc_divisor.nd (ve_op o_mod (ve_var 0) (ve_var 1)))
   (vss_cons (vs_set (i:=0) sc_divisor.nd (ve_var 1))
   (vss_one (vs_set (i:=1) sc_divisor.nd (ve_var 2))))))
   (vss_one (vs_ret (ve_var 0)))))),?_⟩
  refine ⟨fun m e => ∃ x y r,e=[.val (.int x),.val (.int y),r]∧0≤x∧0≤y∧Nat.gcd x.toNat y.toNat=Int.gcd a b∧m=y.toNat,⟨_,_,_,_,rfl,abs_nn a,abs_nn b,gcd_start a b,rfl⟩,?_⟩
  rintro m e ⟨x,y,r,rfl,hx,hy,hg,rfl⟩
  refine ⟨rfl,rfl,ite_ne (fun hne=>?_) (fun he=>?_)⟩
  ·obtain ⟨t1,t2,t3⟩:=gcd_turn hx hy hne hg
   exact ⟨by omega,(x%y).toNat,by omega,y,x%y,_,rfl,hy,t1,t3,rfl⟩
  ·subst he
   have:=gcd_end hx rfl hg
   rw [this];exact h
open Builtin.Int (intBits)
theorem cm_bits {t b:Int}{m:Nat} (hb:b≠0) (h:intBits b≤m):intBits (cm t b)≤m:=by
 refine intBits_le_of_natAbs ?_ h
 rw [natAbs_cm]
 exact Nat.le_of_dvd (by omega) (Nat.gcd_dvd_right t.natAbs b.natAbs)
theorem shT_bits {t b:Int}{m:Nat} (h:intBits t≤m):intBits (shT t b)≤m:=intBits_fdiv_le h
theorem shB_bits {t b:Int}{m:Nat} (h:intBits b≤m):intBits (shB t b)≤m:=intBits_fdiv_le h
theorem mulok {a b:Int} (ha:intBits a≤4000) (hb:intBits b≤4000):IntMulOk a b :=.of_le ha hb (by decide)
theorem bits_up {x:Int}{m n:Nat} (h:intBits x≤m) (e:m≤n):intBits x≤n:=Nat.le_trans h e
theorem bits64 {x:Int} (h1 : -(2^64)<x) (h2:x<2^64):intBits x≤64:=intBits_le_64 h1 h2
theorem take_snoc {zs:List Int}{i:Nat}{z:Int} (h:zs[i]?=some z):zs.take (i+1)=zs.take i++[z]:=by
 rw [List.take_add_one,h];rfl
theorem int_get {zs:List Int}{i:Nat}{x:PyData} (h:(zs.map PyData.int)[i]?=some x) : ∃ z,x = .int z∧zs[i]?=some z∧z ∈ zs:=by
 rw [List.getElem?_map] at h
 cases e:zs[i]? with
 | none=>rw [e] at h;cases h
 | some z =>
  rw [e] at h
  exact ⟨z,(Option.some.inj h).symm,rfl,List.mem_of_getElem? e⟩
structure Tab (b:Int) (R:List (List Int)) (n:Nat):Prop where
 pos:1≤b
 len : ∀ r ∈ R,r.length=n
 nn : ∀ r ∈ R,∀ x ∈ r,0≤x
 sum : ∀ r ∈ R,r.sum=b
def dRow (r:List Int):PyData :=.list (r.map .int)
def tRow (r:List Int):PyData :=.tuple (r.map .int)
theorem get_mem {α:Type}{l:List α}{i:Nat}{x:α} (h:l[i]?=some x):x ∈ l:=List.mem_of_getElem? h
theorem small_le {n:Nat} (h:n≤1000):n≤sizeLine:=Nat.le_of_lt (small1000 h)
theorem atI_zero {α:Type} (y:α) (l:List α):atI (y::l) 0=some y:=atI_nat (j:=0) rfl
def dRows (R:List (List Int)):PyData :=.list (R.map dRow)
theorem sum_nn : ∀ {r:List Int},(∀ n ∈ r,0≤n)→0≤r.sum
 | [],_=>by simp
 | n::r,h=>by
  rw [List.sum_cons]
  have a:=h n (by simp)
  have b:=sum_nn fun m hm=>h m (List.mem_cons_of_mem _ hm)
  omega
theorem mem_le_sum : ∀ {r:List Int}{x:Int},(∀ n ∈ r,0≤n)→x ∈ r→x≤r.sum
 | n::r,x,h,hx=>by
  rw [List.sum_cons]
  have a:=h n (by simp)
  have b:=sum_nn fun m hm=>h m (List.mem_cons_of_mem _ hm)
  rcases List.mem_cons.mp hx with rfl|hx
  ·omega
  ·have:=mem_le_sum (fun m hm=>h m (List.mem_cons_of_mem _ hm)) hx
   omega
theorem Tab.le {b:Int}{R:List (List Int)}{n:Nat}{r:List Int}{x:Int} (h:Tab b R n) (hr:r ∈ R) (hx:x ∈ r):0≤x∧x≤b :=
 ⟨h.nn r hr x hx,h.sum r hr ▸ mem_le_sum (h.nn r hr) hx⟩
theorem iteY {b:Bool}{A B:Prop} (h:b=true) (k:A):if b=true then A else B:=by rw [h];exact iteT k
theorem iteZ {b:Bool}{A B:Prop} (h:b=false) (k:B):if b=true then A else B:=by rw [h];exact iteF k
def at2 (Ls:List (List Int)) (k j:Nat):Int:=(((Ls[k]?).getD [])[j]?).getD 0
structure Bd (m w:Nat) (Ls:List (List Int)) (ss:List Int):Prop where
 l:Ls.length=m
 s:ss.length=m
 w : ∀ r ∈ Ls,r.length=w
 z : ∀ r ∈ Ls,∀ x ∈ r,intBits x≤2000
section
variable {Ls:List (List Int)}{ss:List Int}{w p i r:Nat}
end
def sumN:Nat→(Nat→Int)→Int
 | 0,_=>0
 | n+1,f=>sumN n f+f n
theorem sumN_congr {f g:Nat→Int} : ∀ {n:Nat},(∀ i,i<n→f i=g i)→sumN n f=sumN n g
 | 0,_=>rfl
 | n+1,h=>by
  show sumN n f+f n=sumN n g+g n
  rw [sumN_congr fun i hi=>h i (by omega),h n (by omega)]
theorem sumN_zero {f:Nat→Int}{n:Nat} (h : ∀ i,i<n→f i=0):sumN n f=0:=by
 induction n with
 | zero=>rfl
 | succ n ih =>
  show sumN n f+f n=0
  rw [ih fun i hi=>h i (by omega),h n (by omega)];rfl
theorem sumN_lin (k l:Int) (f g:Nat→Int) : ∀ n:Nat,sumN n (fun i=>k*f i+l*g i)=k*sumN n f+l*sumN n g
 | 0=>by show (0:Int)=k*0+l*0;omega
 | n+1=>by
  show sumN n (fun i=>k*f i+l*g i)+(k*f n+l*g n)=k*(sumN n f+f n)+l*(sumN n g+g n)
  rw [sumN_lin k l f g n];grind
theorem sumN_mul (k:Int) (f:Nat→Int) (n:Nat):sumN n (fun i=>k*f i)=k*sumN n f:=by
 have:=sumN_lin k 0 f (fun _=>0) n
 simpa using this
theorem sumN_add (f g:Nat→Int) (n:Nat):sumN n (fun i=>f i+g i)=sumN n f+sumN n g:=by
 have:=sumN_lin 1 1 f g n
 simpa using this
theorem sumN_one {f:Nat→Int}{n r:Nat} (hr:r<n) (h : ∀ i,i<n→i≠r→f i=0):sumN n f=f r:=by
 induction n with
 | zero=>omega
 | succ n ih =>
  show sumN n f+f n=f r
  by_cases e:r=n
  ·subst e
   rw [sumN_zero fun i hi=>h i (by omega) (by omega)];omega
  ·rw [ih (by omega) fun i hi=>h i (by omega),h n (by omega) (by omega)];omega
def skip (i x:Nat):Nat:=if x<i then x else x+1
theorem sumN_neg {f:Nat→Int} : ∀ {n:Nat},sumN n f<0 → ∃ k,k<n∧f k<0
 | 0,h=>absurd h (by show ¬ (0:Int)<0;omega)
 | n+1,h=>by
  have h':sumN n f+f n<0:=h
  by_cases q:f n<0
  ·exact ⟨n,by omega,q⟩
  ·obtain ⟨k,hk,z⟩:=sumN_neg (f:=f) (n:=n) (by omega)
   exact ⟨k,by omega,z⟩
theorem sumN_nonneg {f:Nat→Int} : ∀ {n:Nat},(∀ k,k<n→0≤f k)→0≤sumN n f
 | 0,_=>by show (0:Int)≤0;omega
 | n+1,h=>by
  have a:=sumN_nonneg (f:=f) (n:=n) fun k hk=>h k (by omega)
  have b:=h n (by omega)
  show 0≤sumN n f+f n
  omega
def enc (B:Nat) (st:Nat→Nat):Nat→Nat
 | 0=>0
 | k+1=>enc B st k+st k*B^k
theorem range_sum (f:Nat→Int) : ∀ n:Nat,((List.range n).map f).sum=sumN n f
 | 0=>rfl
 | n+1=>by rw [List.range_succ,List.map_append,List.sum_append,range_sum f n];simp [sumN]
theorem bot_next {B q d:Int} (hB:0<B) (hq:0<q) (h1:B∣d) (h2:q∣d):0<B*q/(Int.gcd B q:Int)∧B*q/(Int.gcd B q:Int)∣d∧B∣B*q/(Int.gcd B q:Int)∧q∣B*q/(Int.gcd B q:Int):=by
 obtain ⟨x,rfl⟩:=Int.eq_ofNat_of_zero_le (Int.le_of_lt hB)
 obtain ⟨y,rfl⟩:=Int.eq_ofNat_of_zero_le (Int.le_of_lt hq)
 have e:(x:Int)*(y:Int)/(Int.gcd x y:Int)=((Nat.lcm x y:Nat):Int):=by
  unfold Nat.lcm
  rw [Int.gcd_natCast_natCast,Int.natCast_ediv,Int.natCast_mul]
 rw [e]
 have p:0<Nat.lcm x y:=Nat.lcm_pos (by omega) (by omega)
 refine ⟨by omega,?_,Int.natCast_dvd_natCast.mpr (Nat.dvd_lcm_left x y),Int.natCast_dvd_natCast.mpr (Nat.dvd_lcm_right x y)⟩
 rw [Int.ofNat_dvd_left] at h1 h2 ⊢
 exact Nat.lcm_dvd h1 h2
def gRow (g:Nat) (r:List Int):Nat:=r.foldl (fun (g:Nat) (n:Int)=>Int.gcd g n) g
def gTab (R:List (List Int)):Nat:=R.foldl gRow 0
theorem gRow_dvd_acc : ∀ (r:List Int) (g:Nat),gRow g r∣g
 | [],g=>Nat.dvd_refl _
 | n::r,g=>Nat.dvd_trans (gRow_dvd_acc r (Int.gcd g n)) (by have:=Int.gcd_dvd_natAbs_left (g:Int) n;simpa using this)
theorem gRow_dvd : ∀ (r:List Int) (g:Nat),∀ n ∈ r,(gRow g r:Int)∣n
 | m::r,g,n,h=>by
  rcases List.mem_cons.mp h with rfl|h
  ·exact Int.dvd_trans (Int.natCast_dvd_natCast.mpr (gRow_dvd_acc r (Int.gcd g n))) (Int.gcd_dvd_right ..)
  ·exact gRow_dvd r (Int.gcd g m) n h
theorem gFold_dvd_acc : ∀ (R:List (List Int)) (g:Nat),R.foldl gRow g∣g
 | [],g=>Nat.dvd_refl _
 | r::R,g=>Nat.dvd_trans (gFold_dvd_acc R (gRow g r)) (gRow_dvd_acc r g)
theorem gFold_dvd : ∀ (R:List (List Int)) (g:Nat),∀ r ∈ R,∀ n ∈ r,((R.foldl gRow g:Nat):Int)∣n
 | s::R,g,r,h,n,hn=>by
  rcases List.mem_cons.mp h with rfl|h
  ·exact Int.dvd_trans (Int.natCast_dvd_natCast.mpr (gFold_dvd_acc R (gRow g r))) (gRow_dvd r g n hn)
  ·exact gFold_dvd R (gRow g s) r h n hn
theorem gTab_dvd {R:List (List Int)}{r:List Int}{n:Int} (h:r ∈ R) (hn:n ∈ r):(gTab R:Int)∣n:=gFold_dvd R 0 r h n hn
theorem gRow_mul (k:Nat) : ∀ (r:List Int) (g:Nat),gRow (k*g) (r.map fun n=>(k:Int)*n)=k*gRow g r
 | [],g=>rfl
 | n::r,g=>by
  have e:Int.gcd ((k*g:Nat):Int) ((k:Int)*n)=k*Int.gcd g n:=by
   rw [Int.natCast_mul,Int.gcd_mul_left];rfl
  show gRow (Int.gcd ((k*g:Nat):Int) ((k:Int)*n)) (r.map fun n=>(k:Int)*n)=_
  rw [e]
  exact gRow_mul k r (Int.gcd g n)
theorem gFold_mul (k:Nat) : ∀ (R:List (List Int)) (g:Nat),(R.map fun r=>r.map fun n=>(k:Int)*n).foldl gRow (k*g)=k*R.foldl gRow g
 | [],g=>rfl
 | r::R,g=>by
  show (R.map fun r=>r.map fun n=>(k:Int)*n).foldl gRow (gRow (k*g) (r.map fun n=>(k:Int)*n))=_
  rw [gRow_mul]
  exact gFold_mul k R (gRow g r)
theorem gTab_mul (k:Nat) (R:List (List Int)):gTab (R.map fun r=>r.map fun n=>(k:Int)*n)=k*gTab R:=gFold_mul k R 0
def divT (R:List (List Int)) (g:Int):List (List Int):=R.map fun r=>r.map fun n=>n/g
theorem map_eq_self {α:Type}{f:α→α} : ∀ {l:List α},(∀ x ∈ l,f x=x)→l.map f=l
 | [],_=>rfl
 | x::l,h=>by rw [List.map_cons,h x (by simp),map_eq_self fun y hy=>h y (List.mem_cons_of_mem _ hy)]
theorem divT_mul {R:List (List Int)}:(divT R (gTab R)).map (fun r=>r.map fun n=>(gTab R:Int)*n)=R:=by
 unfold divT
 rw [List.map_map]
 refine map_eq_self fun r hr=>?_
 show (r.map fun n=>n/(gTab R:Int)).map (fun n=>(gTab R:Int)*n)=r
 rw [List.map_map]
 exact map_eq_self fun n hn=>Int.mul_ediv_cancel' (gTab_dvd hr hn)
theorem gTab_low {R:List (List Int)} (h:0<gTab R):gTab (divT R (gTab R))=1:=by
 have e:=gTab_mul (gTab R) (divT R (gTab R))
 rw [divT_mul] at e
 have e2:gTab R*1=gTab R*gTab (divT R (gTab R)):=by omega
 exact (Nat.eq_of_mul_eq_mul_left h e2).symm
theorem sum_zero : ∀ {r:List Int},(∀ n ∈ r,n=0)→r.sum=0
 | [],_=>rfl
 | n::r,h=>by rw [List.sum_cons,h n (by simp),sum_zero fun m hm=>h m (List.mem_cons_of_mem _ hm)];rfl
theorem Tab.gpos {b:Int}{R:List (List Int)}{n:Nat} (h:Tab b R n) (hR:R≠[]):0<gTab R:=by
 rcases Nat.eq_zero_or_pos (gTab R) with e|e
 ·exfalso
  obtain ⟨r,R',rfl⟩:=List.exists_cons_of_ne_nil hR
  have h1:=h.sum r (by simp)
  have h2 : ∀ m ∈ r,m=0:=fun m hm=>by
   have:=gTab_dvd (R:=r::R') (by simp) hm
   rw [e] at this
   exact Int.zero_dvd.mp this
  rw [sum_zero h2] at h1
  have:=h.pos
  omega
 ·exact e
theorem sum_dvd {g:Int} : ∀ {r:List Int},(∀ n ∈ r,g∣n)→g∣r.sum
 | [],_=>by simp
 | n::r,h=>by rw [List.sum_cons];exact Int.dvd_add (h n (by simp)) (sum_dvd fun m hm=>h m (List.mem_cons_of_mem _ hm))
theorem Tab.gdvd {b:Int}{R:List (List Int)}{n:Nat} (h:Tab b R n) (hR:R≠[]):(gTab R:Int)∣b:=by
 obtain ⟨r,R',rfl⟩:=List.exists_cons_of_ne_nil hR
 rw [← h.sum r (by simp)]
 exact sum_dvd fun m hm=>gTab_dvd (by simp) hm
theorem sum_div {g:Int} : ∀ {r:List Int},(∀ n ∈ r,g∣n)→(r.map fun n=>n/g).sum=r.sum/g
 | [],_=>by simp
 | n::r,h=>by
  rw [List.map_cons,List.sum_cons,List.sum_cons,sum_div fun m hm=>h m (List.mem_cons_of_mem _ hm)]
  exact (Int.add_ediv_of_dvd_left (h n (by simp))).symm
theorem Tab.low {b:Int}{R:List (List Int)}{n:Nat} (h:Tab b R n) (hR:R≠[]):Tab (b/gTab R) (divT R (gTab R)) n:=by
 have hp:=h.gpos hR
 have hd:=h.gdvd hR
 have hb:=h.pos
 have hgb:(gTab R:Int)≤b:=Int.le_of_dvd (by omega) hd
 refine ⟨?_,?_,?_,?_⟩
 ·exact (Int.le_ediv_iff_mul_le (by omega)).mpr (by omega)
 ·intro r hr
  obtain ⟨s,hs,rfl⟩:=List.mem_map.mp hr
  rw [List.length_map];exact h.len s hs
 ·intro r hr x hx
  obtain ⟨s,hs,rfl⟩:=List.mem_map.mp hr
  obtain ⟨y,hy,rfl⟩:=List.mem_map.mp hx
  exact Int.ediv_nonneg (h.nn s hs y hy) (by omega)
 ·intro r hr
  obtain ⟨s,hs,rfl⟩:=List.mem_map.mp hr
  rw [sum_div fun m hm=>gTab_dvd hs hm,h.sum s hs]
theorem gRow_snoc (g:Nat) (r:List Int) (n:Int):gRow g (r++[n])=Int.gcd (gRow g r) n:=by unfold gRow;rw [List.foldl_append];rfl
theorem gFold_snoc (R:List (List Int)) (r:List Int):gTab (R++[r])=gRow (gTab R) r:=by unfold gTab;rw [List.foldl_append];rfl
def RowsD (d:PyData) (R:List (List Int)):Prop := ∃ l,seqD d=some l∧l.map (fun x=>(seqD x).getD [])=R.map (fun r=>r.map PyData.int) ∧ ∀ x ∈ l,(seqD x).isSome=true
theorem RowsD.len {d:PyData}{R:List (List Int)}{l:List PyData} (h:RowsD d R) (e:seqD d=some l):l.length=R.length:=by
 obtain ⟨m,e',h1,_⟩:=h
 rw [e] at e';cases e'
 have:=congrArg List.length h1
 simpa using this
theorem RowsD.get {d:PyData}{R:List (List Int)}{l:List PyData}{i:Nat}{x:PyData} (h:RowsD d R) (e:seqD d=some l) (hx:l[i]?=some x) : ∃ r,R[i]?=some r∧seqD x=some (r.map .int):=by
 obtain ⟨m,e',h1,h2⟩:=h
 rw [e] at e';cases e'
 have h3:(l.map fun x=>(seqD x).getD [])[i]?=some ((seqD x).getD []):=by rw [List.getElem?_map,hx];rfl
 rw [h1,List.getElem?_map] at h3
 obtain ⟨y,hy⟩:=Option.isSome_iff_exists.mp (h2 x (List.mem_of_getElem? hx))
 cases q:R[i]? with
 | none=>rw [q] at h3;cases h3
 | some r =>
  rw [q] at h3
  refine ⟨r,rfl,?_⟩
  rw [hy] at h3 ⊢
  exact h3.symm
theorem RowsD.of {d:PyData}{R:List (List Int)}{f:List PyData→PyData} (hf : ∀ l,seqD (f l)=some l) (e:seqD d=some (R.map fun r=>f (r.map .int))):RowsD d R:=by
 refine ⟨_,e,?_,?_⟩
 ·rw [List.map_map]
  refine List.map_congr_left fun r _=>?_
  simp [hf]
 ·intro x hx
  obtain ⟨r,_,rfl⟩:=List.mem_map.mp hx
  simp [hf]
def dTab (b:Int) (R:List (List Int)):PyData :=.tuple [.int b,.tuple (R.map tRow)]
theorem rowsD_tup (R:List (List Int)):RowsD (.tuple (R.map tRow)) R:=RowsD.of (f :=.tuple) (fun _=>rfl) rfl
theorem rowsD_lst (R:List (List Int)):RowsD (.list (R.map dRow)) R:=RowsD.of (f :=.list) (fun _=>rfl) rfl
def dSh (p q:Int):PyData :=.tuple [.int p,.int q]
section
variable {b:Int}{R:List (List Int)}{m:Nat}{c:Int}{S:List (List Int)}{n:Nat}
structure Dul (b:Int) (R:List (List Int)) (m:Nat) (c:Int) (S:List (List Int)) (n:Nat) (B:Int) (D:List (List Int)):Prop where
 t:Tab B D n
 l:D.length=m
 e : ∀ s j,s<R.length→j<n→c*(sumN m fun i=>at2 R s i*at2 D i j)=at2 S s j*b*B
structure LcmB (V:List (List (Int×Int))) (B:Int):Prop where
 pos:0<B
 dv : ∀ r ∈ V,∀ x ∈ r,x.2∣B
 un : ∀ d:Int,(∀ r ∈ V,∀ x ∈ r,x.2∣d)→B∣d
def overB (B:Int) (r:List (Int×Int)):List Int:=r.map fun x=>x.1*(B/x.2)
end
def dS (x:Int×Int):PyData:=dSh x.1 x.2
theorem shG {vs:List (Int×Int)}{i:Nat}{x:PyData} (h:(vs.map dS)[i]?=some x) : ∃ y,vs[i]?=some y∧x=dSh y.1 y.2:=by
 rw [List.getElem?_map] at h
 cases q:vs[i]? with
 | none=>rw [q] at h;cases h
 | some y=>rw [q] at h;exact ⟨y,rfl,(Option.some.inj h).symm⟩
theorem dvdB {x d:Int}{m:Nat} (h:x∣d) (d0:0<d) (z:intBits d≤m):intBits x≤m :=
 intBits_le_of_natAbs (Nat.le_of_dvd (by omega) (Int.natAbs_dvd_natAbs.mpr h)) z
def RowsS (d:PyData) (V:List (List (Int×Int))):Prop := ∃ l,seqD d=some l∧l.length=V.length ∧ ∀ (i:Nat) (x:PyData),l[i]?=some x → ∃ r:List (Int×Int),V[i]?=some r∧seqD x=some (r.map dS)
structure LcmL (xs:List (Int×Int)) (B:Int):Prop where
 pos:0<B
 dv : ∀ x ∈ xs,x.2∣B
 un : ∀ d:Int,(∀ x ∈ xs,x.2∣d)→B∣d
theorem LcmL.nil:LcmL [] 1:=⟨by decide,fun x hx=>by simp at hx,fun d _=>⟨d,by omega⟩⟩
theorem LcmL.snoc {xs:List (Int×Int)}{B:Int}{y:Int×Int} (h:LcmL xs B) (hy:0<y.2):LcmL (xs++[y]) (B*y.2/(Int.gcd B y.2:Int)):=by
 have k:=bot_next (d:=B*y.2) h.pos hy ⟨_,rfl⟩ ⟨B,Int.mul_comm _ _⟩
 refine ⟨k.1,fun x hx=>?_,fun d hd=>(bot_next h.pos hy (h.un d fun x hx=>hd x (List.mem_append.mpr (.inl hx))) (hd y (by simp))).2.1⟩
 rcases List.mem_append.mp hx with q|q
 ·exact Int.dvd_trans (h.dv x q) k.2.2.1
 ·rw [List.mem_singleton.mp q];exact k.2.2.2
theorem LcmL.b {V:List (List (Int×Int))}{B:Int} (h:LcmL V.flatten B):LcmB V B :=
 ⟨h.pos,fun r hr x hx=>h.dv x (List.mem_flatten.mpr ⟨r,hr,hx⟩),fun d hd=>h.un d fun x hx=>by
  obtain ⟨r,hr,hx⟩:=List.mem_flatten.mp hx
  exact hd r hr x hx⟩
theorem takeF {V:List (List (Int×Int))}{i:Nat}{r:List (Int×Int)} (h:V[i]?=some r):(V.take (i+1)).flatten=(V.take i).flatten++r:=by
 rw [List.take_add_one,h];simp
theorem takeS {α:Type}{zs:List α}{i:Nat}{z:α} (h:zs[i]?=some z):zs.take (i+1)=zs.take i++[z]:=by
 rw [List.take_add_one,h];rfl
def sp_over_bottom (ds:List PyData) (q:PyData→Prop):Prop := ∃ (d:PyData) (r:List (Int×Int)) (B:Int),ds=[d,.int B]∧(seqD d=some (r.map dS)∧r.length≤900∧(∀ x ∈ r,Shr x.1 x.2∧intBits x.1≤4000∧x.2∣B)∧0<B∧intBits B≤4000)∧q (tRow (overB B r))
theorem sc_over_bottom:FnScope ["row","bottom"] ["row","bottom"] (defScope s_over_bottom):=sc0
theorem ok_over_bottom (F:Def K mg "over_bottom" s_over_bottom ["row","bottom"]) (T:Txt K mg cs)
 : Ok P w K mg base "over_bottom" 1 ["row","bottom"] (PSp K sp_over_bottom):=by
  refine F.vok sc_over_bottom (by rintro ds q ⟨_,_,_,h,_⟩;rw [h];rfl) fun f cdv A outer s H E hr ds q h=>?_
  obtain ⟨d,r,B,rfl,⟨e,hl,hx,B0,zB⟩,h⟩:=h
  refine ⟨_,(vss_one (vs_ret (ve_callTy c_tuple T.tuple_ L2.boot_tuple (va_cons (vf_fz (vf_comp (caps:=["bottom"]) (own:=["part"]) (ix:=[1]) rfl ⟨rfl,rfl,rfl,rfl,rfl,rfl⟩ (vi_seq (ve_var 0)) (fun _ _ _ _=>(vg_name (i:=1) (show List.Nodup (["bottom","part"]:List Str) by decide))) (fun _ _ _ _=>(ve_op o_mulI (ve_ix (ve_var 1) ve_int) (ve_op o_div (ve_var 0) (ve_ix (ve_var 1) ve_int)))))) va_nil)))),?_⟩
  refine seq_elim e (comp_by ((overB B r).map .int) (by simp [overB]) (small1000 (by simp [overB];omega)) (fun e => ∃ s,e=[.val (.int B),s]) ⟨_,rfl⟩ ?_ h)
  rintro i x ys e hx' hys ⟨s,rfl⟩
  obtain ⟨y,hy,rfl⟩:=shG hx'
  obtain ⟨s1,s2,s3⟩:=hx y (List.mem_of_getElem? hy)
  have q0:=s1.pos
  refine ⟨.int y.1,rfl,.int y.2,rfl,⟨by omega,bits_up (dvdB s3 B0 zB) (by decide)⟩,mulok s2 (dvdB (x:=B/y.2) ⟨y.2,(Int.ediv_mul_cancel s3).symm⟩ B0 zB),snoc_take ?_ hys,_,rfl⟩
  unfold overB
  rw [List.getElem?_map,List.getElem?_map,hy];rfl
def sp_table_of_shares (ds:List PyData) (q:PyData→Prop):Prop := ∃ (d:PyData) (V:List (List (Int×Int))) (D0:Int),ds=[d]∧(RowsS d V∧V.length≤900∧(∀ r ∈ V,r.length≤900 ∧ ∀ x ∈ r,Shr x.1 x.2∧intBits x.1≤4000∧x.2∣D0)∧0<D0∧intBits D0≤4000) ∧ ∀ B,LcmB V B→q (dTab B (V.map (overB B)))
theorem sc_table_of_shares:FnScope ["rows","bottom","row","part"] ["rows"] (defScope s_table_of_shares):=sc0
theorem ok_table_of_shares (F:Def K mg "table_of_shares" s_table_of_shares ["rows"]) (T:Txt K mg cs)
 (O_divisor:Ok P w K mg base "divisor" 1 ["one","other"] (PSp K sp_divisor))
 (O_over_bottom:Ok P w K mg base "over_bottom" 1 ["row","bottom"] (PSp K sp_over_bottom))
 : Ok P w K mg base "table_of_shares" 2 ["rows"] (PSp K sp_table_of_shares):=by
  refine F.vok sc_table_of_shares (by rintro ds q ⟨_,_,_,h,_⟩;rw [h];rfl) fun f cdv A outer s H E hr ds q h=>?_
  obtain ⟨d,V,D0,rfl,⟨⟨l,e,el,hV⟩,hl,hx,d0,zd⟩,h⟩:=h
  refine ⟨_,(vss_cons (vs_set (i:=1) sc_table_of_shares.nd ve_int)
   (vss_cons (vs_for rfl (vi_seq (ve_var 0)) (vg_name (i:=2) sc_table_of_shares.nd) (vss_one (vs_for rfl (vi_seq (ve_var 2)) (vg_name (i:=3) sc_table_of_shares.nd) (vss_one (vs_set (i:=1) sc_table_of_shares.nd (ve_op o_div (ve_op o_mulI (ve_var 1) (ve_ix (ve_var 3) ve_int)) (ve_fn O_divisor.c (hr.mono (by decide)) (va_cons (ve_var 1) (va_cons (ve_ix (ve_var 3) ve_int) va_nil)))))))))
   (vss_one (vs_ret (ve_tup (va_cons (ve_var 1) (va_cons (ve_callTy c_tuple T.tuple_ L2.boot_tuple (va_cons (vf_fz (vf_comp (caps:=["bottom"]) (own:=["row"]) (ix:=[1]) rfl ⟨rfl,rfl,rfl,rfl,rfl,rfl⟩ (vi_seq (ve_var 0)) (fun _ _ _ _=>(vg_name (i:=1) (show List.Nodup (["bottom","row"]:List Str) by decide))) (fun _ _ _ _=>(ve_fn O_over_bottom.c (hr.mono (by decide)) (va_cons (ve_var 1) (va_cons (ve_var 0) va_nil)))))) va_nil)) va_nil))))))),?_⟩
  refine seq_elim e ⟨fun i e => ∃ t1 t2 B,e=[.val d,.val (.int B),t1,t2]∧LcmL (V.take i).flatten B∧B∣D0,⟨_,_,_,rfl,by simpa using LcmL.nil,⟨D0,by omega⟩⟩,?_,?_⟩
  ·rintro i x e' hxi ⟨t1,t2,B,rfl,hB,Bd⟩
   obtain ⟨r,hr,er⟩:=hV i x hxi
   refine seq_elim er ⟨fun j e => ∃ t2 B,e=[.val d,.val (.int B),.val x,t2]∧LcmL ((V.take i).flatten++r.take j) B∧B∣D0,⟨_,_,rfl,by simpa using hB,Bd⟩,?_,?_⟩
   ·rintro j y e hy ⟨t2,B,rfl,hB,Bd⟩
    obtain ⟨z,hz,rfl⟩:=shG hy
    obtain ⟨s1,s2,s3⟩:=(hx r (List.mem_of_getElem? hr)).2 z (List.mem_of_getElem? hz)
    have q0:=s1.pos
    have B0:=hB.pos
    have gp:(0:Int)<(Int.gcd B z.2:Nat):=by have:=Int.gcd_pos_of_ne_zero_right B (show z.2≠0 by omega);omega
    refine ⟨.int z.2,rfl,mulok (dvdB Bd d0 zd) (dvdB s3 d0 zd),.int z.2,rfl,⟨gp,bits_up (dvdB (Int.dvd_trans (Int.gcd_dvd_left ..) Bd) d0 zd) (by decide)⟩,_,_,rfl,?_,(bot_next B0 (show 0<z.2 by omega) Bd s3).2.1⟩
    rw [takeS hz,← List.append_assoc]
    exact hB.snoc (by omega)
   ·rintro e ⟨t2,B,rfl,hB,Bd⟩
    refine ⟨_,_,_,rfl,?_,Bd⟩
    rw [List.length_map,List.take_length] at hB
    rw [takeF hr];exact hB
  rintro e' ⟨t1,t2,B,rfl,hB,Bd⟩
  rw [el,List.take_length] at hB
  have hB':=hB.b
  have B0:=hB.pos
  have zB:=dvdB Bd d0 zd
  refine seq_elim e (comp_by ((V.map (overB B)).map tRow) (by simp [el]) (small1000 (by simp;omega)) (fun e => ∃ s,e=[.val (.int B),s]) ⟨_,rfl⟩ ?_ ⟨szl,h B hB'⟩)
  rintro i x ys e' hxi hys ⟨s,rfl⟩
  obtain ⟨r,hr,er⟩:=hV i x hxi
  obtain ⟨rl,rx⟩:=hx r (List.mem_of_getElem? hr)
  refine ⟨x,r,B,rfl,⟨er,rl,fun y hy=>⟨(rx y hy).1,(rx y hy).2.1,hB'.dv r (List.mem_of_getElem? hr) y hy⟩,B0,zB⟩,snoc_take ?_ hys,_,rfl⟩
  rw [List.getElem?_map,List.getElem?_map,hr];rfl
def sp_stands (ds:List PyData) (q:PyData→Prop):Prop := ∃ b R,ds=[dTab b R]∧q (.int (R.length:Nat))
theorem sc_stands:FnScope ["glass"] ["glass"] (defScope s_stands):=sc0
theorem ok_stands (F:Def K mg "stands" s_stands ["glass"]) (T:Txt K mg cs)
 : Ok P w K mg base "stands" 1 ["glass"] (PSp K sp_stands):=by
  refine F.vok sc_stands (by rintro ds q ⟨_,_,h,_⟩;rw [h];rfl) fun f cdv A outer s H E hr ds q h=>?_
  obtain ⟨b,R,rfl,h⟩:=h
  refine ⟨_,(vss_one (vs_ret (ve_callB c_len T.len_ L2.boot_len (va_cons (ve_ix (ve_var 0) ve_int) va_nil)))),?_⟩
  refine ⟨_,rfl,?_⟩
  have e:(R.map tRow).length=R.length:=by simp
  show q (.int ((R.map tRow).length:Nat))
  rw [e];exact h
def sp_signs (ds:List PyData) (q:PyData→Prop):Prop := ∃ b r R,ds=[dTab b (r::R)]∧q (.int (r.length:Nat))
theorem sc_signs:FnScope ["glass"] ["glass"] (defScope s_signs):=sc0
theorem ok_signs (F:Def K mg "signs" s_signs ["glass"]) (T:Txt K mg cs)
 : Ok P w K mg base "signs" 1 ["glass"] (PSp K sp_signs):=by
  refine F.vok sc_signs (by rintro ds q ⟨_,_,_,h,_⟩;rw [h];rfl) fun f cdv A outer s H E hr ds q h=>?_
  obtain ⟨b,r,R,rfl,h⟩:=h
  refine ⟨_,(vss_one (vs_ret (ve_callB c_len T.len_ L2.boot_len (va_cons (ve_ix (ve_ix (ve_var 0) ve_int) ve_int) va_nil)))),?_⟩
  refine ⟨_,rfl,_,atI_zero _ _,?_⟩
  have e:(r.map PyData.int).length=r.length:=by simp
  show q (.int ((r.map PyData.int).length:Nat))
  rw [e];exact h
def sp_common_divisor (ds:List PyData) (q:PyData→Prop):Prop := ∃ d R,ds=[d]∧RowsD d R∧q (.int (gTab R))
theorem sc_common_divisor:FnScope ["rows","common","row","number"] ["rows"] (defScope s_common_divisor):=sc0
theorem ok_common_divisor (F:Def K mg "common_divisor" s_common_divisor ["rows"]) (T:Txt K mg cs)
 (O_divisor:Ok P w K mg base "divisor" 1 ["one","other"] (PSp K sp_divisor))
 : Ok P w K mg base "common_divisor" 2 ["rows"] (PSp K sp_common_divisor):=by
  refine F.vok sc_common_divisor (by rintro ds q ⟨_,_,h,_⟩;rw [h];rfl) fun f cdv A outer s H E hr ds q h=>?_
  obtain ⟨d,R,rfl,hR,h⟩:=h
  refine ⟨_,(vss_cons (vs_set (i:=1) sc_common_divisor.nd ve_int)
   (vss_cons (vs_for rfl (vi_seq (ve_var 0)) (vg_name (i:=2) sc_common_divisor.nd) (vss_one (vs_for rfl (vi_seq (ve_var 2)) (vg_name (i:=3) sc_common_divisor.nd) (vss_one (vs_set (i:=1) sc_common_divisor.nd (ve_fn O_divisor.c (hr.mono (by decide)) (va_cons (ve_var 1) (va_cons (ve_var 3) va_nil))))))))
   (vss_one (vs_ret (ve_var 1))))),?_⟩
  obtain ⟨l,e,_⟩:=id hR
  refine seq_elim e ⟨fun i e => ∃ t1 t2 c,e=[.val d,.val (.int c),t1,t2]∧c=(gTab (R.take i):Int),⟨_,_,_,rfl,rfl⟩,?_,?_⟩
  ·rintro i x e' hx ⟨t1,t2,_,rfl,rfl⟩
   obtain ⟨r,hr,er⟩:=hR.get e hx
   refine seq_elim er ⟨fun j e => ∃ t2 c,e=[.val d,.val (.int c),.val x,t2]∧c=(gRow (gTab (R.take i)) (r.take j):Int),⟨_,_,rfl,rfl⟩,?_,?_⟩
   ·rintro j y e hy ⟨t2,_,rfl,rfl⟩
    obtain ⟨z,rfl,hz,_⟩:=int_get hy
    refine ⟨_,_,rfl,?_⟩
    rw [take_snoc hz,gRow_snoc]
   ·rintro e ⟨t2,_,rfl,rfl⟩
    refine ⟨_,_,_,rfl,?_⟩
    rw [List.length_map,List.take_length,List.take_add_one,hr]
    show _=((gTab (R.take i++[r]):Nat):Int)
    rw [gFold_snoc]
  ·rintro e' ⟨t1,t2,_,rfl,rfl⟩
   rw [hR.len e,List.take_length]
   exact h
def sp_divided (ds:List PyData) (q:PyData→Prop):Prop := ∃ (d:PyData) (r:List Int) (g:Int),ds=[d,.int g]∧(seqD d=some (r.map .int)∧r.length≤900∧0<g∧intBits g≤9000)∧q (tRow (r.map fun n=>n/g))
theorem sc_divided:FnScope ["row","common"] ["row","common"] (defScope s_divided):=sc0
theorem ok_divided (F:Def K mg "divided" s_divided ["row","common"]) (T:Txt K mg cs)
 : Ok P w K mg base "divided" 1 ["row","common"] (NewSp K sp_divided):=by
  refine F.vokN sc_divided (by rintro ds q ⟨_,_,_,h,_⟩;rw [h];rfl) fun f cdv A outer s H E hr ds q h=>?_
  obtain ⟨d,r,g,rfl,⟨e,hl,g0,g1⟩,h⟩:=h
  refine ⟨_,(vss_one (vs_retW (vn_tupS T.tuple_ (vf_fz (vf_comp (caps:=["common"]) (own:=["number"]) (ix:=[1]) rfl ⟨rfl,rfl,rfl,rfl,rfl,rfl⟩ (vi_seq (ve_var 0)) (fun _ _ _ _=>(vg_name (i:=1) (show List.Nodup (["common","number"]:List Str) by decide))) (fun _ _ _ _=>(ve_op o_div (ve_var 1) (ve_var 0)))))))),?_⟩
  refine seq_elim e (comp_by ((r.map fun n=>n/g).map .int) (by simp) (small1000 (by simp;omega)) (fun e => ∃ s,e=[.val (.int g),s]) ⟨_,rfl⟩ ?_ ?_)
  ·rintro i x ys e hx hys ⟨s,rfl⟩
   obtain ⟨z,rfl,hz,_⟩:=int_get hx
   refine ⟨⟨g0,g1⟩,snoc_take ?_ hys,_,rfl⟩
   rw [List.getElem?_map,List.getElem?_map,hz];rfl
  ·exact ⟨List.all_eq_true.mpr fun x hx=>by obtain ⟨n,_,rfl⟩:=List.mem_map.mp hx;rfl,_,rfl,h⟩
def sp_lowest_table (ds:List PyData) (q:PyData→Prop):Prop := ∃ (b:Int) (d:PyData) (R:List (List Int)) (n:Nat),ds=[.int b,d]∧(RowsD d R∧Tab b R n∧R≠[]∧R.length≤900∧n≤900∧intBits b≤9000)∧q (dTab (b/gTab R) (divT R (gTab R)))
theorem bits_dvd {g b:Int}{m:Nat} (hb:0<b) (h:g∣b) (hz:intBits b≤m):intBits g≤m:=by
 refine intBits_le_of_natAbs ?_ hz
 exact Nat.le_of_dvd (by omega) (Int.natAbs_dvd_natAbs.mpr h)
theorem sc_lowest_table:FnScope ["bottom","rows","common"] ["bottom","rows"] (defScope s_lowest_table):=sc0
theorem ok_lowest_table (F:Def K mg "lowest_table" s_lowest_table ["bottom","rows"]) (T:Txt K mg cs)
 (O_common_divisor:Ok P w K mg base "common_divisor" 2 ["rows"] (PSp K sp_common_divisor))
 (O_divided:Ok P w K mg base "divided" 1 ["row","common"] (NewSp K sp_divided))
 : Ok P w K mg base "lowest_table" 3 ["bottom","rows"] (PSp K sp_lowest_table):=by
  refine F.vok sc_lowest_table (by rintro ds q ⟨_,_,_,_,h,_⟩;rw [h];rfl) fun f cdv A outer s H E hr ds q h=>?_
  obtain ⟨b,d,R,n,rfl,⟨hR,hT,hn,hl,hn2,hz⟩,h⟩:=h
  refine ⟨_,(vss_cons (vs_set (i:=2) sc_lowest_table.nd (ve_fn O_common_divisor.c (hr.mono (by decide)) (va_cons (ve_var 1) va_nil)))
   (vss_one (vs_ret (ve_tup (va_cons (ve_op o_div (ve_var 0) (ve_var 2)) (va_cons (ve_callTy c_tuple T.tuple_ L2.boot_tuple (va_cons (vf_fz (vf_comp (caps:=["common"]) (own:=["row"]) (ix:=[2]) rfl ⟨rfl,rfl,rfl,rfl,rfl,rfl⟩ (vi_seq (ve_var 1)) (fun _ _ _ _=>(vg_name (i:=1) (show List.Nodup (["common","row"]:List Str) by decide))) (fun _ _ _ _=>(vn_e (vn_fn O_divided.c (hr.mono (by decide)) (va_cons (ve_var 1) (va_cons (ve_var 0) va_nil))))))) va_nil)) va_nil)))))),?_⟩
  have g0:=hT.gpos hn
  have g1:intBits (gTab R:Int)≤9000:=bits_dvd (by have:=hT.pos;omega) (hT.gdvd hn) hz
  refine ⟨d,R,rfl,hR,⟨by omega,g1⟩,?_⟩
  obtain ⟨l,e,_⟩:=id hR
  refine seq_elim e (comp_by ((divT R (gTab R)).map tRow) (by unfold divT;simp [hR.len e]) (small1000 (by unfold divT;simp;omega)) (fun e => ∃ s,e=[.val (.int (gTab R)),s]) ⟨_,rfl⟩ ?_ ⟨szl,h⟩)
  rintro i x ys e' hx hys ⟨s,rfl⟩
  obtain ⟨r,hr,er⟩:=hR.get e hx
  refine ⟨x,r,gTab R,rfl,⟨er,by rw [hT.len r (get_mem hr)];exact hn2,by omega,g1⟩,snoc_take ?_ hys,_,rfl⟩
  unfold divT
  rw [List.getElem?_map,List.getElem?_map,hr];rfl
def oneRow (p n:Nat):List Int:=(List.range n).map fun k=>if k=p then 1 else 0
def sp_one_sign (ds:List PyData) (q:PyData→Prop):Prop := ∃ p n:Nat,ds=[.int p,.int n]∧n≤900∧q (tRow (oneRow p n))
theorem sc_one_sign:FnScope ["place","many"] ["place","many"] (defScope s_one_sign):=sc0
theorem ok_one_sign (F:Def K mg "one_sign" s_one_sign ["place","many"]) (T:Txt K mg cs)
 : Ok P w K mg base "one_sign" 1 ["place","many"] (PSp K sp_one_sign):=by
  refine F.vok sc_one_sign (by rintro ds q ⟨_,_,h,_⟩;rw [h];rfl) fun f cdv A outer s H E hr ds q h=>?_
  obtain ⟨p,n,rfl,hn,h⟩:=h
  refine ⟨_,(vss_one (vs_ret (ve_callTy c_tuple T.tuple_ L2.boot_tuple (va_cons (vf_fz (vf_comp (caps:=["place"]) (own:=["sign"]) (ix:=[0]) rfl ⟨rfl,rfl,rfl,rfl,rfl,rfl⟩ (vi_range1 T.range_ (ve_var 1)) (fun _ _ _ _=>(vg_name (i:=1) (show List.Nodup (["place","sign"]:List Str) by decide))) (fun _ _ _ _=>(ve_ifExp (vt_cmp (o_eq hr.units) (ve_var 1) (ve_var 0)) ve_int ve_int)))) va_nil)))),?_⟩
  refine ⟨⟨by omega,by omega⟩,comp_by ((oneRow p n).map .int) (by unfold oneRow;simp [rngD_len]) (small1000 (by unfold oneRow;simp;omega)) (fun e => ∃ s,e=[.val (.int p),s]) ⟨_,rfl⟩ ?_ h⟩
  rintro i x ys e hx hys ⟨s,rfl⟩
  obtain ⟨hi,rfl⟩:=rngD_inv hx
  have hi':i<n:=by omega
  refine ⟨rfl,rfl,ite_eq (fun z=>?_) (fun z=>?_)⟩
  ·refine ⟨snoc_take ?_ hys,_,rfl⟩
   unfold oneRow
   rw [List.getElem?_map,List.getElem?_map,List.getElem?_range hi']
   have:i=p:=by omega
   simp [this]
  ·refine ⟨snoc_take ?_ hys,_,rfl⟩
   unfold oneRow
   rw [List.getElem?_map,List.getElem?_map,List.getElem?_range hi']
   have : ¬ i=p:=by omega
   simp [this]
def colI (D:List (List Int)) (k:Nat):List Int:=D.map fun r=>(r[k]?).getD 0
theorem range_row : ∀ (r:List Int),(List.range r.length).map (fun k=>(r[k]?).getD 0)=r:=by
 intro r
 apply List.ext_getElem?
 intro i
 rw [List.getElem?_map]
 by_cases h:i<r.length
 ·rw [List.getElem?_range h,List.getElem?_eq_getElem h];simp [h]
 ·have h1:r.length≤i:=by omega
  rw [List.getElem?_eq_none (by simpa using h1),List.getElem?_eq_none h1];rfl
theorem col_mem {D:List (List Int)}{k:Nat}{x:Int} (h:x ∈ colI D k):x=0 ∨ ∃ d ∈ D,x ∈ d:=by
 obtain ⟨d,hd,rfl⟩:=List.mem_map.mp h
 cases e:d[k]? with
 | none=>exact .inl (by simp)
 | some y=>exact .inr ⟨d,hd,by simpa using List.mem_of_getElem? e⟩
theorem bits_le {x b:Int}{m:Nat} (h0:0≤x) (h:x≤b) (hz:intBits b≤m):intBits x≤m:=intBits_le_of_natAbs (by omega) hz
theorem Tab.bits {b:Int}{R:List (List Int)}{n m:Nat}{r:List Int}{x:Int} (h:Tab b R n) (hz:intBits b≤m) (hr:r ∈ R) (hx:x ∈ r):intBits x≤m:=bits_le (h.le hr hx).1 (h.le hr hx).2 hz
theorem zip_get {a b:List Int}{i:Nat}{x y:Int} (h1:a[i]?=some x) (h2:b[i]?=some y):(List.zipWith (· * ·) a b)[i]?=some (x*y):=by
 rw [List.getElem?_zipWith,h1,h2]
theorem col_get {D:List (List Int)}{k i:Nat}{d:List Int}{x:Int} (h:D[i]?=some d) (hx:d[k]?=some x):(colI D k)[i]?=some x:=by
 unfold colI
 rw [List.getElem?_map,h]
 simp [hx]
theorem col_len (D:List (List Int)) (k:Nat):(colI D k).length=D.length:=by simp [colI]
structure Gls (b:Int) (R:List (List Int)) (n:Nat):Prop where
 t:Tab b R n
 g:gTab R=1
theorem Tab.gls {b:Int}{R:List (List Int)}{n:Nat} (h:Tab b R n) (hR:R≠[]):Gls (b/gTab R) (divT R (gTab R)) n:=⟨h.low hR,gTab_low (h.gpos hR)⟩
abbrev lowT (b:Int) (P:List (List Int)):PyData:=dTab (b/gTab P) (divT P (gTab P))
def sp_column (ds:List PyData) (q:List PyData→Prop):Prop := ∃ (d:PyData) (R:List (List Int)) (k:Nat),ds=[d,.int k]∧(RowsD d R∧R.length≤900 ∧ ∀ r ∈ R,k<r.length)∧q ((colI R k).map .int)
theorem sc_column:FnScope ["rows","place"] ["rows","place"] (defScope s_column):=sc0
theorem ok_column (F:Def K mg "column" s_column ["rows","place"]) (T:Txt K mg cs)
 : Ok P w K mg base "column" 1 ["rows","place"] (FSp K sp_column):=by
  refine F.vokF sc_column (by rintro ds q ⟨_,_,_,h,_⟩;rw [h];rfl) fun f cdv A outer s H E hr ds q h=>?_
  obtain ⟨d,R,k,rfl,⟨hR,hl,hk⟩,h⟩:=h
  refine ⟨_,(vss_one (vs_retF (vf_comp (caps:=["place"]) (own:=["row"]) (ix:=[1]) rfl ⟨rfl,rfl,rfl,rfl,rfl,rfl⟩ (vi_seq (ve_var 0)) (fun _ _ _ _=>(vg_name (i:=1) (show List.Nodup (["place","row"]:List Str) by decide))) (fun _ _ _ _=>(ve_ix (ve_var 1) (ve_var 0)))))),?_⟩
  obtain ⟨l,e,_⟩:=id hR
  refine seq_elim e (comp_by ((colI R k).map .int) (by simp [colI,hR.len e]) (small1000 (by simp [colI];omega)) (fun e => ∃ s,e=[.val (.int k),s]) ⟨_,rfl⟩ ?_ ?_)
  ·rintro i x ys e' hx hys ⟨s,rfl⟩
   obtain ⟨r,hr,er⟩:=hR.get e hx
   have hk':=hk r (get_mem hr)
   have hx:=List.getElem?_eq_getElem hk'
   refine ix_seqD er (atI_nat (by rw [List.getElem?_map,hx];rfl)) ⟨snoc_take ?_ hys,_,rfl⟩
   rw [List.getElem?_map,col_get hr hx];rfl
  ·exact ⟨_,rfl,h⟩
def nrm (c:List Int):List Int:=c.map fun n=>n/(gRow 0 c:Int)
structure Col (c:List Int):Prop where
 nn : ∀ n ∈ c,0≤n
 nz : ∃ n ∈ c,n≠0
theorem gRow_all0 : ∀ {c:List Int},gRow 0 c=0 → ∀ n ∈ c,n=0:=fun {c} h n hn=>by
 have:=gRow_dvd c 0 n hn
 rw [h] at this
 exact Int.zero_dvd.mp (by simpa using this)
theorem Col.g {c:List Int} (h:Col c):0<gRow 0 c:=by
 rcases Nat.eq_zero_or_pos (gRow 0 c) with e|e
 ·obtain ⟨n,hn,z⟩:=h.nz
  exact (z (gRow_all0 e n hn)).elim
 ·exact e
theorem nrm_mul {c:List Int}:(nrm c).map (fun n=>(gRow 0 c:Int)*n)=c:=by
 unfold nrm
 rw [List.map_map]
 exact map_eq_self fun n hn=>Int.mul_ediv_cancel' (gRow_dvd c 0 n hn)
theorem nrm_one {c:List Int} (h:0<gRow 0 c):gRow 0 (nrm c)=1:=by
 have e:=gRow_mul (gRow 0 c) (nrm c) 0
 rw [nrm_mul,Nat.mul_zero] at e
 exact (Nat.eq_of_mul_eq_mul_left h (show gRow 0 c*1=gRow 0 c*gRow 0 (nrm c) by omega)).symm
theorem Col.nrm {c:List Int} (h:Col c):Col (nrm c):=by
 have g:=h.g
 constructor
 ·intro n hn
  obtain ⟨m,hm,rfl⟩:=List.mem_map.mp hn
  exact Int.ediv_nonneg (h.nn m hm) (by omega)
 ·obtain ⟨n,hn,z⟩:=h.nz
  refine ⟨n/(gRow 0 c:Int),List.mem_map.mpr ⟨n,hn,rfl⟩,fun e=>z ?_⟩
  have:=Int.mul_ediv_cancel' (gRow_dvd c 0 n hn)
  rw [e,Int.mul_zero] at this
  exact this.symm
theorem nrm_times {w:List Int}{k:Nat} (h:gRow 0 w=1) (hk:0<k):nrm (w.map fun n=>(k:Int)*n)=w:=by
 have e:=gRow_mul k w 0
 rw [Nat.mul_zero,h,Nat.mul_one] at e
 unfold nrm
 rw [e,List.map_map]
 refine map_eq_self fun n _=>?_
 show (k:Int)*n/(k:Int)=n
 exact Int.mul_ediv_cancel_left n (by omega)
def Prp (u v:List Int):Prop := ∀ (i j:Nat) (a b c d:Int),u[i]?=some a→u[j]?=some b→v[i]?=some c→v[j]?=some d→a*d=b*c
theorem prp_of_nrm {u v:List Int} (e:nrm u=nrm v):Prp u v:=by
 intro i j a b c d ha hb hc hd
 have hu:=nrm_mul (c:=u)
 have hv:=nrm_mul (c:=v)
 rw [← hu] at ha hb
 rw [← hv,← e] at hc hd
 rw [List.getElem?_map] at ha hb hc hd
 cases h1:(nrm u)[i]? with
 | none=>rw [h1] at ha;cases ha
 | some x =>
  cases h2:(nrm u)[j]? with
  | none=>rw [h2] at hb;cases hb
  | some y =>
   rw [h1] at ha hc
   rw [h2] at hb hd
   simp only [Option.map_some,Option.some.injEq] at ha hb hc hd
   subst ha hb hc hd
   grind
theorem nrm_of_prp {u v:List Int} (hu:Col u) (hv:Col v) (hl:u.length=v.length) (h:Prp u v):nrm u=nrm v:=by
 have lu:(nrm u).length=u.length:=List.length_map _
 have lv:(nrm v).length=v.length:=List.length_map _
 have gu:(0:Int)<gRow 0 u:=by have:=hu.g;omega
 have gv:(0:Int)<gRow 0 v:=by have:=hv.g;omega
 have one : ∀ {c:List Int}{i:Nat}{x:Int},(nrm c)[i]?=some x→c[i]?=some ((gRow 0 c:Int)*x):=fun {c i x} e=>by
  have:=nrm_mul (c:=c)
  rw [← this,List.getElem?_map,this,e];rfl
 have key : ∀ (i j:Nat) (a b c d:Int),(nrm u)[i]?=some a→(nrm u)[j]?=some b→(nrm v)[i]?=some c→(nrm v)[j]?=some d→a*d=b*c:=fun i j a b c d h1 h2 h3 h4=>by
  have z:=h i j _ _ _ _ (one h1) (one h2) (one h3) (one h4)
  have z2:((gRow 0 u:Int)*(gRow 0 v:Int))*(a*d)=((gRow 0 u:Int)*(gRow 0 v:Int))*(b*c):=by grind
  exact Int.eq_of_mul_eq_mul_left (Int.ne_of_gt (Int.mul_pos gu gv)) z2
 refine List.ext_getElem? fun i=>?_
 by_cases hi:i<u.length
 ·obtain ⟨a,ha⟩ : ∃ a,(nrm u)[i]?=some a:=⟨_,List.getElem?_eq_getElem (by omega)⟩
  obtain ⟨c,hc⟩ : ∃ c,(nrm v)[i]?=some c:=⟨_,List.getElem?_eq_getElem (by omega)⟩
  have a0:=hu.nrm.nn a (List.mem_of_getElem? ha)
  have c0:=hv.nrm.nn c (List.mem_of_getElem? hc)
  have e:(nrm v).map (fun n=>(a.toNat:Int)*n)=(nrm u).map (fun n=>(c.toNat:Int)*n):=by
   refine List.ext_getElem? fun j=>?_
   rw [List.getElem?_map,List.getElem?_map]
   by_cases hj:j<u.length
   ·obtain ⟨b,hb⟩ : ∃ b,(nrm u)[j]?=some b:=⟨_,List.getElem?_eq_getElem (by omega)⟩
    obtain ⟨d,hd⟩ : ∃ d,(nrm v)[j]?=some d:=⟨_,List.getElem?_eq_getElem (by omega)⟩
    rw [hb,hd,Int.toNat_of_nonneg a0,Int.toNat_of_nonneg c0]
    show some (a*d)=some (c*b)
    rw [key i j a b c d ha hb hc hd,Int.mul_comm]
   ·rw [List.getElem?_eq_none (by omega),List.getElem?_eq_none (by omega)];rfl
  have e1:=gRow_mul a.toNat (nrm v) 0
  have e2:=gRow_mul c.toNat (nrm u) 0
  rw [Nat.mul_zero,nrm_one hv.g,Nat.mul_one] at e1
  rw [Nat.mul_zero,nrm_one hu.g,Nat.mul_one] at e2
  rw [e] at e1
  rw [ha,hc]
  congr 1
  omega
 ·rw [List.getElem?_eq_none (by omega),List.getElem?_eq_none (by omega)]
def jc (R:List (List Int)) (G:List Nat):List Int:=R.map fun r=>(G.map fun i=>(r[i]?).getD 0).sum
theorem jc_one (R:List (List Int)) (j:Nat):jc R [j]=colI R j:=by
 unfold jc colI
 refine List.map_congr_left fun r _=>?_
 simp
theorem jc_cons (R:List (List Int)) (j:Nat) (G:List Nat):jc R (j::G)=List.zipWith (· + ·) (colI R j) (jc R G):=by
 unfold jc colI
 induction R with
 | nil=>rfl
 | cons r R ih =>
  show ((j::G).map fun i=>(r[i]?).getD 0).sum::_=(_+_)::_
  rw [ih,List.map_cons,List.sum_cons]
theorem jc_len (R:List (List Int)) (G:List Nat):(jc R G).length=R.length:=List.length_map _
theorem perm_sum {l l':List Int} (h:l.Perm l'):l.sum=l'.sum:=by
 induction h with
 | nil=>rfl
 | cons x _ ih=>rw [List.sum_cons,List.sum_cons,ih]
 | swap x y l=>rw [List.sum_cons,List.sum_cons,List.sum_cons,List.sum_cons];omega
 | trans _ _ a b=>rw [a,b]
theorem zip_times (w:List Int) (a b:Int):List.zipWith (· + ·) (w.map fun n=>a*n) (w.map fun n=>b*n)=w.map fun n=>(a+b)*n:=by
 induction w with
 | nil=>rfl
 | cons x w ih=>rw [List.map_cons,List.map_cons,List.zipWith_cons_cons,ih,List.map_cons,Int.add_mul]
theorem jc_times {R:List (List Int)}{κ:List Int} : ∀ {G:List Nat},G≠[]→(∀ i ∈ G,Col (colI R i)∧nrm (colI R i)=κ) → ∃ k:Nat,0<k∧jc R G=κ.map fun n=>(k:Int)*n
 | [i],_,h=>by
  obtain ⟨c,e⟩:=h i (by simp)
  exact ⟨gRow 0 (colI R i),c.g,by rw [jc_one,← e,nrm_mul]⟩
 | i::j::G,_,h=>by
  obtain ⟨k,hk,e⟩:=jc_times (G:=j::G) (by simp) fun x hx=>h x (List.mem_cons_of_mem _ hx)
  obtain ⟨c,e2⟩:=h i (by simp)
  refine ⟨gRow 0 (colI R i)+k,by omega,?_⟩
  have e3:colI R i=κ.map fun n=>(gRow 0 (colI R i):Int)*n:=by rw [← e2,nrm_mul]
  rw [jc_cons,e,e3,zip_times,← e3];simp
theorem jc_nrm {R:List (List Int)}{κ:List Int}{G:List Nat} (hG:G≠[]) (h : ∀ i ∈ G,Col (colI R i)∧nrm (colI R i)=κ):nrm (jc R G)=κ∧Col (jc R G):=by
 obtain ⟨k,hk,e⟩:=jc_times hG h
 obtain ⟨i,hi⟩:=List.exists_mem_of_ne_nil G hG
 obtain ⟨c,e2⟩:=h i hi
 have g1:gRow 0 κ=1:=by rw [← e2];exact nrm_one c.g
 have cκ:Col κ:=e2 ▸ c.nrm
 rw [e]
 refine ⟨nrm_times g1 hk,fun n hn=>?_,?_⟩
 ·obtain ⟨m,hm,rfl⟩:=List.mem_map.mp hn
  exact Int.mul_nonneg (by omega) (cκ.nn m hm)
 ·obtain ⟨m,hm,z⟩:=cκ.nz
  exact ⟨_,List.mem_map.mpr ⟨m,hm,rfl⟩,Int.mul_ne_zero (by omega) z⟩
def sgD (G:List Nat):List PyData:=G.map fun i => .int ((i:Nat):Int)
theorem sgD_get {G:List Nat}{i:Nat}{x:PyData} (h:(sgD G)[i]?=some x) : ∃ s:Nat,G[i]?=some s∧x = .int (s:Nat):=by
 unfold sgD at h
 rw [List.getElem?_map] at h
 cases e:G[i]? with
 | none=>rw [e] at h;cases h
 | some s=>rw [e] at h;cases h;exact ⟨s,rfl,rfl⟩
theorem sgD_ints (G:List Nat):seqD (.list (sgD G))=some ((G.map fun i=>((i:Nat):Int)).map .int):=by
 unfold sgD seqD
 rw [List.map_map];rfl
theorem sg_any {G:List Nat}{s:Nat}:((G.map fun i=>((i:Nat):Int)).any (· == (s:Int)))=true↔s ∈ G:=by
 rw [List.any_eq_true]
 constructor
 ·rintro ⟨x,hx,e⟩
  obtain ⟨i,hi,rfl⟩:=List.mem_map.mp hx
  have:i=s:=by have:=eq_of_beq e;omega
  exact this ▸ hi
 ·intro h
  exact ⟨_,List.mem_map.mpr ⟨s,h,rfl⟩,by simp⟩
def jnum (r:List Int) (G:List Nat):Int:=(G.map fun i=>(r[i]?).getD 0).sum
def grD (Gs:List (List Nat)):List PyData:=Gs.map fun G => .list (sgD G)
theorem grD_get {Gs:List (List Nat)}{i:Nat}{x:PyData} (h:(grD Gs)[i]?=some x) : ∃ G,Gs[i]?=some G∧x = .list (sgD G):=by
 unfold grD at h
 rw [List.getElem?_map] at h
 cases e:Gs[i]? with
 | none=>rw [e] at h;cases h
 | some s=>rw [e] at h;cases h;exact ⟨s,rfl,rfl⟩
def grs (R:List (List Int)):Nat→List (List Int×List Nat)
 | 0=>[]
 | i+1=>if (colI R i).any (· != 0)=true then putG (grs R i) (nrm (colI R i)) i else grs R i
def grAt (R:List (List Int)) (n i:Nat):List Nat:=((grs R n)[i]?.getD ([],[])).2
theorem putG_len {gs:List (List Int×List Nat)}{k:List Int}{s:Nat}:(putG gs k s).length≤gs.length+1:=by
 unfold putG
 split
 ·rw [List.length_map];omega
 ·simp
theorem grs_len (R:List (List Int)) : ∀ i,(grs R i).length≤i
 | 0=>Nat.le_refl _
 | i+1=>by
  have:=grs_len R i
  unfold grs
  split
  ·exact Nat.le_trans putG_len (by omega)
  ·omega
theorem grs_le (R:List (List Int)) : ∀ i,∀ x ∈ grs R i,x.2.length≤i
 | 0,x,hx=>by cases hx
 | i+1,x,hx=>by
  unfold grs at hx
  split at hx
  ·unfold putG at hx
   split at hx
   ·obtain ⟨y,hy,rfl⟩:=List.mem_map.mp hx
    have:=grs_le R i y hy
    split
    ·simp;omega
    ·omega
   ·rcases List.mem_append.mp hx with z|z
    ·have:=grs_le R i x z
     omega
    ·rw [List.mem_singleton.mp z];simp
  ·have:=grs_le R i x hx
   omega
theorem grs_lt (R:List (List Int)) : ∀ i,∀ x ∈ grs R i,∀ s ∈ x.2,s<i
 | 0,x,hx=>by cases hx
 | i+1,x,hx=>by
  unfold grs at hx
  split at hx
  ·unfold putG at hx
   split at hx
   ·obtain ⟨y,hy,rfl⟩:=List.mem_map.mp hx
    have ih:=grs_lt R i y hy
    split
    ·intro s hs
     rcases List.mem_append.mp hs with z|z
     ·have:=ih s z;omega
     ·have:=List.mem_singleton.mp z;omega
    ·intro s hs
     have:=ih s hs;omega
   ·rcases List.mem_append.mp hx with z|z
    ·intro s hs
     have:=grs_lt R i x z s hs;omega
    ·rw [List.mem_singleton.mp z]
     intro s hs
     have:=List.mem_singleton.mp hs;omega
  ·intro s hs
   have:=grs_lt R i x hx s hs;omega
theorem iss_grL {K:PySem.W.Frag}{F:Hp} (G:List Nat):Iss K F (sgD G) (grL G):=by
 have e:=iss_ints (K:=K) (H:=F) (G.map fun i=>((i:Nat):Int))
 unfold sgD grL
 rw [List.map_map,List.map_map] at e
 exact e
def FL (F H:Hp) (ks:List Grp):Hp:=fun b=>if b ∈ ks.map (·.2.1) then H b else F b
section
variable {F H:Hp}{ks:List Grp}
theorem FL.le (h : ∀ x ∈ ks,F x.2.1=none):Same F (FL F H ks):=fun b o e=>by
 unfold FL
 rw [if_neg fun z=>?_]
 ·exact .of e
 ·obtain ⟨x,hx,rfl⟩:=List.mem_map.mp z
  rw [h x hx] at e;cases e
theorem FL.fh (h:Same F H):Same (FL F H ks) H:=fun b o e=>by
 unfold FL at e
 split at e
 ·exact .of e
 ·exact h b o e
theorem FL.at {x:Grp}{o:HO} (hx:x ∈ ks) (h:H x.2.1=some o):FL F H ks x.2.1=some o:=by
 unfold FL
 rw [if_pos (List.mem_map.mpr ⟨x,hx,rfl⟩)];exact h
end
def sp_joined_number (ds:List PyData) (q:PyData→Prop):Prop := ∃ (d g:PyData) (r:List Int) (G:List Nat),ds=[d,g]∧(seqD d=some (r.map .int)∧seqD g=some (sgD G)∧G.length≤900 ∧ ∀ i ∈ G,i<r.length)∧q (.int (jnum r G))
theorem sc_joined_number:FnScope ["row","group"] ["row","group"] (defScope s_joined_number):=sc0
theorem ok_joined_number (F:Def K mg "joined_number" s_joined_number ["row","group"]) (T:Txt K mg cs)
 : Ok P w K mg base "joined_number" 1 ["row","group"] (PSp K sp_joined_number):=by
  refine F.vok sc_joined_number (by rintro ds q ⟨_,_,_,_,h,_⟩;rw [h];rfl) fun f cdv A outer s H E hr ds q h=>?_
  obtain ⟨d,g,r,G,rfl,⟨e1,e2,hl,hk⟩,h⟩:=h
  refine ⟨_,(vss_one (vs_ret (ve_callB (c_sum rfl) T.sum_ L2.boot_sum (va_cons (vf_fz (vf_comp (caps:=["row"]) (own:=["sign"]) (ix:=[0]) rfl ⟨rfl,rfl,rfl,rfl,rfl,rfl⟩ (vi_seq (ve_var 1)) (fun _ _ _ _=>(vg_name (i:=1) (show List.Nodup (["row","sign"]:List Str) by decide))) (fun _ _ _ _=>(ve_ix (ve_var 0) (ve_var 1))))) va_nil)))),?_⟩
  refine seq_elim e2 (comp_by ((G.map fun i=>(r[i]?).getD 0).map .int) (by simp [sgD]) (small1000 (by simp;omega)) (fun e => ∃ s,e=[.val d,s]) ⟨_,rfl⟩ ?_ ⟨_,rfl,h⟩)
  rintro i x ys e hx hys ⟨s,rfl⟩
  obtain ⟨k,hi,rfl⟩:=sgD_get hx
  have hk':=hk k (get_mem hi)
  have hx:=List.getElem?_eq_getElem hk'
  refine ix_seqD e1 (atI_nat (by rw [List.getElem?_map,hx];rfl)) ⟨snoc_take ?_ hys,_,rfl⟩
  rw [List.getElem?_map,List.getElem?_map,hi]
  show some (PyData.int ((r[k]?).getD 0))=_
  rw [hx];rfl
def sp_joined_column (ds:List PyData) (q:List PyData→Prop):Prop := ∃ (b:Int) (R:List (List Int)) (g:PyData) (G:List Nat),ds=[dTab b R,g]∧(R.length≤900∧seqD g=some (sgD G)∧G.length≤900 ∧ ∀ r ∈ R,∀ i ∈ G,i<r.length)∧q ((jc R G).map .int)
theorem sc_joined_column:FnScope ["glass","group"] ["glass","group"] (defScope s_joined_column):=sc0
theorem ok_joined_column (F:Def K mg "joined_column" s_joined_column ["glass","group"]) (T:Txt K mg cs)
 (O_joined_number:Ok P w K mg base "joined_number" 1 ["row","group"] (PSp K sp_joined_number))
 : Ok P w K mg base "joined_column" 2 ["glass","group"] (FSp K sp_joined_column):=by
  refine F.vokF sc_joined_column (by rintro ds q ⟨_,_,_,_,h,_⟩;rw [h];rfl) fun f cdv A outer s H E hr ds q h=>?_
  obtain ⟨b,R,g,G,rfl,⟨hR,eg,hl,hk⟩,h⟩:=h
  refine ⟨_,(vss_one (vs_retF (vf_comp (caps:=["group"]) (own:=["row"]) (ix:=[1]) rfl ⟨rfl,rfl,rfl,rfl,rfl,rfl⟩ (vi_seq (ve_ix (ve_var 0) ve_int)) (fun _ _ _ _=>(vg_name (i:=1) (show List.Nodup (["group","row"]:List Str) by decide))) (fun _ _ _ _=>(ve_fn O_joined_number.c (hr.mono (by decide)) (va_cons (ve_var 1) (va_cons (ve_var 0) va_nil))))))),?_⟩
  refine ⟨_,rfl,?_⟩
  refine comp_by ((jc R G).map .int) (by simp [jc_len]) (small1000 (by simp [jc_len];omega)) (fun e => ∃ s,e=[.val g,s]) ⟨_,rfl⟩ ?_ ⟨_,rfl,h⟩
  rintro i x ys e hx hys ⟨s,rfl⟩
  rw [List.getElem?_map] at hx
  cases er:R[i]? with
  | none=>rw [er] at hx;cases hx
  | some r =>
   rw [er] at hx;cases hx
   refine ⟨_,_,r,G,rfl,⟨rfl,eg,hl,hk r (get_mem er)⟩,snoc_take ?_ hys,_,rfl⟩
   unfold jc
   rw [List.getElem?_map,List.getElem?_map,er];rfl
theorem lexN_irr (x:Nat→Int) : ∀ k i,lexN x x k i=false
 | 0,_=>rfl
 | k+1,i=>by unfold lexN;rw [if_pos (by simp)];exact lexN_irr x k (i+1)
theorem lexN_tr {x y z:Nat→Int} : ∀ k i,lexN x y k i=true→lexN y z k i=true→lexN x z k i=true
 | 0,_,h,_=>by cases h
 | k+1,i,h1,h2=>by
  unfold lexN at h1 h2 ⊢
  by_cases a:x i=y i
  ·rw [if_pos (by simpa using a)] at h1
   by_cases b:y i=z i
   ·rw [if_pos (by simpa using b)] at h2
    rw [if_pos (by simpa using a.trans b)]
    exact lexN_tr k (i+1) h1 h2
   ·rw [if_neg (by simpa using b)] at h2
    rw [a,if_neg (by simpa using b)];exact h2
  ·rw [if_neg (by simpa using a)] at h1
   have h1:=of_decide_eq_true h1
   by_cases b:y i=z i
   ·rw [← b,if_neg (by simpa using a)];exact decide_eq_true h1
   ·rw [if_neg (by simpa using b)] at h2
    have h2:=of_decide_eq_true h2
    rw [if_neg (by simp;omega)];exact decide_eq_true (by omega)
theorem lexN_tot {x y:Nat→Int} : ∀ k i,(∃ j,i≤j∧j<i+k∧x j≠y j)→lexN x y k i=true∨lexN y x k i=true
 | 0,i,⟨j,h1,h2,_⟩=>by omega
 | k+1,i,⟨j,h1,h2,h3⟩=>by
  unfold lexN
  by_cases a:x i=y i
  ·rw [if_pos (by simpa using a),if_pos (by simpa using a.symm)]
   have:j≠i:=fun z=>h3 (z ▸ a)
   exact lexN_tot k (i+1) ⟨j,by omega,by omega,h3⟩
  ·rw [if_neg (by simpa using a),if_neg (by simpa using Ne.symm a)]
   by_cases b:x i<y i
   ·exact .inl (decide_eq_true b)
   ·exact .inr (decide_eq_true (by omega))
theorem ordN_keys {n m:Nat}{kl:Nat→List Int} (hl : ∀ i,i<n→(kl i).length=m) (hd : ∀ i j,i<n→j<n→i≠j→kl i≠kl j):OrdN n (keyLess kl m):=by
 refine ⟨fun i=>lexN_irr _ _ _,fun i j k _ _ _ h1 h2=>lexN_tr _ _ h1 h2,fun i j hi hj ne=>lexN_tot _ _ ?_⟩
 refine Classical.byContradiction fun z=>hd i j hi hj ne (List.ext_getElem? fun k=>?_)
 by_cases hk:k<m
 ·have e:(kl i).getD k 0=(kl j).getD k 0:=Classical.byContradiction fun w=>z ⟨k,Nat.zero_le _,by omega,w⟩
  have l1:=hl i hi
  have l2:=hl j hj
  rw [List.getD_eq_getElem?_getD,List.getD_eq_getElem?_getD,List.getElem?_eq_getElem (by omega),List.getElem?_eq_getElem (by omega)] at e
  rw [List.getElem?_eq_getElem (by omega),List.getElem?_eq_getElem (by omega)]
  exact congrArg some e
 ·rw [List.getElem?_eq_none (by rw [hl i hi];omega),List.getElem?_eq_none (by rw [hl j hj];omega)]
structure GrsOk (R:List (List Int)) (gs:List (List Int×List Nat)):Prop where
 ky:(gs.map (·.1)).Nodup
 ne : ∀ x ∈ gs,x.2≠[]
 me : ∀ x ∈ gs,∀ s ∈ x.2,Col (colI R s)∧nrm (colI R s)=x.1
theorem GrsOk.put {R:List (List Int)}{gs:List (List Int×List Nat)}{s:Nat} (h:GrsOk R gs) (c:Col (colI R s)):GrsOk R (putG gs (nrm (colI R s)) s):=by
 unfold putG
 split
 ·have key : ∀ y:List Int×List Nat,(if y.1=nrm (colI R s) then (y.1,y.2++[s]) else y).1=y.1:=fun y=>by split <;> rfl
  refine ⟨?_,fun x hx=>?_,fun x hx=>?_⟩
  ·rw [List.map_map]
   have:gs.map ((·.1) ∘ fun x=>if x.1=nrm (colI R s) then (x.1,x.2++[s]) else x)=gs.map (·.1):=List.map_congr_left fun y _=>key y
   rw [this];exact h.ky
  ·obtain ⟨y,hy,rfl⟩:=List.mem_map.mp hx
   split
   ·simp
   ·exact h.ne y hy
  ·obtain ⟨y,hy,rfl⟩:=List.mem_map.mp hx
   split
   ·rename_i e
    intro t ht
    rcases List.mem_append.mp ht with z|z
    ·exact h.me y hy t z
    ·rw [List.mem_singleton.mp z];exact ⟨c,e.symm⟩
   ·exact h.me y hy
 ·rename_i na
  have two : ∀ {P:List Int×List Nat→Prop},(∀ x ∈ gs,P x)→P (nrm (colI R s),[s]) → ∀ x ∈ gs++[(nrm (colI R s),[s])],P x:=fun a b x hx=>by
   rcases List.mem_append.mp hx with z|z
   ·exact a x z
   ·rw [List.mem_singleton.mp z];exact b
  refine ⟨?_,two h.ne (by simp),two h.me fun t ht=>?_⟩
  ·rw [List.map_append,List.map_cons,List.map_nil,List.nodup_append]
   refine ⟨h.ky,by simp,fun a ha b hb=>?_⟩
   obtain ⟨x,hx,rfl⟩:=List.mem_map.mp ha
   rw [List.mem_singleton.mp hb]
   exact fun z=>na (List.any_eq_true.mpr ⟨x,hx,by simpa using z⟩)
  ·rw [List.mem_singleton.mp ht];exact ⟨c,rfl⟩
theorem col_of {R:List (List Int)}{s:Nat} (hn : ∀ r ∈ R,∀ x ∈ r,0≤x) (ea:(colI R s).any (· != 0)=true):Col (colI R s):=by
 refine ⟨fun x hx=>?_,?_⟩
 ·rcases col_mem hx with rfl|⟨r,hr,hx⟩
  ·exact Int.le_refl _
  ·exact hn r hr x hx
 ·obtain ⟨x,hx,z⟩:=List.any_eq_true.mp ea
  exact ⟨x,hx,by simpa using z⟩
theorem grs_ok {R:List (List Int)} (hn : ∀ r ∈ R,∀ x ∈ r,0≤x) : ∀ i,GrsOk R (grs R i)
 | 0=>⟨List.nodup_nil,fun x hx=>(by cases hx),fun x hx=>(by cases hx)⟩
 | i+1=>by
  unfold grs
  split
  ·rename_i ea
   exact (grs_ok hn i).put (col_of hn ea)
  ·exact grs_ok hn i
theorem grs_ord {R:List (List Int)} (hn : ∀ r ∈ R,∀ x ∈ r,0≤x) (n:Nat):OrdN (grs R n).length (keyLess (fun i=>jc R (grAt R n i)) R.length):=by
 have h:=grs_ok hn n
 have at_ : ∀ {i:Nat} (hi:i<(grs R n).length),nrm (jc R (grAt R n i))=(grs R n)[i].1:=fun {i} hi=>by
  have e:grAt R n i=(grs R n)[i].2:=by unfold grAt;rw [List.getElem?_eq_getElem hi];rfl
  have m:=List.getElem_mem hi
  rw [e]
  exact (jc_nrm (h.ne _ m) (h.me _ m)).1
 refine ordN_keys (fun i _=>jc_len _ _) fun i j hi hj ne e=>ne ?_
 have z:(grs R n)[i].1=(grs R n)[j].1:=by rw [← at_ hi,← at_ hj];exact congrArg nrm e
 have:=h.ky
 rw [List.nodup_iff_pairwise_ne,List.pairwise_iff_getElem] at this
 rcases Nat.lt_trichotomy i j with q|q|q
 ·exact (this i j (by simpa using hi) (by simpa using hj) q (by simpa using z)).elim
 ·exact q
 ·exact (this j i (by simpa using hj) (by simpa using hi) q (by simpa using z.symm)).elim
def sp_sorted_groups (ds:List PyData) (q:PyData→Prop):Prop := ∃ (b:Int) (R:List (List Int)) (n:Nat),ds=[dTab b R]∧(Tab b R n∧R≠[]∧R.length≤900∧n≤60∧intBits b≤9000) ∧ ∀ p,PmN (grs R n).length p→SrtN (keyLess (fun i=>jc R (grAt R n i)) R.length) p (grs R n).length→q (.list (grD (p.toList.map fun i=>grAt R n i)))
theorem col_g {b:Int}{R:List (List Int)}{n i:Nat} (hT:Tab b R n) (ea:(colI R i).any (· != 0)=true) (bz:intBits b≤9000):0<(gRow 0 (colI R i):Int)∧intBits (gRow 0 (colI R i):Int)≤9000:=by
 obtain ⟨x,hx,z⟩:=List.any_eq_true.mp ea
 have z:x≠0:=by simpa using z
 have dv:=gRow_dvd (colI R i) 0 x hx
 have hz:intBits x≤9000:=by
  rcases col_mem hx with rfl|⟨r,hr,hx⟩
  ·exact (z rfl).elim
  ·exact hT.bits bz hr hx
 have g0:gRow 0 (colI R i)≠0:=fun e=>z (gRow_all0 e x hx)
 refine ⟨by omega,intBits_le_of_natAbs ?_ hz⟩
 exact Nat.le_of_dvd (by omega) (Int.natAbs_dvd_natAbs.mpr dv)
def SgW (R:List (List Int)) (vg:V) (d:Addr) (F0 H0 Fi:Hp) (n i m:Nat) (σ:St) (H:Hp):Prop:=m+i=n ∧ ∃ F ks o2 o3 o4,σ=[some vg,some (.ref d),o2,o3,o4]∧Go F0 H0 F H∧Same Fi F∧GrAt H0 F H d ks∧strip ks=grs R i
theorem sc_sorted_groups:FnScope ["glass","groups","sign","numbers","alone"] ["glass"] (defScope s_sorted_groups):=sc0
theorem ok_sorted_groups (F:DefT K mg "sorted_groups" s_sorted_groups ["glass"] cs.c0) (T:Txt K mg cs) (KB:K.In base)
 (O_signs:Ok P w K mg base "signs" 1 ["glass"] (PSp K sp_signs))
 (O_common_divisor:Ok P w K mg base "common_divisor" 2 ["rows"] (PSp K sp_common_divisor))
 (O_divided:Ok P w K mg base "divided" 1 ["row","common"] (NewSp K sp_divided))
 (O_column:Ok P w K mg base "column" 1 ["rows","place"] (FSp K sp_column))
 (O_joined_column:Ok P w K mg base "joined_column" 2 ["glass","group"] (FSp K sp_joined_column))
 : Ok P w K mg base "sorted_groups" 4 ["glass"] (TaSp [cs.tb] (PSp K sp_sorted_groups)):=by
  refine F.ok sc_sorted_groups (by rintro vs H Q E ⟨_,F,ds,q,_,i,⟨_,_,_,h,_⟩,_⟩;rw [i.len,h];rfl) fun f A outer s H vs Q E hr h=>?_
  obtain ⟨tss,F0,ds,q,sm,hi,⟨b,R,n,rfl,⟨hT,hR,hl,n9,bz⟩,hq⟩,kk⟩:=h
  have ts:TbS cs.tb H:=tss _ (by simp)
  have ho:=grs_ord hT.nn n
  obtain ⟨hu1,hu2,hd2⟩:=hr.sort
  refine ⟨_,pss_cons (ps_set (i:=1) sc_sorted_groups.nd rfl (by first|exact Or.inl rfl|exact Or.inr rfl) pe_dnewT) (pss_cons (ps_for PassesOwn.never rfl (VI.pi (vi_range1 T.range_ (ve_fn O_signs.c (hr.mono (by decide)) (va_cons (ve_var 0) va_nil)))) (pg_name (i:=2) sc_sorted_groups.nd rfl (by first|exact Or.inl rfl|exact Or.inr rfl) (by first|exact .inl rfl|exact .inr rfl)) (pss_cons (ps_set (i:=3) sc_sorted_groups.nd rfl (by first|exact Or.inl rfl|exact Or.inr rfl) (VE.pe (vf_fz (vf_fn O_column.c (hr.mono (by decide)) (va_cons (ve_ix (ve_var 0) ve_int) (va_cons (ve_var 2) va_nil)))))) (pss_one (ps_if (VT.pt (vt_val (ve_callB (c_anyI rfl) T.any_ L2.boot_any (va_cons (ve_var 3) va_nil)))) (pss_cons (ps_set (i:=4) sc_sorted_groups.nd rfl (by first|exact Or.inl rfl|exact Or.inr rfl) (VN.pe (vn_fn O_divided.c (hr.mono (by decide)) (va_cons (ve_var 3) (va_cons (ve_fn O_common_divisor.c (hr.mono (by decide)) (va_cons (vf_fz (vf_lst (va_cons (ve_var 3) va_nil))) va_nil)) va_nil))))) (pss_one (ps_expr
   (pe_append (pe_dsetdef hu1 (pv 1) (pv 4) (pe_lst pa_nil) ⟨rfl,rfl,rfl,rfl⟩)
    (pv 2))))) pss_nil))))
   (pss_one (ps_ret (pe_sortedK (tb:=cs.tb) (c0:=cs.c0) (ig:=1) (iy:=0) (x := "group") (y := "glass") hu2 hr.hd hd2 ts rfl (codeHd_of KB T.tab_h) (bltn_of KB T.bm_ T.bm_h) rfl T.sorted_ (pv 1)
    ⟨rfl,rfl,rfl,rfl,rfl,by decide,by decide +kernel,free_only (by decide +kernel)⟩ rfl rfl rfl rfl (fun _ _ _ _ _ _=>rfl) (fun q f c s H=>pe_fn O_joined_column.c (hr.lam _) (pa_cons (pe_var (i:=1) rfl (Or.inr (Or.inr rfl)) (by decide) (by decide)) (pa_cons (pe_var (i:=0) rfl (Or.inl rfl) (by decide) (by decide)) pa_nil))))))),?_⟩
  obtain ⟨r0,R0,eR⟩:=List.exists_cons_of_ne_nil hR
  have l0:r0.length=n:=hT.len r0 (by rw [eR];simp)
  obtain ⟨vg,rfl,ig⟩:=iss1 hi
  refine fun d hd=>?_
  have g0:Go F0 H F0 (upd H d (.dT [])):=Go.side sm hd
  have gr0:GrAt H F0 (upd H d (.dT [])) d []:=⟨upd_same,same_none sm hd,hd,fun x hx=>(by cases hx),fun x hx=>(by cases hx),fun x hx=>(by cases hx),fun x hx=>(by cases hx),List.nodup_nil,List.nodup_nil⟩
  have hE:EnvOk K ⟨upd H d (.dT []),upd H d (.dT []),F0⟩ F0 (upd H d (.dT [])) [.val (dTab b R),.non,.non,.non,.non] [some vg,some (.ref d),none,none,none] :=
   env_of g0.fh ⟨_,_,rfl,⟨⟨vg,rfl,ig⟩,rfl⟩,_,_,rfl,⟨trivial,rfl⟩,_,_,rfl,⟨trivial,rfl⟩,_,_,rfl,⟨trivial,rfl⟩,_,_,rfl,⟨trivial,rfl⟩,rfl⟩
  refine ⟨⟨upd H d (.dT []),upd H d (.dT []),F0⟩,_,F0,fun ds e=>ds=rngD 0 n∧e=[.val (dTab b R),.non,.non,.non,.non],hE,?_,fun ds J F1 H1 e1 I1 s1 hJ q1=>?_⟩
  ·refine ⟨b,r0,R0,by rw [eR],?_⟩
   rw [l0]
   exact ⟨⟨by omega,by omega⟩,rfl,rfl⟩
  obtain ⟨rfl,rfl⟩:=q1
  have g1:=g0.trans I1.goOf
  refine ⟨SgW R vg d F0 H F1 n,⟨n,by omega,F1,[],none,none,none,rfl,g1,.refl _,gr0.go I1.goOf,rfl⟩,?_⟩
  rintro i m σ H2 ⟨him,F2,ks,o2,o3,o4,rfl,g2,s2,gr,es⟩
  by_cases hin:i=n
  ·left
   subst hin
   refine ⟨by have:=hJ.stop H2 (s2.trans g2.fh);rwa [rngD_len] at this,?_⟩
   clear hJ I1 s1 g1
   have len:ks.length=(grs R i).length:=by rw [← es];unfold strip;rw [List.length_map]
   have lenV:((ks.map grKV).map (·.2)).length=(grs R i).length:=by rw [List.length_map,List.length_map,len]
   have at_ : ∀ {j:Nat}{x:Grp},ks[j]?=some x→grAt R i j=x.2.2:=fun {j x} e=>by
    unfold grAt
    rw [← es]
    unfold strip
    rw [List.getElem?_map,e];rfl
   have inG : ∀ x ∈ ks,x.2.2.length≤i ∧ ∀ s ∈ x.2.2,s<i:=fun x hx=>by
    have z:(x.1,x.2.2) ∈ grs R i:=by rw [← es];exact List.mem_map.mpr ⟨x,hx,rfl⟩
    exact ⟨grs_le R i _ z,grs_lt R i _ z⟩
   have ht0:H cs.tb≠none:=by obtain ⟨ps,e,_⟩:=ts;rw [e];exact fun z=>by cases z
   have tbl : ∀ x ∈ ks,x.2.1≠cs.tb:=fun x hx z=>ht0 (z ▸ gr.nl x hx)
   refine ⟨d,ks.map grKV,vg,fun j=>jc R (grAt R i j),R.length,⟨rfl,rfl,gr.hd,?_⟩,?_,fun j _=>jc_len _ _,fun H3 go gs=>?_⟩
   ·rw [List.length_map,len]
    have:=grs_len R i
    omega
   ·rw [lenV];exact ho
   refine ⟨fun H'=>Same F2 H' ∧ ∀ x ∈ ks,H' x.2.1=some (.lst (grL x.2.2)),⟨g2.fh.trans gs,fun x hx=>go.h _ _ (tbl x hx) (gr.hl x hx)⟩,fun j v H4 ev gg=>?_,fun p l H4 hp hs sm4 gg nl4 nl2=>?_⟩
   ·obtain ⟨sF,sL⟩:=gg
    rw [List.getElem?_map,List.getElem?_map] at ev
    cases ek:ks[j]? with
    | none=>rw [ek] at ev;cases ev
    | some x =>
     rw [ek] at ev
     cases ev
     have xm:=List.mem_of_getElem? ek
     have hx:=inG x xm
     refine ⟨vg,rfl,_,rfl,FL F2 H4 ks,[dTab b R,.list (sgD x.2.2)],fun l=>l=(jc R x.2.2).map .int,FL.fh sF,iss_cons ((ig.mono g2.f).mono (FL.le gr.fl)) (iss_cons (is_lst (SqL.of (FL.at xm (sL x xm))) (iss_grL _)) iss_nil),⟨b,R,_,x.2.2,rfl,⟨hl,rfl,by omega,fun r hr s hs=>by rw [hT.len r hr];exact hx.2 s hs⟩,rfl⟩,?_⟩
     rintro l a xs F5 H5 g5 na fa ha hx5 rfl
     have e5:=hx5.ints_inv
     subst e5
     refine ⟨g5.h,⟨sF.trans g5.h,fun y hy=>g5.h.at (sL y hy)⟩,a,rfl,?_⟩
     show H5 a=some (.lst ((jc R (grAt R i j)).map V.int))
     rw [at_ ek];exact ha
   ·obtain ⟨sF,sL⟩:=gg
    have nl0:H l=none:=same_none g2.h nl2
    rw [lenV] at hp hs
    have ltb:cs.tb≠l:=fun z=>ht0 (z ▸ nl0)
    have fl0:FL F2 H4 ks l=none:=by
     cases e:FL F2 H4 ks l with
     | none=>rfl
     | some o =>
      obtain ⟨_,this⟩:=(FL.fh (ks:=ks) sF).any e
      rw [nl4] at this;cases this
    have key : ∀ js:List Nat,(∀ j ∈ js,j<ks.length) → ∀ ys,Iss K (upd (FL F2 H4 ks) l (.lst ys)) (grD (js.map fun j=>grAt R i j)) (js.map fun j=>((ks.map grKV).map (·.2)).getD j .non):=by
     intro js
     induction js with
     | nil=>intro _ _;exact iss_nil
     | cons j js ih =>
      intro hj ys
      obtain ⟨x,ej⟩ : ∃ x,ks[j]?=some x:=⟨_,List.getElem?_eq_getElem (hj j (by simp))⟩
      have xm:=List.mem_of_getElem? ej
      have e1:((ks.map grKV).map (·.2)).getD j V.non = .ref x.2.1:=by
       rw [List.getD_eq_getElem?_getD,List.getElem?_map,List.getElem?_map,ej];rfl
      have ne:x.2.1≠l:=fun z=>by have:=sL _ xm;rw [z,nl4] at this;cases this
      show Iss K _ (PyData.list (sgD (grAt R i j))::grD (js.map fun j=>grAt R i j)) (((ks.map grKV).map (·.2)).getD j V.non::_)
      rw [e1,at_ ej]
      exact iss_cons (is_lst (SqL.of (by rw [upd_ne ne];exact FL.at xm (sL _ xm))) (iss_grL _)) (ih (fun k hk=>hj k (List.mem_cons_of_mem _ hk)) ys)
    refine kk (.list (grD (p.toList.map fun j=>grAt R i j))) (.ref l) (upd (FL F2 H4 ks) l (.lst (p.toList.map fun j=>((ks.map grKV).map (·.2)).getD j .non))) _ ⟨(g2.f.trans (FL.le gr.fl)).trans (same_new fl0),((g2.h.trans gs).trans sm4).trans (same_new nl4),fun c o e=>?_,fun c o e=>?_⟩ (is_lst (SqL.of upd_same) (key _ (fun j hj=>?_) _)) (hq p hp hs)
    ·by_cases z:c=l
     ·subst z;rw [upd_same] at e;rw [upd_same];exact .of e
     ·rw [upd_ne z] at e;rw [upd_ne z];exact FL.fh sF c o e
    ·by_cases z:c=l
     ·rw [z];exact .inr nl0
     ·rw [upd_ne z] at e
      unfold FL at e
      split at e
      ·rename_i zz
       obtain ⟨x,hx,rfl⟩:=List.mem_map.mp zz
       exact .inr (gr.nl x hx)
      ·exact g2.new c o e
    ·rw [len]
     exact List.mem_range.mp (hp.p.mem_iff.mp hj)
  have hin':i<n:=by omega
  right
  refine ⟨hJ.go i H2 (s2.trans g2.fh) (by rw [rngD_len];exact hin'),fun σ' H' => ∃ m',m'<m∧SgW R vg d F0 H F1 n (i+1) m' σ' H',fun _ _ z=>z,fun x H3 hy=>?_⟩
  obtain ⟨dx,F3,ex,g3,ix⟩:=hJ.yld i H2 x H3 F2 s2 g2.fh (by rw [rngD_len];exact hin') hy
  obtain ⟨_,rfl⟩:=rngD_inv ex
  rw [Int.zero_add] at ix
  obtain rfl:=ix.int_inv
  have gr3:=gr.go g3
  have g23:=g2.trans g3
  have s3:=s2.trans g3.f
  clear g2 g3 gr s2 hy
  have hE:EnvOk K ⟨H3,H3,F3⟩ F3 H3 [.val (dTab b R),.non,.val (.int i),.non,.non] [some vg,some (.ref d),some (.int i),o3,o4] :=
   env_of g23.fh ⟨_,_,rfl,⟨⟨vg,rfl,ig.mono g23.f⟩,rfl⟩,_,_,rfl,⟨trivial,rfl⟩,_,_,rfl,⟨⟨_,rfl,is_int _⟩,rfl⟩,_,_,rfl,⟨trivial,rfl⟩,_,_,rfl,⟨trivial,rfl⟩,rfl⟩
  refine ⟨⟨H3,H3,F3⟩,_,F3,fun dd e=>dd = .list ((colI R i).map .int)∧e=[.val (dTab b R),.non,.val (.int i),.non,.non],hE,?_,fun dd v3 F4 H4 e4 I4 s4 i4 q4=>?_⟩
  ·exact ⟨_,rfl,_,R,i,rfl,⟨rowsD_tup _,hl,fun r hr=>by rw [hT.len r hr];exact hin'⟩,rfl,rfl⟩
  obtain ⟨rfl,rfl⟩:=q4
  have g4:=I4.goOf
  have gr4:=gr3.go g4
  have g24:=g23.trans g4
  have s24:=s3.trans g4.f
  clear g23 gr3 s3 hE I4 g4
  have hE:EnvOk K ⟨H4,H4,F4⟩ F4 H4 [.val (dTab b R),.non,.val (.int i),.val (.list ((colI R i).map .int)),.non] [some vg,some (.ref d),some (.int i),some v3,o4] :=
   env_of g24.fh ⟨_,_,rfl,⟨⟨vg,rfl,ig.mono g24.f⟩,rfl⟩,_,_,rfl,⟨trivial,rfl⟩,_,_,rfl,⟨⟨_,rfl,is_int _⟩,rfl⟩,_,_,rfl,⟨⟨_,rfl,i4⟩,rfl⟩,_,_,rfl,⟨trivial,rfl⟩,rfl⟩
  refine ⟨⟨H4,H4,F4⟩,_,F4,fun bb e=>bb=(colI R i).any (· != 0)∧e=[.val (dTab b R),.non,.val (.int i),.val (.list ((colI R i).map .int)),.non],hE,?_,fun bb F5 H5 e5 I5 s5 q5=>?_⟩
  ·exact ⟨_,rfl,rfl,rfl⟩
  obtain ⟨rfl,rfl⟩:=q5
  have g5:=I5.goOf
  have gr5:=gr4.go g5
  have g25:=g24.trans g5
  have s25:=s24.trans g5.f
  have i5:=i4.mono g5.f
  clear g24 gr4 s24 hE I5 g5 i4
  cases ea:(colI R i).any (· != 0) with
  | false =>
   refine ⟨m-1,by omega,by omega,F5,ks,_,_,_,rfl,g25,s25,gr5,?_⟩
   rw [es]
   show _=if (colI R i).any (· != 0)=true then _ else _
   rw [ea];rfl
  | true =>
   obtain ⟨gp,gz⟩:=col_g hT ea bz
   have hE:EnvOk K ⟨H5,H5,F5⟩ F5 H5 [.val (dTab b R),.non,.val (.int i),.val (.list ((colI R i).map .int)),.non] [some vg,some (.ref d),some (.int i),some v3,o4] :=
    env_of g25.fh ⟨_,_,rfl,⟨⟨vg,rfl,ig.mono g25.f⟩,rfl⟩,_,_,rfl,⟨trivial,rfl⟩,_,_,rfl,⟨⟨_,rfl,is_int _⟩,rfl⟩,_,_,rfl,⟨⟨_,rfl,i5⟩,rfl⟩,_,_,rfl,⟨trivial,rfl⟩,rfl⟩
   refine ⟨⟨H5,H5,F5⟩,_,F5,fun dd e=>dd=tRow (nrm (colI R i))∧e=[.val (dTab b R),.non,.val (.int i),.val (.list ((colI R i).map .int)),.non],hE,?_,fun dd v4 F6 H6 e6 I6 s6 i6 q6=>?_⟩
   ·have eg:gTab [colI R i]=gRow 0 (colI R i):=rfl
    refine ⟨by simp [sizeLine_eq],_,[colI R i],rfl,rowsD_lst [colI R i],?_⟩
    exact ⟨_,colI R i,_,rfl,⟨rfl,by rw [col_len];exact hl,gp,gz⟩,rfl,rfl⟩
   obtain ⟨rfl,rfl⟩:=q6
   have g6:=I6.goOf
   have gr6:=gr5.go g6
   have g26:=g25.trans g6
   unfold tRow IsN at i6
   obtain ⟨b4,xs4,rfl,hb4,hx4⟩:=i6
   have hb4:=newF_le.at hb4
   have ex4:xs4=(nrm (colI R i)).map V.int:=(IssN.is newF_le hx4).ints_inv
   subst ex4
   refine gr_add (s:=i) g26 gr6 rfl rfl rfl hb4 ?_ ?_ fun p H' g' gr'=>⟨m-1,by omega,by omega,F6,_,_,_,_,rfl,g',s25.trans g6.f,gr',?_⟩
   ·have:(strip ks).length=ks.length:=by unfold strip;rw [List.length_map]
    have:=grs_len R i
    rw [← es] at this
    omega
   ·intro x hx
    have:(x.1,x.2.2) ∈ grs R i:=by rw [← es];exact List.mem_map.mpr ⟨x,hx,rfl⟩
    have:=grs_le R i _ this
    show x.2.2.length<900
    have:x.2.2.length≤i:=this
    omega
   ·rw [strip_put,es]
    show _=if (colI R i).any (· != 0)=true then _ else _
    rw [ea];rfl
def sp_joined_numbers (ds:List PyData) (q:PyData→Prop):Prop := ∃ (d:PyData) (r:List Int) (Gs:List (List Nat)),ds=[d,.list (grD Gs)]∧(seqD d=some (r.map .int)∧Gs.length≤900 ∧ ∀ G ∈ Gs,G.length≤900 ∧ ∀ i ∈ G,i<r.length)∧q (.list ((Gs.map fun G=>jnum r G).map .int))
theorem sc_joined_numbers:FnScope ["row","groups"] ["row","groups"] (defScope s_joined_numbers):=sc0
theorem ok_joined_numbers (F:Def K mg "joined_numbers" s_joined_numbers ["row","groups"]) (T:Txt K mg cs)
 (O_joined_number:Ok P w K mg base "joined_number" 1 ["row","group"] (PSp K sp_joined_number))
 : Ok P w K mg base "joined_numbers" 2 ["row","groups"] (PSp K sp_joined_numbers):=by
  refine F.vok sc_joined_numbers (by rintro ds q ⟨_,_,_,h,_⟩;rw [h];rfl) fun f cdv A outer s H E hr ds q h=>?_
  obtain ⟨d,r,Gs,rfl,⟨e1,hl,hk⟩,h⟩:=h
  refine ⟨_,(vss_one (vs_ret (vf_fz (vf_comp (caps:=["row"]) (own:=["group"]) (ix:=[0]) rfl ⟨rfl,rfl,rfl,rfl,rfl,rfl⟩ (vi_seq (ve_var 1)) (fun _ _ _ _=>(vg_name (i:=1) (show List.Nodup (["row","group"]:List Str) by decide))) (fun _ _ _ _=>(ve_fn O_joined_number.c (hr.mono (by decide)) (va_cons (ve_var 0) (va_cons (ve_var 1) va_nil)))))))),?_⟩
  refine comp_by ((Gs.map fun G=>jnum r G).map .int) (by simp [grD]) (small1000 (by simp;omega)) (fun e => ∃ s,e=[.val d,s]) ⟨_,rfl⟩ ?_ h
  rintro i x ys e hx hys ⟨s,rfl⟩
  unfold grD at hx
  rw [List.getElem?_map] at hx
  cases er:Gs[i]? with
  | none=>rw [er] at hx;cases hx
  | some G =>
   rw [er] at hx;cases hx
   refine ⟨_,_,r,G,rfl,⟨e1,rfl,(hk G (get_mem er)).1,(hk G (get_mem er)).2⟩,snoc_take ?_ hys,_,rfl⟩
   rw [List.getElem?_map,List.getElem?_map,er];rfl
def placeOf (Gs:List (List Nat)) (s:Nat):Nat:=(Gs.findIdx? fun G=>G.contains s).getD 0
theorem placeOf_at {Gs:List (List Nat)}{s i:Nat}{G:List Nat} (e:Gs[i]?=some G) (h:s ∈ G) (hI : ∀ j (G':List Nat),j<i→Gs[j]?=some G'→s ∉ G'):placeOf Gs s=i:=by
 unfold placeOf
 have:Gs.findIdx? (fun G=>G.contains s)=some i:=by
  rw [List.findIdx?_eq_some_iff_getElem]
  obtain ⟨hi,rfl⟩:=List.getElem?_eq_some_iff.mp e
  exact ⟨hi,by simpa using h,fun j hj=>by simpa using hI j _ hj (List.getElem?_eq_getElem (by omega))⟩
 rw [this];rfl
theorem placeOf_none {Gs:List (List Nat)}{s:Nat} (hI : ∀ G ∈ Gs,s ∉ G):placeOf Gs s=0:=by
 unfold placeOf
 have:Gs.findIdx? (fun G=>G.contains s)=none:=by
  rw [List.findIdx?_eq_none_iff]
  intro G hG;simpa using hI G hG
 rw [this];rfl
def sp_place_of (ds:List PyData) (q:PyData→Prop):Prop := ∃ (s:Nat) (Gs:List (List Nat)),ds=[.int s,.list (grD Gs)]∧q (.int (placeOf Gs s:Nat))
theorem sc_place_of:FnScope ["sign","groups","place","group"] ["sign","groups"] (defScope s_place_of):=sc0
theorem ok_place_of (F:Def K mg "place_of" s_place_of ["sign","groups"]) (T:Txt K mg cs)
 : Ok P w K mg base "place_of" 1 ["sign","groups"] (PSp K sp_place_of):=by
  refine F.vok sc_place_of (by rintro ds q ⟨_,_,h,_⟩;rw [h];rfl) fun f cdv A outer s H E hr ds q h=>?_
  obtain ⟨s,Gs,rfl,h⟩:=h
  refine ⟨_,(vss_cons (vs_for rfl (vi_enum T.enumerate_ (ve_var 1)) (vg_tup (n:=2) rfl (vgs_cons (vg_name (i:=2) sc_place_of.nd) (vgs_cons (vg_name (i:=3) sc_place_of.nd) vgs_nil))) (vss_one (vs_if (vt_cmp o_inI (ve_var 0) (ve_var 3)) (vss_one (vs_ret (ve_var 2))) vss_nil)))
   (vss_one (vs_ret ve_int))),?_⟩
  refine ⟨fun i e => ∃ t1 t2,e=[.val (.int s),.val (.list (grD Gs)),t1,t2] ∧ ∀ j (G:List Nat),j<i→Gs[j]?=some G→s ∉ G,⟨_,_,rfl,fun j y hj=>by omega⟩,?_,?_⟩
  ·rintro i x e hx ⟨t1,t2,rfl,hI⟩
   obtain ⟨x,hx',rfl⟩:=enumD_inv hx
   obtain ⟨G,hG,rfl⟩:=grD_get hx'
   refine ⟨rfl,rfl,_,_,rfl,sgD_ints G,?_⟩
   cases a:(G.map fun i=>((i:Nat):Int)).any (· == (s:Int)) with
   | true =>
    have hm:=sg_any.mp a
    rw [placeOf_at hG hm hI] at h
    exact h
   | false =>
    refine ⟨_,_,rfl,fun j y hj hy=>?_⟩
    by_cases e:j=i
    ·subst e;rw [hG] at hy;cases hy
     exact fun m=>by rw [sg_any.mpr m] at a;cases a
    ·exact hI j y (by omega) hy
  ·rintro e ⟨t1,t2,rfl,hI⟩
   rw [enumD_len,grD,List.length_map] at hI
   rw [placeOf_none fun G hG=>?_] at h
   ·exact h
   ·obtain ⟨j,hj,rfl⟩:=List.mem_iff_getElem.mp hG
    exact hI j _ hj (List.getElem?_eq_getElem hj)
def wholeD:PyData→Bool
 | .int _=>true
 | _=>false
def sp_is_whole:DC
 | [d],q=>q (.bool (wholeD d))
 | _,_=>False
theorem sc_is_whole:FnScope ["thing"] ["thing"] (defScope s_is_whole):=sc0
theorem ok_is_whole (F:Def K mg "is_whole" s_is_whole ["thing"]) (T:Txt K mg cs)
 : Ok P w K mg base "is_whole" 1 ["thing"] (PSp K sp_is_whole):=by
  refine F.vok sc_is_whole (fun ds q h=>by unfold sp_is_whole at h;split at h;all_goals first|rfl|exact h.elim) fun f cdv A outer s H E hr ds q h=>?_
  match ds,h with
  | [d],h =>
  refine ⟨_,(vss_one (vs_ret (ve_and (ve_isi T.isinstance_ T.int_ L2.boot_int (ve_var 0)) (ve_one (ve_not (ve_isi T.isinstance_ T.bool_ L2.boot_bool (ve_var 0))))))),?_⟩
  cases d <;> exact h
def sp_reduced:DC
 | [.int t,.int b],q=>(b≠0∧intBits b≤9000)∧q (dSh (shT t b) (shB t b))
 | _,_=>False
theorem sc_reduced:FnScope ["top","bottom","common"] ["top","bottom"] (defScope s_reduced):=sc0
theorem ok_reduced (F:Def K mg "reduced" s_reduced ["top","bottom"]) (T:Txt K mg cs)
 (O_divisor:Ok P w K mg base "divisor" 1 ["one","other"] (PSp K sp_divisor))
 : Ok P w K mg base "reduced" 2 ["top","bottom"] (PSp K sp_reduced):=by
  refine F.vok sc_reduced (fun ds q h=>by unfold sp_reduced at h;split at h;all_goals first|rfl|exact h.elim) fun f cdv A outer s H E hr ds q h=>?_
  match ds,h with
  | [.int t,.int b],⟨⟨hb,hz⟩,h⟩ =>
  refine ⟨_,(vss_cons (vs_set (i:=2) sc_reduced.nd (ve_fn O_divisor.c (hr.mono (by decide)) (va_cons (ve_var 0) (va_cons (ve_var 1) va_nil))))
   (vss_mid (vs_if (vt_cmp o_lt (ve_var 1) ve_int) (vss_one (vs_set (i:=2) sc_reduced.nd (ve_neg (ve_var 2)))) vss_nil)
   (vss_one (vs_ret (ve_tup (va_cons (ve_op o_fdiv (ve_var 0) (ve_var 2)) (va_cons (ve_op o_fdiv (ve_var 1) (ve_var 2)) va_nil))))))),?_⟩
  have hc:=cm_ne (t:=t) hb
  have hcz:=cm_bits (t:=t) hb hz
  refine ⟨fun e=>e=[.val (.int t),.val (.int b),.val (.int (cm t b))],?_,?_⟩
  ·refine iteD (fun hn=>?_) (fun hn=>?_)
   ·show _=_
    unfold cm;rw [if_pos hn];rfl
   ·show _=_
    unfold cm;rw [if_neg hn];rfl
  ·rintro e rfl
   exact ⟨⟨hc,hcz⟩,⟨hc,hcz⟩,szl,h⟩
def sp_share:DC
 | [.int t,.int b],q=>(b≠0∧intBits b≤9000)∧q (dSh (shT t b) (shB t b))
 | _,_=>False
theorem sc_share:FnScope ["top","bottom"] ["top","bottom"] (defScope s_share):=sc0
theorem ok_share (F:Def K mg "share" s_share ["top","bottom"]) (T:Txt K mg cs)
 (O_is_whole:Ok P w K mg base "is_whole" 1 ["thing"] (PSp K sp_is_whole))
 (O_reduced:Ok P w K mg base "reduced" 2 ["top","bottom"] (PSp K sp_reduced))
 : Ok P w K mg base "share" 3 ["top","bottom"] (PSp K sp_share):=by
  refine F.vok sc_share (fun ds q h=>by unfold sp_share at h;split at h;all_goals first|rfl|exact h.elim) fun f cdv A outer s H E hr ds q h=>?_
  match ds,h with
  | [.int t,.int b],h =>
  refine ⟨_,(vss_cons (vs_if (VW.pt (vw_or (vt_not (vt_val (ve_fn O_is_whole.c (hr.mono (by decide)) (va_cons (ve_var 0) va_nil)))) (vw_or (vt_not (vt_val (ve_fn O_is_whole.c (hr.mono (by decide)) (va_cons (ve_var 1) va_nil)))) (vw_or1 (vt_cmp (o_eq hr.units) (ve_var 1) ve_int))))) vss_never vss_nil)
   (vss_one (vs_ret (ve_fn O_reduced.c (hr.mono (by decide)) (va_cons (ve_var 0) (va_cons (ve_var 1) va_nil)))))),?_⟩
  exact ⟨rfl,rfl,ite_eq (fun z=>(h.1.1 z).elim) (fun _=>h)⟩
def partTop (R:List (List Int)) (G:List Nat) (k:Nat):Int:=if k ∈ G then (colI R k).sum else 0
def partsOf (R:List (List Int)) (G:List Nat) (n:Nat):List (Int×Int):=(List.range n).map fun k=>(shT (partTop R G k) (jc R G).sum,shB (partTop R G k) (jc R G).sum)
def sp_parts_of (ds:List PyData) (q:PyData→Prop):Prop := ∃ (b:Int) (R:List (List Int)) (n:Nat) (G:List Nat),ds=[.list (sgD G),dTab b R]∧((∀ r ∈ R,r.length=n)∧R≠[]∧R.length≤900∧n≤900∧G.length≤900∧(∀ i ∈ G,i<n)∧(jc R G).sum≠0∧intBits (jc R G).sum≤9000)∧q (.list ((partsOf R G n).map dS))
theorem sc_parts_of:FnScope ["group","glass","whole"] ["group","glass"] (defScope s_parts_of):=sc0
theorem ok_parts_of (F:Def K mg "parts_of" s_parts_of ["group","glass"]) (T:Txt K mg cs)
 (O_signs:Ok P w K mg base "signs" 1 ["glass"] (PSp K sp_signs))
 (O_column:Ok P w K mg base "column" 1 ["rows","place"] (FSp K sp_column))
 (O_joined_column:Ok P w K mg base "joined_column" 2 ["glass","group"] (FSp K sp_joined_column))
 (O_share:Ok P w K mg base "share" 3 ["top","bottom"] (PSp K sp_share))
 : Ok P w K mg base "parts_of" 4 ["group","glass"] (PSp K sp_parts_of):=by
  refine F.vok sc_parts_of (by rintro ds q ⟨_,_,_,_,h,_⟩;rw [h];rfl) fun f cdv A outer s H E hr ds q h=>?_
  obtain ⟨b,R,n,G,rfl,⟨hn,hR,hl,n9,g9,hG,w0,wz⟩,h⟩:=h
  refine ⟨_,(vss_cons (vs_set (i:=2) sc_parts_of.nd (ve_callB (c_sum rfl) T.sum_ L2.boot_sum (va_cons (vf_fz (vf_fn O_joined_column.c (hr.mono (by decide)) (va_cons (ve_var 1) (va_cons (ve_var 0) va_nil)))) va_nil)))
   (vss_one (vs_ret (vf_fz (vf_comp (caps:=["group","glass","whole"]) (own:=["sign"]) (ix:=[0,1,2]) rfl ⟨rfl,rfl,rfl,rfl,rfl,rfl⟩ (vi_range1 T.range_ (ve_fn O_signs.c (hr.mono (by decide)) (va_cons (ve_var 1) va_nil))) (fun _ _ _ _=>(vg_name (i:=3) (show List.Nodup (["group","glass","whole","sign"]:List Str) by decide))) (fun _ _ _ _=>(ve_fn O_share.c (hr.mono (by decide)) (va_cons (ve_ifExp (vt_cmp o_inI (ve_var 3) (ve_var 0)) (ve_callB (c_sum rfl) T.sum_ L2.boot_sum (va_cons (vf_fz (vf_fn O_column.c (hr.mono (by decide)) (va_cons (ve_ix (ve_var 1) ve_int) (va_cons (ve_var 3) va_nil)))) va_nil)) ve_int) (va_cons (ve_var 2) va_nil))))))))),?_⟩
  obtain ⟨r0,R0,rfl⟩:=List.exists_cons_of_ne_nil hR
  have l0:r0.length=n:=hn r0 (by simp)
  refine ⟨b,_,_,G,rfl,⟨hl,rfl,g9,fun r hr i hi=>by rw [hn r hr];exact hG i hi⟩,?_⟩
  refine ⟨_,rfl,?_⟩
  refine ⟨b,r0,R0,rfl,?_⟩
  rw [l0]
  refine ⟨⟨by omega,by omega⟩,comp_by ((partsOf (r0::R0) G n).map dS) (by simp [rngD_len,partsOf]) (small1000 (by simp [partsOf];omega)) (fun e => ∃ s,e=[.val (.list (sgD G)),.val (dTab b (r0::R0)),.val (.int (jc (r0::R0) G).sum),s]) ⟨_,rfl⟩ ?_ h⟩
  rintro i x ys e hx hys ⟨s,rfl⟩
  obtain ⟨hi,rfl⟩:=rngD_inv hx
  rw [Int.zero_add]
  have hi':i<n:=by omega
  have g:((partsOf (r0::R0) G n).map dS)[i]?=some (dS (shT (partTop (r0::R0) G i) (jc (r0::R0) G).sum,shB (partTop (r0::R0) G i) (jc (r0::R0) G).sum)):=by
   unfold partsOf
   rw [List.getElem?_map,List.getElem?_map,List.getElem?_range hi'];rfl
  refine ⟨_,_,rfl,sgD_ints G,?_⟩
  cases a:(G.map fun k=>((k:Nat):Int)).any (· == (i:Int)) with
  | true =>
   have hm:=sg_any.mp a
   have e:partTop (r0::R0) G i=(colI (r0::R0) i).sum:=if_pos hm
   rw [e] at g
   exact ⟨_,rfl,_,_,i,rfl,⟨rowsD_tup _,hl,fun r hr=>by rw [hn r hr];exact hi'⟩,_,rfl,⟨w0,wz⟩,snoc_take g hys,_,rfl⟩
  | false =>
   have e:partTop (r0::R0) G i=0:=if_neg fun m=>by rw [sg_any.mpr m] at a;cases a
   rw [e] at g
   exact ⟨⟨w0,wz⟩,snoc_take g hys,_,rfl⟩
theorem jnum_snoc (r:List Int) (G:List Nat) (s:Nat):jnum r (G++[s])=jnum r G+(r[s]?).getD 0:=by
 unfold jnum
 rw [List.map_append,List.sum_append];simp
theorem hit_sum (r:List Int) (k:List Int) (s:Nat) : ∀ gs:List (List Int×List Nat),(gs.map (·.1)).Nodup→(gs.any fun x=>decide (x.1=k))=true→((gs.map fun x=>if x.1=k then (x.1,x.2++[s]) else x).map fun x=>jnum r x.2).sum=(gs.map fun x=>jnum r x.2).sum+(r[s]?).getD 0
 | [],_,h=>by cases h
 | x::gs,hn,h=>by
  rw [List.map_cons,List.nodup_cons] at hn
  rw [List.map_cons,List.map_cons,List.sum_cons,List.map_cons,List.sum_cons]
  by_cases e:x.1=k
  ·have rest:gs.map (fun x=>if x.1=k then (x.1,x.2++[s]) else x)=gs.map id:=List.map_congr_left fun y hy=>if_neg fun z=>hn.1 (List.mem_map.mpr ⟨y,hy,by rw [z,e]⟩)
   rw [rest,List.map_id,if_pos e]
   show jnum r (x.2++[s])+_=_
   rw [jnum_snoc];omega
  ·rw [List.any_cons,decide_eq_false e,Bool.false_or] at h
   rw [hit_sum r k s gs hn.2 h,if_neg e];omega
theorem putG_sum {R:List (List Int)}{gs:List (List Int×List Nat)} (h:GrsOk R gs) (r k:List Int) (s:Nat):((putG gs k s).map fun x=>jnum r x.2).sum=(gs.map fun x=>jnum r x.2).sum+(r[s]?).getD 0:=by
 unfold putG
 split
 ·rename_i ha
  exact hit_sum r k s gs h.ky ha
 ·rw [List.map_append,List.sum_append]
  simp [jnum]
theorem take_sum (r:List Int) (i:Nat):(r.take (i+1)).sum=(r.take i).sum+(r[i]?).getD 0:=by
 rw [List.take_add_one,List.sum_append]
 cases r[i]? <;> simp
theorem grs_sum {R:List (List Int)} (hn : ∀ r ∈ R,∀ x ∈ r,0≤x) {r:List Int} (hr:r ∈ R) : ∀ i,((grs R i).map fun x=>jnum r x.2).sum=(r.take i).sum
 | 0=>by simp [grs]
 | i+1=>by
  rw [take_sum,← grs_sum hn hr i]
  show ((if (colI R i).any (· != 0)=true then putG (grs R i) (nrm (colI R i)) i else grs R i).map fun x=>jnum r x.2).sum=_
  split
  ·exact putG_sum (grs_ok hn i) r _ i
  ·rename_i ea
   have:(r[i]?).getD 0=0:=Classical.byContradiction fun z=>ea (List.any_eq_true.mpr ⟨_,by unfold colI;exact List.mem_map.mpr ⟨r,hr,rfl⟩,by simpa using z⟩)
   omega
theorem pm_map {α:Type}{n:Nat}{p:Array Nat} (h:PmN n p) (f:Nat→α):(p.toList.map f).Perm ((List.range n).map f):=h.p.map f
theorem grAt_list (R:List (List Int)) (n:Nat):(List.range (grs R n).length).map (fun i=>grAt R n i)=(grs R n).map (·.2):=by
 refine List.ext_getElem? fun i=>?_
 by_cases hi:i<(grs R n).length
 ·rw [List.getElem?_map,List.getElem?_range hi,List.getElem?_map,List.getElem?_eq_getElem hi]
  show some (grAt R n i)=some _
  unfold grAt
  rw [List.getElem?_eq_getElem hi];rfl
 ·rw [List.getElem?_eq_none (by simp;omega),List.getElem?_eq_none (by simp;omega)]
structure GsOk (R:List (List Int)) (n:Nat) (Gs:List (List Nat)):Prop where
 len:Gs.length≤n
 ne : ∀ G ∈ Gs,G≠[]
 le : ∀ G ∈ Gs,G.length≤n
 lt : ∀ G ∈ Gs,∀ s ∈ G,s<n
 co : ∀ G ∈ Gs,Col (jc R G)
 sum : ∀ r ∈ R,r.length=n→(Gs.map fun G=>jnum r G).sum=r.sum
theorem gs_ok {R:List (List Int)} (hn : ∀ r ∈ R,∀ x ∈ r,0≤x) {n:Nat}{p:Array Nat} (hp:PmN (grs R n).length p):GsOk R n (p.toList.map fun i=>grAt R n i):=by
 have pm:=pm_map hp fun i=>grAt R n i
 rw [grAt_list] at pm
 have h:=grs_ok hn n
 have mem : ∀ G ∈ p.toList.map (fun i=>grAt R n i),∃ x ∈ grs R n,x.2=G:=fun G hG=>List.mem_map.mp (pm.mem_iff.mp hG)
 refine ⟨?_,fun G hG=>?_,fun G hG=>?_,fun G hG=>?_,fun G hG=>?_,fun r hr hl=>?_⟩
 ·rw [pm.length_eq,List.length_map];exact grs_len R n
 ·obtain ⟨x,hx,rfl⟩:=mem G hG
  exact h.ne x hx
 ·obtain ⟨x,hx,rfl⟩:=mem G hG
  exact grs_le R n x hx
 ·obtain ⟨x,hx,rfl⟩:=mem G hG
  exact grs_lt R n x hx
 ·obtain ⟨x,hx,rfl⟩:=mem G hG
  exact (jc_nrm (h.ne x hx) (h.me x hx)).2
 ·rw [perm_sum (pm.map fun G=>jnum r G),List.map_map]
  have e:=grs_sum hn hr n
  rw [← hl,List.take_length] at e
  rw [← hl]
  exact e
def jRow (Gs:List (List Nat)) (r:List Int):List Int:=Gs.map fun G=>jnum r G
def GrsOf (R:List (List Int)) (n:Nat) (Gs:List (List Nat)):Prop := ∃ p:Array Nat,PmN (grs R n).length p∧SrtN (keyLess (fun i=>jc R (grAt R n i)) R.length) p (grs R n).length∧Gs=p.toList.map fun i=>grAt R n i
def formOf (b:Int) (R:List (List Int)) (Gs:List (List Nat)):PyData:=dTab (b/gTab (R.map (jRow Gs))) (divT (R.map (jRow Gs)) (gTab (R.map (jRow Gs))))
def thereOf (n:Nat) (Gs:List (List Nat)):PyData:=dTab 1 ((List.range n).map fun s=>oneRow (placeOf Gs s) Gs.length)
def sp_least (ds:List PyData) (q:PyData→Prop):Prop := ∃ (b:Int) (R:List (List Int)) (n:Nat),ds=[dTab b R]∧(Tab b R n∧R≠[]∧R.length≤12∧1≤n∧n≤12∧intBits b≤200) ∧ ∀ Gs B,GrsOf R n Gs→LcmB (Gs.map fun G=>partsOf R G n) B→q (.tuple [formOf b R Gs,thereOf n Gs,dTab B ((Gs.map fun G=>partsOf R G n).map (overB B))])
theorem jnum_nn {r:List Int} (h : ∀ x ∈ r,0≤x) : ∀ G:List Nat,0≤jnum r G
 | []=>by simp [jnum]
 | i::G=>by
  have e:jnum r (i::G)=(r[i]?).getD 0+jnum r G:=by unfold jnum;rw [List.map_cons,List.sum_cons]
  have:=jnum_nn h G
  have:0≤(r[i]?).getD 0:=by
   cases q:r[i]? with
   | none=>exact Int.le_refl _
   | some x=>exact h x (List.mem_of_getElem? q)
  omega
theorem jTab {b:Int}{R:List (List Int)}{n:Nat}{Gs:List (List Nat)} (hT:Tab b R n) (g:GsOk R n Gs):Tab b (R.map (jRow Gs)) Gs.length:=by
 refine ⟨hT.pos,fun r hr=>?_,fun r hr x hx=>?_,fun r hr=>?_⟩
 ·obtain ⟨r0,_,rfl⟩:=List.mem_map.mp hr
  unfold jRow;rw [List.length_map]
 ·obtain ⟨r0,h0,rfl⟩:=List.mem_map.mp hr
  obtain ⟨G,_,rfl⟩:=List.mem_map.mp hx
  exact jnum_nn (hT.nn r0 h0) G
 ·obtain ⟨r0,h0,rfl⟩:=List.mem_map.mp hr
  exact (g.sum r0 h0 (hT.len r0 h0)).trans (hT.sum r0 h0)
theorem jc_sum {b:Int}{R:List (List Int)}{n:Nat}{Gs:List (List Nat)} (hT:Tab b R n) (g:GsOk R n Gs) {G:List Nat} (hG:G ∈ Gs):0<(jc R G).sum∧(jc R G).sum≤b*R.length:=by
 have c:=g.co G hG
 constructor
 ·obtain ⟨x,hx,z⟩:=c.nz
  have:=c.nn x hx
  have:=mem_le_sum c.nn hx
  omega
 ·have key : ∀ R':List (List Int),(∀ r ∈ R',r ∈ R)→(jc R' G).sum≤b*R'.length:=by
   intro R'
   induction R' with
   | nil=>intro _;simp [jc]
   | cons r R' ih =>
    intro h
    have h1:jnum r G≤b:=by
     have hr:=h r (by simp)
     have e:=(g.sum r hr (hT.len r hr)).trans (hT.sum r hr)
     rw [← e]
     exact mem_le_sum (r:=Gs.map fun G=>jnum r G) (fun x hx=>by obtain ⟨G',_,rfl⟩:=List.mem_map.mp hx;exact jnum_nn (hT.nn r hr) G') (List.mem_map.mpr ⟨G,hG,rfl⟩)
    have h2:=ih fun r hr=>h r (List.mem_cons_of_mem _ hr)
    have e:(jc (r::R') G).sum=jnum r G+(jc R' G).sum:=by unfold jc;rw [List.map_cons,List.sum_cons];rfl
    rw [e,List.length_cons]
    push_cast
    rw [Int.mul_add,Int.mul_one]
    omega
  exact key R fun r hr=>hr
theorem prod_ok : ∀ (ws:List Int),(∀ w ∈ ws,0<w∧w≤2^204)→0<ws.foldr (· * ·) 1∧(ws.foldr (· * ·) 1).natAbs≤(2^204)^ws.length ∧ ∀ w ∈ ws,w∣ws.foldr (· * ·) 1
 | [],_=>⟨by decide,by decide,fun w hw=>by cases hw⟩
 | w::ws,h=>by
  obtain ⟨a1,a2,a3⟩:=prod_ok ws fun x hx=>h x (List.mem_cons_of_mem _ hx)
  obtain ⟨w0,w1⟩:=h w (by simp)
  rw [List.foldr_cons]
  refine ⟨Int.mul_pos w0 a1,?_,fun x hx=>?_⟩
  ·rw [Int.natAbs_mul,List.length_cons,Nat.pow_succ,Nat.mul_comm]
   exact Nat.mul_le_mul a2 (by omega)
  ·rcases List.mem_cons.mp hx with rfl|z
   ·exact Int.dvd_mul_right _ _
   ·exact Int.dvd_trans (a3 x z) (Int.dvd_mul_left _ _)
theorem top_le {b:Int}{R:List (List Int)}{n:Nat} (hT:Tab b R n) (G:List Nat) (k:Nat):0≤partTop R G k∧partTop R G k≤b*R.length:=by
 have b0:=hT.pos
 have p:0≤b*(R.length:Int):=Int.mul_nonneg (by omega) (by omega)
 unfold partTop
 split
 ·have key : ∀ R':List (List Int),(∀ r ∈ R',r ∈ R)→0≤(colI R' k).sum∧(colI R' k).sum≤b*R'.length:=by
   intro R'
   induction R' with
   | nil=>intro _;simp [colI]
   | cons r R' ih =>
    intro h
    have hr:=h r (by simp)
    have h1:0≤(r[k]?).getD 0∧(r[k]?).getD 0≤b:=by
     cases q:r[k]? with
     | none=>exact ⟨Int.le_refl _,by show (0:Int)≤b;omega⟩
     | some x =>
      have xm:=List.mem_of_getElem? q
      refine ⟨hT.nn r hr x xm,?_⟩
      rw [← hT.sum r hr]
      exact mem_le_sum (hT.nn r hr) xm
    have h2:=ih fun r hr=>h r (List.mem_cons_of_mem _ hr)
    have e:(colI (r::R') k).sum=(r[k]?).getD 0+(colI R' k).sum:=by unfold colI;rw [List.map_cons,List.sum_cons]
    rw [e,List.length_cons]
    push_cast
    rw [Int.mul_add,Int.mul_one]
    omega
  exact key R fun r hr=>hr
 ·exact ⟨Int.le_refl _,p⟩
theorem sc_least:FnScope ["glass","groups","form","there","back"] ["glass"] (defScope s_least):=sc0
theorem ok_least (F:Def K mg "least" s_least ["glass"]) (T:Txt K mg cs)
 (O_table_of_shares:Ok P w K mg base "table_of_shares" 2 ["rows"] (PSp K sp_table_of_shares))
 (O_signs:Ok P w K mg base "signs" 1 ["glass"] (PSp K sp_signs))
 (O_lowest_table:Ok P w K mg base "lowest_table" 3 ["bottom","rows"] (PSp K sp_lowest_table))
 (O_one_sign:Ok P w K mg base "one_sign" 1 ["place","many"] (PSp K sp_one_sign))
 (O_sorted_groups:Ok P w K mg base "sorted_groups" 4 ["glass"] (TaSp [cs.tb] (PSp K sp_sorted_groups)))
 (O_joined_numbers:Ok P w K mg base "joined_numbers" 2 ["row","groups"] (PSp K sp_joined_numbers))
 (O_place_of:Ok P w K mg base "place_of" 1 ["sign","groups"] (PSp K sp_place_of))
 (O_parts_of:Ok P w K mg base "parts_of" 4 ["group","glass"] (PSp K sp_parts_of))
 : Ok P w K mg base "least" 5 ["glass"] (TaSp [cs.tb] (PSp K sp_least)):=by
  refine F.tvok sc_least (by rintro ds q ⟨_,_,_,h,_⟩;rw [h];rfl) fun f cdv A outer s H E hr hTb ds q h=>?_
  obtain ⟨b,R,n,rfl,⟨hT,hR,hl,n1,n9,bz⟩,hq⟩:=h
  have b0:=hT.pos
  have b9:b≤2^200:=by have:=intBits_le_iff.mp bz;omega
  have bl : ∀ {x:Int},0≤x→x≤2^204→intBits x≤205:=fun h1 h2=>intBits_le_iff.mpr (by omega)
  refine ⟨_,(vss_cons (vs_set (i:=1) sc_least.nd (ve_fn (O_sorted_groups.t hTb) (hr.mono (by decide)) (va_cons (ve_var 0) va_nil)))
   (vss_cons (vs_set (i:=2) sc_least.nd (ve_fn O_lowest_table.c (hr.mono (by decide)) (va_cons (ve_ix (ve_var 0) ve_int) (va_cons (vf_fz (vf_comp (caps:=["groups"]) (own:=["row"]) (ix:=[1]) rfl ⟨rfl,rfl,rfl,rfl,rfl,rfl⟩ (vi_seq (ve_ix (ve_var 0) ve_int)) (fun _ _ _ _=>(vg_name (i:=1) (show List.Nodup (["groups","row"]:List Str) by decide))) (fun _ _ _ _=>(ve_fn O_joined_numbers.c (hr.mono (by decide)) (va_cons (ve_var 1) (va_cons (ve_var 0) va_nil)))))) va_nil))))
   (vss_cons (vs_set (i:=3) sc_least.nd (ve_tup (va_cons ve_int (va_cons (ve_callTy c_tuple T.tuple_ L2.boot_tuple (va_cons (vf_fz (vf_comp (caps:=["groups"]) (own:=["sign"]) (ix:=[1]) rfl ⟨rfl,rfl,rfl,rfl,rfl,rfl⟩ (vi_range1 T.range_ (ve_fn O_signs.c (hr.mono (by decide)) (va_cons (ve_var 0) va_nil))) (fun _ _ _ _=>(vg_name (i:=1) (show List.Nodup (["groups","sign"]:List Str) by decide))) (fun _ _ _ _=>(ve_fn O_one_sign.c (hr.mono (by decide)) (va_cons (ve_fn O_place_of.c (hr.mono (by decide)) (va_cons (ve_var 1) (va_cons (ve_var 0) va_nil))) (va_cons (ve_callB c_len T.len_ L2.boot_len (va_cons (ve_var 0) va_nil)) va_nil)))))) va_nil)) va_nil))))
   (vss_cons (vs_set (i:=4) sc_least.nd (ve_fn O_table_of_shares.c (hr.mono (by decide)) (va_cons (vf_fz (vf_comp (caps:=["glass"]) (own:=["group"]) (ix:=[0]) rfl ⟨rfl,rfl,rfl,rfl,rfl,rfl⟩ (vi_seq (ve_var 1)) (fun _ _ _ _=>(vg_name (i:=1) (show List.Nodup (["glass","group"]:List Str) by decide))) (fun _ _ _ _=>(ve_fn O_parts_of.c (hr.mono (by decide)) (va_cons (ve_var 1) (va_cons (ve_var 0) va_nil)))))) va_nil)))
   (vss_one (vs_ret (ve_tup (va_cons (ve_var 2) (va_cons (ve_var 3) (va_cons (ve_var 4) va_nil)))))))))),?_⟩
  refine ⟨b,R,n,rfl,⟨hT,hR,by omega,by omega,by omega⟩,fun p0 hp0 hs0=>?_⟩
  obtain ⟨Gs,eGs⟩ : ∃ Gs,Gs=p0.toList.map fun i=>grAt R n i:=⟨_,rfl⟩
  have hG:GrsOf R n Gs:=⟨p0,hp0,hs0,eGs⟩
  rw [← eGs]
  clear eGs hs0 hp0
  obtain ⟨p,hp,hs,eG⟩:=id hG
  have gok:GsOk R n Gs:=by rw [eG];exact gs_ok hT.nn hp
  have gl:=gok.len
  have tj:=jTab hT gok
  obtain ⟨r0,R0,eR⟩:=List.exists_cons_of_ne_nil hR
  have l0:r0.length=n:=hT.len r0 (by rw [eR];simp)
  refine ⟨_,rfl,_,rfl,comp_by ((R.map (jRow Gs)).map dRow) (by simp) (small1000 (by simp;omega)) (fun e => ∃ s,e=[.val (.list (grD Gs)),s]) ⟨_,rfl⟩ ?_ ?_⟩
  ·rintro i x ys e hx hys ⟨s,rfl⟩
   rw [List.getElem?_map] at hx
   cases er:R[i]? with
   | none=>rw [er] at hx;cases hx
   | some r =>
    rw [er] at hx;cases hx
    have rm:=List.mem_of_getElem? er
    refine ⟨_,r,Gs,rfl,⟨rfl,by omega,fun G hG=>⟨by have:=gok.le G hG;omega,fun s hs=>by rw [hT.len r rm];exact gok.lt G hG s hs⟩⟩,snoc_take ?_ hys,_,rfl⟩
    rw [List.getElem?_map,List.getElem?_map,er];rfl
  refine ⟨b,_,R.map (jRow Gs),Gs.length,rfl,⟨rowsD_lst _,tj,by simpa using hR,by simp;omega,by omega,by omega⟩,?_⟩
  refine ⟨b,r0,R0,by rw [eR],?_⟩
  rw [l0]
  have lg:(grD Gs).length=Gs.length:=by unfold grD;rw [List.length_map]
  refine ⟨⟨by omega,by omega⟩,comp_by (((List.range n).map fun s=>oneRow (placeOf Gs s) Gs.length).map tRow) (by simp [rngD_len]) (small1000 (by simp;omega)) (fun e => ∃ s,e=[.val (.list (grD Gs)),s]) ⟨_,rfl⟩ ?_ ?_⟩
  ·rintro i x ys e hx hys ⟨s,rfl⟩
   obtain ⟨hi',rfl⟩:=rngD_inv hx
   rw [Int.zero_add]
   have hi2:i<n:=by omega
   refine ⟨i,Gs,rfl,placeOf Gs i,Gs.length,by rw [lg],by omega,snoc_take ?_ hys,_,rfl⟩
   rw [List.getElem?_map,List.getElem?_map,List.getElem?_range hi2];rfl
  refine ⟨by rw [sizeLine_eq];simp,?_⟩
  have wb : ∀ G ∈ Gs,0<(jc R G).sum∧(jc R G).sum≤2^204:=fun G hG=>by
   obtain ⟨a1,a2⟩:=jc_sum hT gok hG
   refine ⟨a1,Int.le_trans a2 ?_⟩
   have:b*R.length≤2^200*12:=Int.mul_le_mul b9 (by omega) (by omega) (by omega)
   omega
  refine comp_by ((Gs.map fun G=>partsOf R G n).map fun V => .list (V.map dS)) (by simp [grD]) (small1000 (by simp;omega)) (fun e => ∃ s,e=[.val (dTab b R),s]) ⟨_,rfl⟩ ?_ ?_
  ·rintro i x ys e hx hys ⟨s,rfl⟩
   obtain ⟨G,hG,rfl⟩:=grD_get hx
   have gm:=List.mem_of_getElem? hG
   obtain ⟨w0,w1⟩:=wb G gm
   refine ⟨b,R,n,G,rfl,⟨hT.len,hR,by omega,by omega,by have:=gok.le G gm;omega,gok.lt G gm,by omega,bits_up (bl (by omega) w1) (by decide)⟩,snoc_take ?_ hys,_,rfl⟩
   rw [List.getElem?_map,List.getElem?_map,hG];rfl
  obtain ⟨d1,d2,d3⟩:=prod_ok (Gs.map fun G=>(jc R G).sum) fun w hw=>by
   obtain ⟨G,hG,rfl⟩:=List.mem_map.mp hw
   exact wb G hG
  refine ⟨_,Gs.map fun G=>partsOf R G n,(Gs.map fun G=>(jc R G).sum).foldr (· * ·) 1,rfl,⟨⟨_,rfl,by simp,fun i x hx=>?_⟩,by simp;omega,fun r hr=>?_,d1,?_⟩,fun B hB=>⟨by rw [sizeLine_eq];simp,hq Gs B hG hB⟩⟩
  ·rw [List.getElem?_map] at hx
   cases e:(Gs.map fun G=>partsOf R G n)[i]? with
   | none=>rw [e] at hx;cases hx
   | some r=>rw [e] at hx;cases hx;exact ⟨r,rfl,rfl⟩
  ·obtain ⟨G,hG,rfl⟩:=List.mem_map.mp hr
   obtain ⟨w0,w1⟩:=wb G hG
   refine ⟨by simp [partsOf];omega,fun x hx=>?_⟩
   obtain ⟨k,_,rfl⟩:=List.mem_map.mp hx
   obtain ⟨t0,t1⟩:=top_le hT G k
   have t2:b*R.length≤2^200*12:=Int.mul_le_mul b9 (by omega) (by omega) (by omega)
   refine ⟨(sh_ok (by omega)).1,shT_bits (bits_up (bl t0 (by omega)) (by decide)),Int.dvd_trans ⟨_,((Int.mul_comm _ _).trans (shB_mul _ _)).symm⟩ (d3 _ (List.mem_map.mpr ⟨G,hG,rfl⟩))⟩
  ·refine intBits_le_of_natAbs (y:=(2^204)^12) ?_ (by decide)
   refine Nat.le_trans d2 ?_
   rw [List.length_map]
   exact Nat.le_trans (Nat.pow_le_pow_right (by decide) (show Gs.length≤12 by omega)) (by decide)
section
variable {b:Int}{R:List (List Int)}{m:Nat}{c:Int}{S:List (List Int)}{n:Nat}{B:Int}{D:List (List Int)}
theorem at2_some {T:List (List Int)}{i j:Nat}{r:List Int}{x:Int} (h:T[i]?=some r) (k:r[j]?=some x):at2 T i j=x:=by
 unfold at2
 rw [h]
 show (r[j]?).getD 0=x
 rw [k];rfl
theorem at2_nn {T:List (List Int)} (h : ∀ r ∈ T,∀ x ∈ r,0≤x) (i j:Nat):0≤at2 T i j:=by
 unfold at2
 cases e:T[i]? with
 | none=>exact Int.le_refl _
 | some r =>
  show 0≤(r[j]?).getD 0
  cases e':r[j]? with
  | none=>exact Int.le_refl _
  | some x=>exact h r (List.mem_of_getElem? e) x (List.mem_of_getElem? e')
theorem row_sumN {r:List Int}{T:List (List Int)}{i:Nat} (h:T[i]?=some r):(sumN r.length fun j=>at2 T i j)=r.sum:=by
 have e1:(List.range r.length).map (fun j=>at2 T i j)=r:=by
  refine List.ext_getElem? fun j=>?_
  rw [List.getElem?_map]
  by_cases hj:j<r.length
  ·rw [List.getElem?_range hj,List.getElem?_eq_getElem hj]
   show some (at2 T i j)=_
   rw [at2_some h (List.getElem?_eq_getElem hj)]
  ·rw [List.getElem?_eq_none (l:=r) (by omega),List.getElem?_eq_none (by simp;omega)];rfl
 have e2:=range_sum (fun j=>at2 T i j) r.length
 rw [e1] at e2
 exact e2.symm
theorem Tab.rs {T:List (List Int)} (h:Tab B T n) {i:Nat} (hi:i<T.length):(sumN n fun j=>at2 T i j)=B:=by
 have e:T[i]?=some T[i]:=List.getElem?_eq_getElem hi
 rw [← h.len _ (List.getElem_mem hi),row_sumN e,h.sum _ (List.getElem_mem hi)]
def mkT (m n:Nat) (f:Nat→Nat→Int):List (List Int):=(List.range m).map fun i=>(List.range n).map fun j=>f i j
theorem mkT_at {m n:Nat}{f:Nat→Nat→Int}{i j:Nat} (hi:i<m) (hj:j<n):at2 (mkT m n f) i j=f i j:=by
 refine at2_some (r:=(List.range n).map fun j=>f i j) ?_ ?_
 ·unfold mkT
  rw [List.getElem?_map,List.getElem?_range hi];rfl
 ·rw [List.getElem?_map,List.getElem?_range hj];rfl
theorem mkT_len (m n:Nat) (f:Nat→Nat→Int):(mkT m n f).length=m:=by simp [mkT]
theorem mkT_tab {m n:Nat}{f:Nat→Nat→Int}{B:Int} (hB:1≤B) (h0 : ∀ i j,i<m→j<n→0≤f i j) (hs : ∀ i,i<m→sumN n (f i)=B):Tab B (mkT m n f) n where
 pos:=hB
 len:=fun r hr=>by
  obtain ⟨i,_,rfl⟩:=List.mem_map.mp hr
  simp
 nn:=fun r hr x hx=>by
  obtain ⟨i,hi,rfl⟩:=List.mem_map.mp hr
  obtain ⟨j,hj,rfl⟩:=List.mem_map.mp hx
  exact h0 i j (List.mem_range.mp hi) (List.mem_range.mp hj)
 sum:=fun r hr=>by
  obtain ⟨i,hi,rfl⟩:=List.mem_map.mp hr
  rw [range_sum]
  exact hs i (List.mem_range.mp hi)
theorem sumN_sw (p q:Nat) (f:Nat→Nat→Int):(sumN p fun i=>sumN q fun j=>f i j)=sumN q fun j=>sumN p fun i=>f i j:=by
 induction p with
 | zero=>exact (sumN_zero fun j _=>rfl).symm
 | succ p ih =>
  show (sumN p fun i=>sumN q fun j=>f i j)+sumN q (fun j=>f p j)=sumN q fun j=>(sumN p fun i=>f i j)+f p j
  rw [ih,sumN_add]
theorem sumN_mono {f g:Nat→Int} : ∀ {n:Nat},(∀ i,i<n→f i≤g i)→sumN n f≤sumN n g
 | 0,_=>Int.le_refl _
 | n+1,h=>by
  show sumN n f+f n≤sumN n g+g n
  have a:=sumN_mono (f:=f) (g:=g) (n:=n) fun i hi=>h i (by omega)
  have b:=h n (by omega)
  omega
theorem Dul.trans {d:Int}{T:List (List Int)}{p:Nat}{C:Int}{E:List (List Int)} (hc:0<c) (hSR:S.length=R.length) (h:Dul b R m c S n B D) (k:Dul c S n d T p C E) :
 Dul b R m d T p (B*C) (mkT m p fun i l=>sumN n fun j=>at2 D i j*at2 E j l):=by
  have hB:=h.t.pos
  have hC:=k.t.pos
  have hBC:0<B*C:=Int.mul_pos (by omega) (by omega)
  refine ⟨mkT_tab (by omega) (fun i l hi hl=>sumN_nonneg fun j hj=>Int.mul_nonneg (at2_nn h.t.nn i j) (at2_nn k.t.nn j l)) (fun i hi=>?_),mkT_len ..,fun s l hs hl=>?_⟩
  ·rw [sumN_sw,sumN_congr (g:=fun j=>C*at2 D i j) fun j hj=>?_,sumN_mul,h.t.rs (by rw [h.l];exact hi),Int.mul_comm]
   rw [sumN_mul,k.t.rs (by rw [k.l];exact hj),Int.mul_comm]
  ·have e1:(sumN m fun i=>at2 R s i*at2 (mkT m p fun i l=>sumN n fun j=>at2 D i j*at2 E j l) i l)=sumN n fun j=>at2 E j l*sumN m fun i=>at2 R s i*at2 D i j:=by
    have a:(sumN m fun i=>at2 R s i*at2 (mkT m p fun i l=>sumN n fun j=>at2 D i j*at2 E j l) i l)=sumN m fun i=>sumN n fun j=>at2 E j l*(at2 R s i*at2 D i j):=sumN_congr fun i hi=>by
     rw [mkT_at hi hl,← sumN_mul]
     exact sumN_congr fun j _=>by grind
    rw [a,sumN_sw]
    exact sumN_congr fun j _=>by rw [sumN_mul]
   rw [e1]
   have e2:c*(sumN n fun j=>at2 E j l*sumN m fun i=>at2 R s i*at2 D i j)=b*B*sumN n fun j=>at2 S s j*at2 E j l:=by
    rw [← sumN_mul,← sumN_mul]
    refine sumN_congr fun j hj=>?_
    have:=h.e s j hs hj
    calc c*(at2 E j l*sumN m fun i=>at2 R s i*at2 D i j)=at2 E j l*(c*sumN m fun i=>at2 R s i*at2 D i j):=by grind
     _=at2 E j l*(at2 S s j*b*B):=by rw [this]
     _=_:=by grind
   have e3:=k.e s l (by rw [hSR];exact hs) hl
   have:c*(d*sumN n fun j=>at2 E j l*sumN m fun i=>at2 R s i*at2 D i j)=c*(at2 T s l*b*(B*C)):=by
    calc c*(d*sumN n fun j=>at2 E j l*sumN m fun i=>at2 R s i*at2 D i j)=d*(c*sumN n fun j=>at2 E j l*sumN m fun i=>at2 R s i*at2 D i j):=by grind
     _=b*B*(d*sumN n fun j=>at2 S s j*at2 E j l):=by rw [e2];grind
     _=b*B*(at2 T s l*c*C):=by rw [e3]
     _=_:=by grind
   exact Int.eq_of_mul_eq_mul_left (by omega) this
theorem Dul.pick {f:Nat→Nat} (hf : ∀ i,i<m→f i<n) (h : ∀ s j,s<R.length→j<n→c*(sumN m fun i=>at2 R s i*if f i=j then 1 else 0)=at2 S s j*b):Dul b R m c S n 1 (mkT m n fun i j=>if f i=j then 1 else 0):=by
 refine ⟨mkT_tab (by decide) (fun i j _ _=>by split <;> decide) (fun i hi=>?_),mkT_len ..,fun s j hs hj=>?_⟩
 ·rw [sumN_one (hf i hi) fun j _ ne=>if_neg (Ne.symm ne),if_pos rfl]
 ·rw [Int.mul_one,← h s j hs hj]
  congr 1
  exact sumN_congr fun i hi=>by rw [mkT_at hi hj]
theorem Dul.same {b b':Int}{R R':List (List Int)}{m:Nat} (h : ∀ s j,s<R.length→j<m→b'*at2 R s j=at2 R' s j*b):Dul b R m b' R' m 1 (mkT m m fun i j=>if i=j then 1 else 0) :=
 Dul.pick (f:=id) (fun i hi=>hi) fun s j hs hj=>by
  rw [sumN_one hj fun i _ ne=>by rw [if_neg (show ¬ id i=j from ne),Int.mul_zero],if_pos (show id j=j from rfl),Int.mul_one,h s j hs hj]
end
def diffs (a:Int) (cs:List Int) (b:Int):List Int:=List.zipWith (fun lo hi=>hi-lo) (a::cs) (cs++[b])
theorem diffs_ok : ∀ (cs:List Int) (a b:Int),cs.Pairwise (· ≤ ·)→(∀ c ∈ cs,a≤c∧c≤b)→a≤b→(diffs a cs b).length=cs.length+1∧(∀ x ∈ diffs a cs b,0≤x)∧(diffs a cs b).sum=b-a
 | [],a,b,_,_,hab=>by simp [diffs];omega
 | c::cs,a,b,hp,h,hab=>by
  have e:diffs a (c::cs) b=(c-a)::diffs c cs b:=rfl
  obtain ⟨h1,h2⟩:=List.pairwise_cons.mp hp
  obtain ⟨q1,q2⟩:=h c (by simp)
  obtain ⟨i1,i2,i3⟩:=diffs_ok cs c b h2 (fun x hx=>⟨h1 x hx,(h x (List.mem_cons_of_mem _ hx)).2⟩) q2
  rw [e]
  refine ⟨by simp [i1],fun x hx=>?_,by rw [List.sum_cons,i3];omega⟩
  rcases List.mem_cons.mp hx with rfl|hx
  ·omega
  ·exact i2 x hx
def splitR (r:List Int) (k s:Int) (at' to:Nat):List Int:=insL ((r.map fun n=>n*k).set at' ((r[at']?).getD 0*s)) to ((r[at']?).getD 0*(k-s))
theorem ins_len {α:Type}{l:List α}{k:Nat}{y:α} (h:k≤l.length):(insL l k y).length=l.length+1:=by
 unfold insL
 simp;omega
theorem ins_sum {l:List Int}{k:Nat}{y:Int}:(insL l k y).sum=l.sum+y:=by
 unfold insL
 have:=congrArg List.sum (List.take_append_drop k l)
 rw [List.sum_append] at this
 rw [List.sum_append,List.sum_cons];omega
theorem ins_mem {l:List Int}{k:Nat}{x y:Int} (h:x ∈ insL l k y):x ∈ l∨x=y:=by
 unfold insL at h
 rcases List.mem_append.mp h with h|h
 ·exact .inl (List.mem_of_mem_take h)
 ·rcases List.mem_cons.mp h with h|h
  ·exact .inr h
  ·exact .inl (List.mem_of_mem_drop h)
theorem set_sum' : ∀ {r:List Int}{i:Nat}{y:Int},i<r.length→(r.set i y).sum=r.sum-(r[i]?).getD 0+y
 | x::r,0,y,h=>by simp;omega
 | x::r,i+1,y,h=>by
  have h':i<r.length:=by simpa using h
  rw [List.set_cons_succ,List.sum_cons,List.sum_cons,set_sum' h',List.getElem?_cons_succ];omega
theorem mulr_sum (k:Int) : ∀ (r:List Int),(r.map fun x=>x*k).sum=r.sum*k
 | []=>by simp
 | x::r=>by rw [List.map_cons,List.sum_cons,List.sum_cons,mulr_sum k r,Int.add_mul]
theorem split_ok {r:List Int}{k s:Int}{a t:Nat} (ha:a<r.length) (ht:t≤r.length) (hr : ∀ x ∈ r,0≤x) (s0:0≤s) (sk:s≤k):(splitR r k s a t).length=r.length+1∧(∀ x ∈ splitR r k s a t,0≤x)∧(splitR r k s a t).sum=r.sum*k:=by
 unfold splitR
 have hl:((r.map fun n=>n*k).set a ((r[a]?).getD 0*s)).length=r.length:=by simp
 have hra:0≤(r[a]?).getD 0:=by rw [List.getElem?_eq_getElem ha];exact hr _ (List.getElem_mem ha)
 refine ⟨by rw [ins_len (by omega),hl],fun x hx=>?_,?_⟩
 ·rcases ins_mem hx with hx|rfl
  ·rcases List.mem_or_eq_of_mem_set hx with hx|rfl
   ·obtain ⟨y,hy,rfl⟩:=List.mem_map.mp hx
    exact Int.mul_nonneg (hr y hy) (by omega)
   ·exact Int.mul_nonneg hra s0
  ·exact Int.mul_nonneg hra (by omega)
 ·rw [ins_sum,set_sum' (by simpa using ha),mulr_sum,List.getElem?_map,List.getElem?_eq_getElem ha]
  simp only [Option.map_some,Option.getD_some]
  grind
theorem divT_at {R:List (List Int)}{g:Int} (g0:g≠0) (h : ∀ r ∈ R,∀ x ∈ r,g∣x) (s j:Nat):g*at2 (divT R g) s j=at2 R s j:=by
 unfold at2 divT
 rw [List.getElem?_map]
 cases e:R[s]? with
 | none=>simp
 | some r =>
  show g*((r.map fun n=>n/g)[j]?).getD 0=(r[j]?).getD 0
  rw [List.getElem?_map]
  cases e':r[j]? with
  | none=>simp
  | some x=>exact Int.mul_ediv_cancel' (h r (List.mem_of_getElem? e) x (List.mem_of_getElem? e'))
theorem low_at {b:Int}{R:List (List Int)}{m:Nat} (h:Tab b R m) (hn:R≠[]) : ∃ g:Int,0<g∧g*(b/gTab R)=b ∧ ∀ s j,g*at2 (divT R (gTab R)) s j=at2 R s j:=by
 have g0:=h.gpos hn
 exact ⟨gTab R,by omega,Int.mul_ediv_cancel' (h.gdvd hn),divT_at (by omega) fun r hr x hx=>gTab_dvd hr hx⟩
def sc (k:Int) (R:List (List Int)):List (List Int):=R.map fun r=>r.map fun n=>k*n
section
variable {b:Int}{R:List (List Int)}{m:Nat}{c:Int}{S:List (List Int)}{n:Nat}{B:Int}{D:List (List Int)}{d:Int}{T:List (List Int)}{p:Nat}
theorem at2_get {s j:Nat}{r:List Int} (h:T[s]?=some r):at2 T s j=(r[j]?).getD 0:=by
 unfold at2
 rw [h];rfl
end
section
variable {b:Int}{R:List (List Int)}{m:Nat}{c:Int}{S:List (List Int)}{n:Nat}{B:Int}{D:List (List Int)}{b' c':Int}{R' S':List (List Int)}
end
def lkl (W:List Int) (T:List (List Int)) (j:Nat):List Int:=List.zipWith (· * ·) W (colI T j)
def belS (W:List Int) (T:List (List Int)) (j:Nat):List (Int×Int):=(lkl W T j).map fun x=>(shT x (lkl W T j).sum,shB x (lkl W T j).sum)
def prtS (W:List Int) (f:Int) (T:List (List Int)) (j:Nat):Int×Int:=(shT (lkl W T j).sum (W.sum*f),shB (lkl W T j).sum (W.sum*f))
def rowB (W:List Int) (f:Int) (T:List (List Int)) (j:Nat):PyData :=.tuple [dS (prtS W f T j),.tuple ((belS W T j).map dS)]
structure Wgt (W:List Int):Prop where
 l2:2≤W.length
 l4:W.length≤4
 w1 : ∀ w ∈ W,1≤w
 w2 : ∀ w ∈ W,w≤1000
section
variable {W:List Int}{f:Int}{T:List (List Int)}{n j s:Nat}
theorem Wgt.at (h:Wgt W) (hs:s<W.length):1≤(W[s]?).getD 0∧(W[s]?).getD 0≤1000:=by
 rw [List.getElem?_eq_getElem hs]
 exact ⟨h.w1 _ (List.getElem_mem hs),h.w2 _ (List.getElem_mem hs)⟩
theorem list_sumN (l:List Int):l.sum=sumN l.length fun s=>(l[s]?).getD 0:=by rw [← range_sum,range_row]
theorem Wgt.sum (h:Wgt W):1≤W.sum∧W.sum≤4000:=by
 have l2:=h.l2
 have l4:=h.l4
 match W,h,l2,l4 with
 | [a,b],h,_,_ =>
  have a1:=h.w1 a (by simp)
  have a2:=h.w2 a (by simp)
  have b1:=h.w1 b (by simp)
  have b2:=h.w2 b (by simp)
  simp only [List.sum_cons,List.sum_nil];omega
 | [a,b,c],h,_,_ =>
  have a1:=h.w1 a (by simp)
  have a2:=h.w2 a (by simp)
  have b1:=h.w1 b (by simp)
  have b2:=h.w2 b (by simp)
  have c1:=h.w1 c (by simp)
  have c2:=h.w2 c (by simp)
  simp only [List.sum_cons,List.sum_nil];omega
 | [a,b,c,d],h,_,_ =>
  have a1:=h.w1 a (by simp)
  have a2:=h.w2 a (by simp)
  have b1:=h.w1 b (by simp)
  have b2:=h.w2 b (by simp)
  have c1:=h.w1 c (by simp)
  have c2:=h.w2 c (by simp)
  have d1:=h.w1 d (by simp)
  have d2:=h.w2 d (by simp)
  simp only [List.sum_cons,List.sum_nil];omega
theorem lkl_len (h:W.length=T.length):(lkl W T j).length=T.length:=by unfold lkl;rw [List.length_zipWith,col_len,h,Nat.min_self]
theorem lkl_get (h:W.length=T.length) (hs:s<T.length):(lkl W T j)[s]?=some ((W[s]?).getD 0*at2 T s j):=by
 have e1:W[s]?=some (W[s]'(by omega)):=List.getElem?_eq_getElem _
 have e2:T[s]?=some T[s]:=List.getElem?_eq_getElem hs
 have e3:(colI T j)[s]?=some ((T[s][j]?).getD 0):=by unfold colI;rw [List.getElem?_map,e2];rfl
 unfold lkl
 rw [zip_get e1 e3,at2_get e2,e1];rfl
theorem lkl_sum (h:W.length=T.length):(lkl W T j).sum=sumN T.length fun s=>(W[s]?).getD 0*at2 T s j:=by
 rw [list_sumN,lkl_len h]
 exact sumN_congr fun s hs=>by rw [lkl_get h hs];rfl
theorem at2_le (hT:Tab f T n) (s j:Nat):0≤at2 T s j∧at2 T s j≤f:=by
 refine ⟨at2_nn hT.nn s j,?_⟩
 have f1:=hT.pos
 by_cases hs:s<T.length
 ·rw [at2_get (List.getElem?_eq_getElem hs)]
  cases e:T[s][j]? with
  | none=>show (0:Int)≤f;omega
  | some x=>exact (hT.le (List.getElem_mem hs) (List.mem_of_getElem? e)).2
 ·have e:at2 T s j=0:=by unfold at2;rw [List.getElem?_eq_none (l:=T) (by omega)];rfl
  rw [e];omega
theorem lkl_mem (hW:Wgt W) (h:W.length=T.length) (hT:Tab f T n) {x:Int} (hx:x ∈ lkl W T j):0≤x∧x≤1000*f:=by
 obtain ⟨s,es⟩:=List.mem_iff_getElem?.mp hx
 have hs:s<T.length:=by rw [← lkl_len (j:=j) h];exact (List.getElem?_eq_some_iff.mp es).1
 rw [lkl_get h hs] at es
 obtain ⟨a1,a2⟩:=hW.at (s:=s) (by omega)
 obtain ⟨b1,b2⟩:=at2_le hT s j
 rw [← Option.some.inj es]
 exact ⟨Int.mul_nonneg (by omega) b1,Int.mul_le_mul a2 b2 b1 (by omega)⟩
theorem lkl_le (hW:Wgt W) (h:W.length=T.length) (hT:Tab f T n):0≤(lkl W T j).sum∧(lkl W T j).sum≤W.sum*f:=by
 have f1:=hT.pos
 rw [lkl_sum h,list_sumN W,h,Int.mul_comm,← sumN_mul]
 refine ⟨sumN_nonneg fun s hs=>Int.mul_nonneg (by have:=(hW.at (s:=s) (by omega)).1;omega) (at2_le hT s j).1,sumN_mono fun s hs=>?_⟩
 rw [Int.mul_comm]
 exact Int.mul_le_mul_of_nonneg_right (at2_le hT s j).2 (by have:=(hW.at (s:=s) (by omega)).1;omega)
theorem bel_get (h:W.length=T.length) (hs:s<T.length):(belS W T j)[s]?=some (shT ((W[s]?).getD 0*at2 T s j) (lkl W T j).sum,shB ((W[s]?).getD 0*at2 T s j) (lkl W T j).sum):=by
 unfold belS
 rw [List.getElem?_map,lkl_get h hs];rfl
theorem bel_len (h:W.length=T.length):(belS W T j).length=T.length:=by unfold belS;rw [List.length_map,lkl_len h]
end
def sp_is_weights (ds:List PyData) (q:PyData→Prop):Prop := ∃ W:List Int,ds=[.tuple (W.map .int)]∧Wgt W∧q (.bool true)
theorem sc_is_weights:FnScope ["thing"] ["thing"] (defScope s_is_weights):=sc0
theorem ok_is_weights (F:Def K mg "is_weights" s_is_weights ["thing"]) (T:Txt K mg cs)
 (O_is_whole:Ok P w K mg base "is_whole" 1 ["thing"] (PSp K sp_is_whole))
 : Ok P w K mg base "is_weights" 2 ["thing"] (PSp K sp_is_weights):=by
  refine F.vok sc_is_weights (by rintro ds q ⟨_,h,_⟩;rw [h];rfl) fun f cdv A outer s H E hr ds q h=>?_
  obtain ⟨W,rfl,hW,h⟩:=h
  refine ⟨_,(vss_cons (vs_if (VW.pt (vw_or (vt_not (vt_val (ve_isi T.isinstance_ T.tuple_ L2.boot_tuple (ve_var 0)))) (vw_or1 (vt_not (vt_chain o_le o_le (ve_globI T.FEWEST_STANDS_) (ve_callB c_len T.len_ L2.boot_len (va_cons (ve_var 0) va_nil)) (ve_globI T.MOST_STANDS_)))))) (vss_one (vs_ret ve_bl)) vss_nil)
   (vss_one (vs_ret (ve_callB (c_all rfl) T.all_ L2.boot_all (va_cons (vf_fz (vf_comp (caps:=[]) (own:=["weight"]) (ix:=[]) rfl ⟨rfl,rfl,rfl,rfl,rfl,rfl⟩ (vi_seq (ve_var 0)) (fun _ _ _ _=>(vg_name (i:=0) (show List.Nodup (["weight"]:List Str) by decide))) (fun _ _ _ _=>(ve_and (ve_fn O_is_whole.c (hr.mono (by decide)) (va_cons (ve_var 0) va_nil)) (ve_one (ve_chain o_le o_le ve_int (ve_var 0) (ve_globI T.MOST_WEIGHT_))))))) va_nil))))),?_⟩
  have l2:=hW.l2
  have l4:=hW.l4
  have lm:(((W.map PyData.int).length:Nat):Int)=W.length:=by simp
  refine iteD (fun _=>?_) (fun z=>(z (by omega)).elim)
  refine iteNS (by omega) ?_
  refine comp_by (W.map fun _=>PyData.bool true) (by simp) (small1000 (by simp;omega)) (fun e => ∃ s,e=[s]) ⟨_,rfl⟩ ?_ ?_
  ·rintro i x ys e hx hys ⟨s,rfl⟩
   obtain ⟨x,rfl,hx,hm⟩:=int_get hx
   have a1:=hW.w1 x hm
   have a2:=hW.w2 x hm
   refine iteD (fun _=>?_) (fun z=>(z (by omega)).elim)
   show ys++[PyData.bool (decide (x≤1000))]=_∧_
   rw [decide_eq_true a2]
   refine ⟨snoc_take ?_ hys,_,rfl⟩
   rw [List.getElem?_map,hx];rfl
  ·refine ⟨W.map fun _=>true,by rw [List.map_map];rfl,?_⟩
   have e:(W.map fun _=>true).all id=true:=by rw [List.all_map];simp
   rw [e]
   exact h
def sp_belief_behind (ds:List PyData) (q:PyData→Prop):Prop := ∃ (b:Int) (R:List (List Int)) (W:List Int) (n j:Nat),ds=[dTab b R,.tuple (W.map .int),.int (j:Nat)]∧(Tab b R n∧W.length=R.length∧Wgt W∧j<n∧b≤100000∧0<(lkl W R j).sum)∧q (rowB W b R j)
theorem sc_belief_behind:FnScope ["glass","weights","sign","likely","belief"] ["glass","weights","sign"] (defScope s_belief_behind):=sc0
theorem ok_belief_behind (F:Def K mg "belief_behind" s_belief_behind ["glass","weights","sign"]) (T:Txt K mg cs)
 (O_column:Ok P w K mg base "column" 1 ["rows","place"] (FSp K sp_column))
 (O_share:Ok P w K mg base "share" 3 ["top","bottom"] (PSp K sp_share))
 : Ok P w K mg base "belief_behind" 4 ["glass","weights","sign"] (PSp K sp_belief_behind):=by
  refine F.vok sc_belief_behind (by rintro ds q ⟨_,_,_,_,_,h,_⟩;rw [h];rfl) fun f cdv A outer s H E hr ds q h=>?_
  obtain ⟨b,R,W,n,j,rfl,⟨hT,hl,hW,hj,hb,hs⟩,h⟩:=h
  refine ⟨_,(vss_cons (vs_set (i:=3) sc_belief_behind.nd (vf_fz (vf_comp (caps:=[]) (own:=["weight","number"]) (ix:=[]) rfl ⟨rfl,rfl,rfl,rfl,rfl,rfl⟩ (vi_zip2 T.zip_ (ve_var 1) (vf_fz (vf_fn O_column.c (hr.mono (by decide)) (va_cons (ve_ix (ve_var 0) ve_int) (va_cons (ve_var 2) va_nil))))) (fun _ _ _ _=>(vg_tup (n:=2) rfl (vgs_cons (vg_name (i:=0) (show List.Nodup (["weight","number"]:List Str) by decide)) (vgs_cons (vg_name (i:=1) (show List.Nodup (["weight","number"]:List Str) by decide)) vgs_nil)))) (fun _ _ _ _=>(ve_op o_mulI (ve_var 0) (ve_var 1))))))
   (vss_cons (vs_set (i:=4) sc_belief_behind.nd (ve_callTy c_tuple T.tuple_ L2.boot_tuple (va_cons (vf_fz (vf_comp (caps:=["likely"]) (own:=["number"]) (ix:=[3]) rfl ⟨rfl,rfl,rfl,rfl,rfl,rfl⟩ (vi_seq (ve_var 3)) (fun _ _ _ _=>(vg_name (i:=1) (show List.Nodup (["likely","number"]:List Str) by decide))) (fun _ _ _ _=>(ve_fn O_share.c (hr.mono (by decide)) (va_cons (ve_var 1) (va_cons (ve_callB (c_sum rfl) T.sum_ L2.boot_sum (va_cons (ve_var 0) va_nil)) va_nil)))))) va_nil)))
   (vss_one (vs_ret (ve_tup (va_cons (ve_fn O_share.c (hr.mono (by decide)) (va_cons (ve_callB (c_sum rfl) T.sum_ L2.boot_sum (va_cons (ve_var 3) va_nil)) (va_cons (ve_op o_mulI (ve_callB (c_sum rfl) T.sum_ L2.boot_sum (va_cons (ve_var 1) va_nil)) (ve_ix (ve_var 0) ve_int)) va_nil))) (va_cons (ve_var 4) va_nil))))))),?_⟩
  have f0:=hT.pos
  have l4:=hW.l4
  obtain ⟨w1,w4⟩:=hW.sum
  obtain ⟨s0,s1⟩:=lkl_le (j:=j) hW hl hT
  have wb:W.sum*b≤4000*100000:=Int.mul_le_mul w4 hb (by omega) (by omega)
  have up : ∀ {x:Int},0≤x→x≤1000000000→intBits x≤64:=fun h1 h2=>bits64 (by omega) (by omega)
  refine ⟨_,rfl,_,R,j,rfl,⟨rowsD_tup _,by omega,fun r hr=>by rw [hT.len r hr];exact hj⟩,?_⟩
  refine comp_by ((lkl W R j).map .int) (by simp [zipD_len,lkl,col_len]) (small1000 (by rw [List.length_map,lkl_len hl];omega)) (fun e => ∃ s t,e=[s,t]) ⟨_,_,rfl⟩ ?_ ?_
  ·rintro i x ys e hx hys ⟨s,t,rfl⟩
   obtain ⟨x,y,h3,h4,rfl⟩:=zipD_inv hx
   obtain ⟨x,rfl,h5,m5⟩:=int_get h3
   obtain ⟨y,rfl,h6,m6⟩:=int_get h4
   have a1:=hW.w1 x m5
   have a2:=hW.w2 x m5
   have zy:0≤y∧y≤b:=by
    rcases col_mem m6 with rfl|⟨d,hd,hy⟩
    ·omega
    ·exact hT.le hd hy
   refine ⟨rfl,rfl,mulok (bits_up (up (by omega) (by omega)) (by decide)) (bits_up (up (by omega) (by omega)) (by decide)),snoc_take ?_ hys,_,_,rfl⟩
   rw [List.getElem?_map]
   unfold lkl
   rw [zip_get h5 h6];rfl
  refine comp_by ((belS W R j).map dS) (by simp [belS]) (small1000 (by rw [List.length_map,bel_len hl];omega)) (fun e => ∃ t,e=[.val (.list ((lkl W R j).map .int)),t]) ⟨_,rfl⟩ ?_ ?_
  ·rintro i x ys e hx hys ⟨t,rfl⟩
   obtain ⟨x,rfl,h5,m5⟩:=int_get hx
   refine ⟨_,rfl,⟨by omega,bits_up (up (by omega) (by omega)) (by decide)⟩,snoc_take ?_ hys,_,rfl⟩
   rw [List.getElem?_map]
   unfold belS
   rw [List.getElem?_map,h5];rfl
  exact ⟨_,rfl,_,rfl,_,rfl,mulok (bits_up (up (by omega) (by omega)) (by decide)) (bits_up (up (by omega) (by omega)) (by decide)),⟨Int.ne_of_gt (Int.mul_pos (by omega) (by omega)),bits_up (up (Int.mul_nonneg (by omega) (by omega)) (by omega)) (by decide)⟩,szl,h⟩
theorem putG_mem {gs:List (List Int×List Nat)}{k:List Int}{s t:Nat} (h:(∃ x ∈ gs,s ∈ x.2)∨s=t) : ∃ x ∈ putG gs k t,s ∈ x.2:=by
 unfold putG
 split
 ·rename_i ha
  rcases h with ⟨x,hx,hs⟩|rfl
  ·refine ⟨_,List.mem_map.mpr ⟨x,hx,rfl⟩,?_⟩
   split
   ·exact List.mem_append_left _ hs
   ·exact hs
  ·obtain ⟨x,hx,e⟩:=List.any_eq_true.mp ha
   refine ⟨_,List.mem_map.mpr ⟨x,hx,rfl⟩,?_⟩
   rw [if_pos (of_decide_eq_true e)]
   simp
 ·rcases h with ⟨x,hx,hs⟩|rfl
  ·exact ⟨x,List.mem_append_left _ hx,hs⟩
  ·exact ⟨_,List.mem_append_right _ (List.mem_singleton.mpr rfl),by simp⟩
theorem grs_all (R:List (List Int)) : ∀ n s,s<n→(colI R s).any (· != 0)=true → ∃ x ∈ grs R n,s ∈ x.2
 | 0,s,h,_=>by omega
 | n+1,s,h,ea=>by
  unfold grs
  by_cases e:s=n
  ·subst e;rw [if_pos ea];exact putG_mem (.inr rfl)
  ·have ih:=grs_all R n s (by omega) ea
   split
   ·exact putG_mem (.inl ih)
   ·exact ih
theorem grs_nd (R:List (List Int)) : ∀ n,∀ x ∈ grs R n,x.2.Nodup
 | 0,x,hx=>by cases hx
 | n+1,x,hx=>by
  unfold grs at hx
  split at hx
  ·unfold putG at hx
   split at hx
   ·obtain ⟨y,hy,rfl⟩:=List.mem_map.mp hx
    have ih:=grs_nd R n y hy
    have lt:=grs_lt R n y hy
    split
    ·refine List.nodup_append.mpr ⟨ih,by simp,fun a ha b hb=>?_⟩
     have:=lt a ha
     have:=List.mem_singleton.mp hb
     omega
    ·exact ih
   ·rcases List.mem_append.mp hx with z|z
    ·exact grs_nd R n x z
    ·rw [List.mem_singleton.mp z];simp
  ·exact grs_nd R n x hx
structure GsPart (R:List (List Int)) (n:Nat) (Gs:List (List Nat)):Prop where
 nd : ∀ G ∈ Gs,G.Nodup
 all : ∀ s,s<n→(colI R s).any (· != 0)=true → ∃ G ∈ Gs,s ∈ G
 one : ∀ (a b:Nat) (G G':List Nat) (s:Nat),Gs[a]?=some G→Gs[b]?=some G'→s ∈ G→s ∈ G'→a=b
 pr : ∀ G ∈ Gs,∀ s ∈ G,Col (colI R s)∧nrm (colI R s)=nrm (jc R G)
theorem gs_part {R:List (List Int)} (hn : ∀ r ∈ R,∀ x ∈ r,0≤x) {n:Nat}{p:Array Nat} (hp:PmN (grs R n).length p):GsPart R n (p.toList.map fun i=>grAt R n i):=by
 have pm:=pm_map hp fun i=>grAt R n i
 rw [grAt_list] at pm
 have h:=grs_ok hn n
 have mem : ∀ G ∈ p.toList.map (fun i=>grAt R n i),∃ x ∈ grs R n,x.2=G:=fun G hG=>List.mem_map.mp (pm.mem_iff.mp hG)
 have nd:p.toList.Nodup:=hp.p.nodup_iff.mpr List.nodup_range
 refine ⟨fun G hG=>?_,fun s hs ea=>?_,fun a b G G' s ea eb ha hb=>?_,fun G hG s hs=>?_⟩
 ·obtain ⟨x,hx,rfl⟩:=mem G hG
  exact grs_nd R n x hx
 ·obtain ⟨x,hx,hs⟩:=grs_all R n s hs ea
  exact ⟨x.2,pm.mem_iff.mpr (List.mem_map.mpr ⟨x,hx,rfl⟩),hs⟩
 ·rw [List.getElem?_map] at ea eb
  cases e1:p.toList[a]? with
  | none=>rw [e1] at ea;cases ea
  | some i =>
   cases e2:p.toList[b]? with
   | none=>rw [e2] at eb;cases eb
   | some j =>
    rw [e1] at ea
    rw [e2] at eb
    cases ea
    cases eb
    have hi:i<(grs R n).length:=List.mem_range.mp (hp.p.mem_iff.mp (List.mem_of_getElem? e1))
    have hj:j<(grs R n).length:=List.mem_range.mp (hp.p.mem_iff.mp (List.mem_of_getElem? e2))
    have gi : ∀ {i:Nat} (hi:i<(grs R n).length),grAt R n i=(grs R n)[i].2:=fun {i} hi=>by unfold grAt;rw [List.getElem?_eq_getElem hi];rfl
    have ha:s ∈ grAt R n i:=ha
    have hb:s ∈ grAt R n j:=hb
    rw [gi hi] at ha
    rw [gi hj] at hb
    have k1:=(h.me _ (List.getElem_mem hi) s ha).2
    have k2:=(h.me _ (List.getElem_mem hj) s hb).2
    have ij:i=j:=by
     have q:(grs R n)[i].1=(grs R n)[j].1:=k1.symm.trans k2
     have z:=h.ky
     refine (List.getElem?_inj (i:=i) (j:=j) (by simpa using hi) z).mp ?_
     rw [List.getElem?_map,List.getElem?_map,List.getElem?_eq_getElem hi,List.getElem?_eq_getElem hj]
     exact congrArg some q
    subst ij
    exact (List.getElem?_inj (List.getElem?_eq_some_iff.mp e1).1 nd).mp (e1.trans e2.symm)
 ·obtain ⟨x,hx,rfl⟩:=mem G hG
  obtain ⟨c,e⟩:=h.me x hx s hs
  exact ⟨c,e.trans (jc_nrm (h.ne x hx) (h.me x hx)).1.symm⟩
theorem jnum_ind (r:List Int) {n:Nat} : ∀ {G:List Nat},G.Nodup→(∀ s ∈ G,s<n)→jnum r G=sumN n fun i=>if i ∈ G then (r[i]?).getD 0 else 0
 | [],_,_=>by rw [sumN_zero fun i _=>by rw [if_neg (by simp)]];simp [jnum]
 | s::G,nd,lt=>by
  rw [List.nodup_cons] at nd
  have ih:=jnum_ind r (n:=n) nd.2 fun x hx=>lt x (List.mem_cons_of_mem _ hx)
  have e:jnum r (s::G)=(r[s]?).getD 0+jnum r G:=by unfold jnum;rw [List.map_cons,List.sum_cons]
  have q:(sumN n fun i=>if i ∈ s::G then (r[i]?).getD 0 else 0)=sumN n fun i=>(if i=s then (r[i]?).getD 0 else 0)+if i ∈ G then (r[i]?).getD 0 else 0:=sumN_congr fun i _=>by
   by_cases e1:i=s
   ·subst e1;rw [if_pos (by simp),if_pos rfl,if_neg nd.1,Int.add_zero]
   ·rw [if_neg e1,Int.zero_add]
    by_cases e2:i ∈ G
    ·rw [if_pos (List.mem_cons_of_mem _ e2),if_pos e2]
    ·rw [if_neg (by simp [e1,e2]),if_neg e2]
  rw [e,ih,q,sumN_add,sumN_one (lt s (by simp)) fun i _ ne=>if_neg ne,if_pos rfl]
theorem jrow_at {R:List (List Int)}{Gs:List (List Nat)}{s l:Nat}{r:List Int}{G:List Nat} (hs:R[s]?=some r) (hl:Gs[l]?=some G):at2 (R.map (jRow Gs)) s l=jnum r G:=by
 refine at2_some (r:=jRow Gs r) (by rw [List.getElem?_map,hs];rfl) ?_
 unfold jRow
 rw [List.getElem?_map,hl];rfl
theorem unseen {R:List (List Int)}{i s:Nat} (h : ¬ (colI R i).any (· != 0)=true) (hs:s<R.length):at2 R s i=0:=by
 have e:R[s]?=some R[s]:=List.getElem?_eq_getElem hs
 rw [at2_get e]
 refine Classical.byContradiction fun z=>h (List.any_eq_true.mpr ⟨_,?_,by simpa using z⟩)
 unfold colI
 exact List.mem_map.mpr ⟨_,List.getElem_mem hs,rfl⟩
theorem placeOf_in {Gs:List (List Nat)}{s:Nat} (h : ∃ G ∈ Gs,s ∈ G) : ∃ G,Gs[placeOf Gs s]?=some G∧s ∈ G:=by
 unfold placeOf
 cases e:Gs.findIdx? (fun G=>G.contains s) with
 | none =>
  rw [List.findIdx?_eq_none_iff] at e
  obtain ⟨G,hG,hs⟩:=h
  have:=e G hG
  simp at this
  exact (this hs).elim
 | some i =>
  rw [List.findIdx?_eq_some_iff_getElem] at e
  obtain ⟨hi,q,_⟩:=e
  exact ⟨Gs[i],List.getElem?_eq_getElem hi,by simpa using q⟩
theorem placeOf_lt {Gs:List (List Nat)}{s:Nat} (h:Gs≠[]):placeOf Gs s<Gs.length:=by
 by_cases e : ∃ G ∈ Gs,s ∈ G
 ·obtain ⟨G,hG,_⟩:=placeOf_in e
  exact (List.getElem?_eq_some_iff.mp hG).1
 ·rw [placeOf_none fun G hG z=>e ⟨G,hG,z⟩]
  exact List.length_pos_iff.mpr h
section
variable {b:Int}{R:List (List Int)}{n:Nat}{Gs:List (List Nat)}
theorem gs_ne (hT:Tab b R n) (hR:R≠[]) (g:GsOk R n Gs):Gs≠[]:=fun z=>by
 obtain ⟨r,R',rfl⟩:=List.exists_cons_of_ne_nil hR
 have:=g.sum r (by simp) (hT.len r (by simp))
 rw [z,hT.sum r (by simp)] at this
 have:=hT.pos
 simp at *
 omega
theorem least_dul (hT:Tab b R n) (hR:R≠[]) (g:GsOk R n Gs) (h:GsPart R n Gs):Dul b R n b (R.map (jRow Gs)) Gs.length 1 (mkT n Gs.length fun i j=>if placeOf Gs i=j then 1 else 0):=by
 refine Dul.pick (fun i hi=>placeOf_lt (gs_ne hT hR g)) fun s l hs hl=>?_
 have e1:R[s]?=some R[s]:=List.getElem?_eq_getElem hs
 have e2:Gs[l]?=some Gs[l]:=List.getElem?_eq_getElem hl
 have m2:=List.getElem_mem hl
 rw [jrow_at e1 e2,jnum_ind R[s] (n:=n) (h.nd _ m2) (g.lt _ m2),Int.mul_comm]
 congr 1
 refine sumN_congr fun i hi=>?_
 rw [at2_get e1]
 by_cases hm:i ∈ Gs[l]
 ·have:placeOf Gs i=l:=by
   obtain ⟨G,hG,hi'⟩:=placeOf_in ⟨_,m2,hm⟩
   exact h.one _ _ _ _ i hG e2 hi' hm
  rw [if_pos hm,if_pos this,Int.mul_one]
 ·rw [if_neg hm]
  by_cases hp:placeOf Gs i=l
  ·rw [if_pos hp,Int.mul_one]
   have:=unseen (R:=R) (i:=i) (s:=s) (fun ea=>hm ?_) hs
   ·rw [at2_get e1] at this;exact this
   ·obtain ⟨G,hG,hi'⟩:=placeOf_in (h.all i hi ea)
    rw [hp,e2] at hG
    cases hG
    exact hi'
  ·rw [if_neg hp,Int.mul_zero]
theorem prp_sum (h:GsPart R n Gs) (g:GsOk R n Gs) {G:List Nat} (hG:G ∈ Gs) {i:Nat} (hi:i ∈ G) {s:Nat}{r:List Int} (hs:R[s]?=some r):jnum r G*(colI R i).sum=(r[i]?).getD 0*(jc R G).sum:=by
 obtain ⟨c,e⟩:=h.pr G hG i hi
 have pr:=prp_of_nrm e
 have k1:(jc R G)[s]?=some (jnum r G):=by unfold jc;rw [List.getElem?_map,hs];rfl
 have k2:(colI R i)[s]?=some ((r[i]?).getD 0):=by unfold colI;rw [List.getElem?_map,hs];rfl
 have key : ∀ (u v:List Int) (x y:Int),u.length=v.length→(∀ (j:Nat) (a d:Int),u[j]?=some a→v[j]?=some d→x*a=y*d)→x*u.sum=y*v.sum:=by
  intro u
  induction u with
  | nil=>intro v x y hl _;cases v with
   | nil=>simp
   | cons _ _=>simp at hl
  | cons a u ih =>
   intro v x y hl hh
   cases v with
   | nil=>simp at hl
   | cons d v =>
    rw [List.sum_cons,List.sum_cons,Int.mul_add,Int.mul_add,hh 0 a d rfl rfl,ih v x y (by simpa using hl) fun j a d h1 h2=>hh (j+1) a d (by simpa using h1) (by simpa using h2)]
 refine key _ _ _ _ (by unfold colI jc;rw [List.length_map,List.length_map]) fun j a d ha hd=>?_
 have:=pr s j _ _ _ _ k2 ha k1 hd
 grind
theorem least_back (hT:Tab b R n) (hR:R≠[]) (g:GsOk R n Gs) (h:GsPart R n Gs) {B:Int} (B0:0<B) (hdv : ∀ r ∈ Gs.map (fun G=>partsOf R G n),∀ x ∈ r,x.2∣B):Dul b (R.map (jRow Gs)) Gs.length b R n B ((Gs.map fun G=>partsOf R G n).map (overB B)):=by
 have jp : ∀ G ∈ Gs,0<(jc R G).sum:=fun G hG=>(jc_sum hT g hG).1
 have atD : ∀ {l i:Nat}{G:List Nat},Gs[l]?=some G→i<n→at2 ((Gs.map fun G=>partsOf R G n).map (overB B)) l i*(jc R G).sum=B*partTop R G i:=fun {l i G} hl hi=>by
  have hG:=List.mem_of_getElem? hl
  have w0:=jp G hG
  obtain ⟨s1,e1⟩:=sh_ok (t:=partTop R G i) (b:=(jc R G).sum) (by omega)
  have dv:shB (partTop R G i) (jc R G).sum∣B:=hdv _ (List.mem_map.mpr ⟨G,hG,rfl⟩) (shT (partTop R G i) (jc R G).sum,shB (partTop R G i) (jc R G).sum) (List.mem_map.mpr ⟨i,List.mem_range.mpr hi,rfl⟩)
  rw [at2_some (r:=overB B (partsOf R G n)) (x:=shT (partTop R G i) (jc R G).sum*(B/shB (partTop R G i) (jc R G).sum)) (by rw [List.getElem?_map,List.getElem?_map,hl];rfl) (by unfold overB partsOf;rw [List.getElem?_map,List.getElem?_map,List.getElem?_range hi];rfl)]
  have q1:=s1.pos
  have e2:=Int.mul_ediv_cancel' dv
  generalize shT (partTop R G i) (jc R G).sum=x at *
  generalize shB (partTop R G i) (jc R G).sum=y at *
  generalize B/y=k at *
  rw [← e2]
  grind
 have tsum : ∀ G ∈ Gs,(sumN n fun i=>partTop R G i)=(jc R G).sum:=fun G hG=>by
  have e:(sumN n fun i=>partTop R G i)=sumN n fun i=>sumN R.length fun s=>if i ∈ G then at2 R s i else 0:=sumN_congr fun i hi=>by
   unfold partTop
   split
   ·unfold colI
    rw [← range_sum]
    congr 1
    refine List.ext_getElem? fun s=>?_
    rw [List.getElem?_map,List.getElem?_map]
    by_cases hs:s<R.length
    ·rw [List.getElem?_range hs,List.getElem?_eq_getElem hs]
     show some _=some (at2 R s i)
     rw [at2_get (List.getElem?_eq_getElem hs)]
    ·rw [List.getElem?_eq_none (by omega),List.getElem?_eq_none (by simp;omega)];rfl
   ·exact (sumN_zero fun _ _=>rfl).symm
  rw [e,sumN_sw]
  unfold jc
  rw [← range_sum]
  congr 1
  refine List.ext_getElem? fun s=>?_
  rw [List.getElem?_map,List.getElem?_map]
  by_cases hs:s<R.length
  ·rw [List.getElem?_range hs,List.getElem?_eq_getElem hs]
   show some _=some (jnum R[s] G)
   rw [jnum_ind R[s] (n:=n) (h.nd G hG) (g.lt G hG)]
   refine congrArg some (sumN_congr fun i hi=>?_)
   rw [at2_get (List.getElem?_eq_getElem hs)]
  ·rw [List.getElem?_eq_none (l:=R) (by omega),List.getElem?_eq_none (by simp;omega)];rfl
 have rowOf : ∀ r ∈ (Gs.map fun G=>partsOf R G n).map (overB B),∃ (l:Nat) (G:List Nat),Gs[l]?=some G∧r=(List.range n).map fun i=>at2 ((Gs.map fun G=>partsOf R G n).map (overB B)) l i:=fun r hr=>by
  obtain ⟨l,hl⟩:=List.mem_iff_getElem?.mp hr
  rw [List.map_map,List.getElem?_map] at hl
  cases e:Gs[l]? with
  | none=>rw [e] at hl;cases hl
  | some G =>
   rw [e] at hl
   cases hl
   refine ⟨l,G,e,List.ext_getElem? fun i=>?_⟩
   show (overB B (partsOf R G n))[i]?=_
   rw [List.getElem?_map]
   by_cases hi:i<n
   ·rw [List.getElem?_range hi]
    have g1:(overB B (partsOf R G n))[i]?=some (shT (partTop R G i) (jc R G).sum*(B/shB (partTop R G i) (jc R G).sum)):=by unfold overB partsOf;rw [List.getElem?_map,List.getElem?_map,List.getElem?_range hi];rfl
    rw [g1,← at2_some (T:=(Gs.map fun G=>partsOf R G n).map (overB B)) (i:=l) (by rw [List.getElem?_map,List.getElem?_map,e];rfl) g1];rfl
   ·rw [List.getElem?_eq_none (by unfold overB partsOf;simp;omega),List.getElem?_eq_none (by simp;omega)];rfl
 refine ⟨⟨by omega,fun r hr=>?_,fun r hr x hx=>?_,fun r hr=>?_⟩,by simp,fun s i hs hi=>?_⟩
 ·obtain ⟨l,G,hl,e⟩:=rowOf r hr
  rw [e];simp
 ·obtain ⟨l,G,hl,e⟩:=rowOf r hr
  rw [e] at hx
  obtain ⟨i,hi,rfl⟩:=List.mem_map.mp hx
  have k:=atD hl (List.mem_range.mp hi)
  have w0:=jp G (List.mem_of_getElem? hl)
  have t0:=(top_le hT G i).1
  have:0*(jc R G).sum≤at2 ((Gs.map fun G=>partsOf R G n).map (overB B)) l i*(jc R G).sum:=by rw [k,Int.zero_mul];exact Int.mul_nonneg (by omega) t0
  exact Int.le_of_mul_le_mul_right this w0
 ·obtain ⟨l,G,hl,e⟩:=rowOf r hr
  have hG:=List.mem_of_getElem? hl
  have w0:=jp G hG
  rw [e,range_sum]
  have:(jc R G).sum*(sumN n fun i=>at2 ((Gs.map fun G=>partsOf R G n).map (overB B)) l i)=(jc R G).sum*B:=by
   rw [← sumN_mul,sumN_congr (g:=fun i=>B*partTop R G i) fun i hi=>by rw [Int.mul_comm];exact atD hl hi,sumN_mul,tsum G hG,Int.mul_comm]
  exact Int.eq_of_mul_eq_mul_left (by omega) this
 ·have hs':s<R.length:=by simpa using hs
  have e1:R[s]?=some R[s]:=List.getElem?_eq_getElem hs'
  rw [at2_get e1]
  by_cases ea:(colI R i).any (· != 0)=true
  ·obtain ⟨G,hG,hm⟩:=h.all i hi ea
   obtain ⟨l,hl⟩:=List.mem_iff_getElem?.mp hG
   have ll:=(List.getElem?_eq_some_iff.mp hl).1
   have w0:=jp G hG
   rw [sumN_one ll fun l' hl' ne=>?_]
   ·rw [jrow_at e1 hl]
    have k1:=atD hl hi
    have k2:=prp_sum h g hG hm e1
    have k3:partTop R G i=(colI R i).sum:=if_pos hm
    rw [k3] at k1
    refine Int.eq_of_mul_eq_mul_right (show (jc R G).sum≠0 by omega) ?_
    generalize at2 ((Gs.map fun G=>partsOf R G n).map (overB B)) l i=x at *
    generalize (jc R G).sum=w at *
    calc b*(jnum R[s] G*x)*w=b*(jnum R[s] G*(x*w)):=by grind
     _=b*B*(jnum R[s] G*(colI R i).sum):=by rw [k1];grind
     _=_:=by rw [k2];grind
   ·have el:Gs[l']?=some Gs[l']:=List.getElem?_eq_getElem hl'
    have k1:=atD el hi
    have nm:i ∉ Gs[l']:=fun z=>ne (h.one _ _ _ _ i el hl z hm)
    rw [show partTop R Gs[l'] i=0 from if_neg nm,Int.mul_zero] at k1
    have w1:=jp _ (List.getElem_mem hl')
    rcases Int.mul_eq_zero.mp k1 with z|z
    ·rw [z,Int.mul_zero]
    ·omega
  ·have z:=unseen ea hs'
   rw [at2_get e1] at z
   rw [z,Int.zero_mul,Int.zero_mul,sumN_zero fun l hl=>?_,Int.mul_zero]
   have el:Gs[l]?=some Gs[l]:=List.getElem?_eq_getElem hl
   have k1:=atD el hi
   have pz:partTop R Gs[l] i=0:=by
    unfold partTop
    split
    ·rename_i hm
     obtain ⟨⟨_,x,hx,nx⟩,_⟩:=h.pr _ (List.getElem_mem hl) i hm
     exact (ea (List.any_eq_true.mpr ⟨x,hx,by simpa using nx⟩)).elim
    ·rfl
   rw [pz,Int.mul_zero] at k1
   have w1:=jp _ (List.getElem_mem hl)
   rcases Int.mul_eq_zero.mp k1 with z2|z2
   ·rw [z2,Int.mul_zero]
   ·omega
end
theorem com_mul (w:Nat→Int) : ∀ m:Nat,(∀ i,i<m→0<w i) → ∃ Q:Int,0<Q ∧ ∀ i,i<m→w i∣Q
 | 0,_=>⟨1,by decide,fun i hi=>by omega⟩
 | m+1,h=>by
  obtain ⟨Q,q0,hQ⟩:=com_mul w m fun i hi=>h i (by omega)
  refine ⟨Q*w m,Int.mul_pos q0 (h m (by omega)),fun i hi=>?_⟩
  by_cases z:i=m
  ·subst z;exact Int.dvd_mul_left _ _
  ·exact Int.dvd_trans (hQ i (by omega)) (Int.dvd_mul_right _ _)
def cSum (J:List (List Int)) (i:Nat):Int:=sumN J.length fun s=>at2 J s i
structure Ind (J:List (List Int)) (m:Nat):Prop where
 p : ∀ i,i<m→0<cSum J i
 d : ∀ i j,i<m→j<m→(∀ s,s<J.length→at2 J s i*cSum J j=at2 J s j*cSum J i)→i=j
section
variable {b c:Int}{J K:List (List Int)}{m n:Nat}{B C:Int}{D E:List (List Int)}
end
theorem gs_df {R:List (List Int)} (hn : ∀ r ∈ R,∀ x ∈ r,0≤x) {n:Nat}{p:Array Nat} (hp:PmN (grs R n).length p) {a b:Nat}{G G':List Nat} (ea:(p.toList.map fun i=>grAt R n i)[a]?=some G) (eb:(p.toList.map fun i=>grAt R n i)[b]?=some G') (e:nrm (jc R G)=nrm (jc R G')):a=b:=by
 have h:=grs_ok hn n
 have nd:p.toList.Nodup:=hp.p.nodup_iff.mpr List.nodup_range
 rw [List.getElem?_map] at ea eb
 cases e1:p.toList[a]? with
 | none=>rw [e1] at ea;cases ea
 | some i =>
  cases e2:p.toList[b]? with
  | none=>rw [e2] at eb;cases eb
  | some j =>
   rw [e1] at ea
   rw [e2] at eb
   cases ea
   cases eb
   have hi:i<(grs R n).length:=List.mem_range.mp (hp.p.mem_iff.mp (List.mem_of_getElem? e1))
   have hj:j<(grs R n).length:=List.mem_range.mp (hp.p.mem_iff.mp (List.mem_of_getElem? e2))
   have at_ : ∀ {i:Nat} (hi:i<(grs R n).length),nrm (jc R (grAt R n i))=(grs R n)[i].1:=fun {i} hi=>by
    have e:grAt R n i=(grs R n)[i].2:=by unfold grAt;rw [List.getElem?_eq_getElem hi];rfl
    have m:=List.getElem_mem hi
    rw [e]
    exact (jc_nrm (h.ne _ m) (h.me _ m)).1
   have e:nrm (jc R (grAt R n i))=nrm (jc R (grAt R n j)):=e
   rw [at_ hi,at_ hj] at e
   have ij:i=j:=by
    refine (List.getElem?_inj (i:=i) (j:=j) (by simpa using hi) h.ky).mp ?_
    rw [List.getElem?_map,List.getElem?_map,List.getElem?_eq_getElem hi,List.getElem?_eq_getElem hj]
    exact congrArg some e
   subst ij
   exact (List.getElem?_inj (List.getElem?_eq_some_iff.mp e1).1 nd).mp (e1.trans e2.symm)
section
variable {b c:Int}{R S:List (List Int)}{m n:Nat}{Gs Hs:List (List Nat)}
theorem GrsOf.ok (hT:Tab b R m) (h:GrsOf R m Gs):GsOk R m Gs∧GsPart R m Gs:=by
 obtain ⟨p,hp,hs,rfl⟩:=h
 exact ⟨gs_ok hT.nn hp,gs_part hT.nn hp⟩
theorem jc_at2 {G:List Nat}{l s:Nat} (hl:Gs[l]?=some G) (hs:s<R.length):(jc R G).getD s 0=at2 (R.map (jRow Gs)) s l:=by
 rw [jrow_at (List.getElem?_eq_getElem hs) hl,List.getD_eq_getElem?_getD]
 unfold jc
 rw [List.getElem?_map,List.getElem?_eq_getElem hs];rfl
theorem jc_cSum {G:List Nat}{l:Nat} (hl:Gs[l]?=some G):cSum (R.map (jRow Gs)) l=(jc R G).sum:=by
 unfold cSum
 rw [← range_sum]
 congr 1
 refine List.ext_getElem? fun s=>?_
 rw [List.getElem?_map]
 by_cases hs:s<R.length
 ·rw [List.getElem?_range (by simpa using hs)]
  show some (at2 (R.map (jRow Gs)) s l)=_
  rw [← jc_at2 hl hs,List.getElem?_eq_getElem (by rw [jc_len];exact hs),List.getD_eq_getElem?_getD,List.getElem?_eq_getElem (by rw [jc_len];exact hs)];rfl
 ·rw [List.getElem?_eq_none (by simp;omega),List.getElem?_eq_none (by rw [jc_len];omega)];rfl
theorem GrsOf.ind (hT:Tab b R m) (h:GrsOf R m Gs):Ind (R.map (jRow Gs)) Gs.length:=by
 have ok:=(h.ok hT).1
 have at_ : ∀ {i:Nat} (hi:i<Gs.length),Gs[i]?=some Gs[i]:=fun hi=>List.getElem?_eq_getElem hi
 refine ⟨fun i hi=>?_,fun i j hi hj he=>?_⟩
 ·rw [jc_cSum (at_ hi)]
  exact (jc_sum hT ok (List.getElem_mem hi)).1
 ·have w1:=(jc_sum hT ok (List.getElem_mem hi)).1
  have w2:=(jc_sum hT ok (List.getElem_mem hj)).1
  have e:nrm (jc R Gs[i])=nrm (jc R Gs[j]):=by
   refine nrm_of_prp (ok.co _ (List.getElem_mem hi)) (ok.co _ (List.getElem_mem hj)) (by rw [jc_len,jc_len]) fun s t x y u v hx hy hu hv=>?_
   have hs:s<R.length:=by rw [← jc_len R Gs[i]];exact (List.getElem?_eq_some_iff.mp hx).1
   have ht:t<R.length:=by rw [← jc_len R Gs[i]];exact (List.getElem?_eq_some_iff.mp hy).1
   have r1:=he s (by simpa using hs)
   have r2:=he t (by simpa using ht)
   rw [jc_cSum (at_ hi),jc_cSum (at_ hj),← jc_at2 (at_ hi) hs,← jc_at2 (at_ hj) hs,List.getD_eq_getElem?_getD,List.getD_eq_getElem?_getD,hx,hu] at r1
   rw [jc_cSum (at_ hi),jc_cSum (at_ hj),← jc_at2 (at_ hi) ht,← jc_at2 (at_ hj) ht,List.getD_eq_getElem?_getD,List.getD_eq_getElem?_getD,hy,hv] at r2
   have r1:x*(jc R Gs[j]).sum=u*(jc R Gs[i]).sum:=r1
   have r2:y*(jc R Gs[j]).sum=v*(jc R Gs[i]).sum:=r2
   generalize (jc R Gs[i]).sum=w at *
   generalize (jc R Gs[j]).sum=z at *
   refine Int.eq_of_mul_eq_mul_right (show w*z≠0 from Int.ne_of_gt (Int.mul_pos w1 w2)) ?_
   calc x*v*(w*z)=(x*z)*(v*w):=by grind
    _=(u*w)*(y*z):=by rw [r1,r2]
    _=_:=by grind
  obtain ⟨p,hp,_,eG⟩:=h
  exact gs_df hT.nn hp (eG ▸ at_ hi) (eG ▸ at_ hj) e
end
theorem Ind.low {b:Int}{J:List (List Int)}{m:Nat} (hJ:Tab b J m) (Jn:J≠[]) (h:Ind J m):Ind (divT J (gTab J)) m:=by
 obtain ⟨g,g0,_,e2⟩:=low_at hJ Jn
 have el:(divT J (gTab J)).length=J.length:=by simp [divT]
 have ec : ∀ i,g*cSum (divT J (gTab J)) i=cSum J i:=fun i=>by
  unfold cSum
  rw [el,← sumN_mul]
  exact sumN_congr fun s _=>e2 s i
 refine ⟨fun i hi=>?_,fun i j hi hj e=>h.d i j hi hj fun s hs=>?_⟩
 ·have:=h.p i hi
  rw [← ec] at this
  exact Int.lt_of_mul_lt_mul_left (by rw [Int.mul_zero];exact this) (Int.le_of_lt g0)
 ·have:=e s (by omega)
  rw [← e2 s i,← e2 s j,← ec i,← ec j]
  calc g*at2 (divT J (gTab J)) s i*(g*cSum (divT J (gTab J)) j)=g*g*(at2 (divT J (gTab J)) s i*cSum (divT J (gTab J)) j):=by grind
   _=_:=by rw [this];grind
structure Frm (b:Int) (R:List (List Int)) (n:Nat) (f:Int) (T:List (List Int)) (k:Nat):Prop where
 g : ∃ Gs,GrsOf R n Gs∧formOf b R Gs=dTab f T
 gls:Gls f T k
 len:T.length=R.length
 k1:1≤k
 kn:k≤n
 fb:f≤b
 ind:Ind T k
 d1 : ∃ B D,Dul b R n f T k B D
 d2 : ∃ B D,Dul f T k b R n B D
theorem frm {b:Int}{R:List (List Int)}{n:Nat}{Gs:List (List Nat)} (hT:Tab b R n) (hR:R≠[]) (hG:GrsOf R n Gs) : ∃ f T k,formOf b R Gs=dTab f T∧Frm b R n f T k:=by
 obtain ⟨ok,pt⟩:=hG.ok hT
 have b0:=hT.pos
 have tJ:=jTab hT ok
 have Jn:R.map (jRow Gs)≠[]:=by simpa using hR
 have g:=tJ.gls Jn
 have gp:=g.t.pos
 obtain ⟨⟨_,_,d1⟩,⟨_,_,d2⟩⟩:(∃ B D,Dul b (R.map (jRow Gs)) Gs.length (b/gTab (R.map (jRow Gs))) (divT (R.map (jRow Gs)) (gTab (R.map (jRow Gs)))) Gs.length B D) ∧ ∃ B D,Dul (b/gTab (R.map (jRow Gs))) (divT (R.map (jRow Gs)) (gTab (R.map (jRow Gs)))) Gs.length b (R.map (jRow Gs)) Gs.length B D:=by
  obtain ⟨g,g0,e1,e2⟩:=low_at tJ Jn
  refine ⟨⟨_,_,Dul.same fun s j _ _=>?_⟩,⟨_,_,Dul.same fun s j _ _=>?_⟩⟩
  ·rw [← e2 s j]
   generalize at2 (divT (R.map (jRow Gs)) (gTab (R.map (jRow Gs)))) s j=x
   generalize b/gTab (R.map (jRow Gs))=b' at e1
   rw [← e1];grind
  ·rw [← e2 s j]
   generalize at2 (divT (R.map (jRow Gs)) (gTab (R.map (jRow Gs)))) s j=x
   generalize b/gTab (R.map (jRow Gs))=b' at e1
   rw [← e1];grind
 obtain ⟨Q,q0,hQ⟩:=com_mul (fun i=>(jc R ((Gs[i]?).getD [])).sum) Gs.length fun i hi=>by
  show 0<(jc R ((Gs[i]?).getD [])).sum
  rw [List.getElem?_eq_getElem hi]
  exact (jc_sum hT ok (List.getElem_mem hi)).1
 have J1:=least_dul hT hR ok pt
 have J2:=least_back hT hR ok pt q0 fun r hr x hx=>by
  obtain ⟨G,hG,rfl⟩:=List.mem_map.mp hr
  obtain ⟨i,hi⟩:=List.mem_iff_getElem?.mp hG
  obtain ⟨j,_,rfl⟩:=List.mem_map.mp hx
  have:=hQ i (List.getElem?_eq_some_iff.mp hi).1
  rw [hi] at this
  exact Int.dvd_trans ⟨_,((Int.mul_comm _ _).trans (shB_mul _ _)).symm⟩ this
 have lT:(divT (R.map (jRow Gs)) (gTab (R.map (jRow Gs)))).length=R.length:=by simp [divT]
 have k1:1≤Gs.length:=List.length_pos_iff.mpr (gs_ne hT hR ok)
 exact ⟨_,_,Gs.length,rfl,⟨Gs,hG,rfl⟩,g,lT,k1,ok.len,Int.ediv_le_self _ (by omega),(hG.ind hT).low tJ Jn,⟨_,_,J1.trans (by omega) (by simp) d1⟩,⟨_,_,d2.trans (by omega) (by simp [divT]) J2⟩⟩
theorem dTab_inj {b c:Int}{R S:List (List Int)} (h:dTab b R=dTab c S):b=c∧R=S:=by
 have inj : ∀ r s:List Int,tRow r=tRow s→r=s:=fun r s h=>by
  have h:=PyData.tuple.inj h
  exact (List.map_inj_right fun x y e=>PyData.int.inj e).mp h
 have h:=PyData.tuple.inj h
 have h1:=List.cons.inj h
 refine ⟨PyData.int.inj h1.1,(List.map_inj_right inj).mp (PyData.tuple.inj (List.cons.inj h1.2).1)⟩
theorem Gls.wide {f:Int}{T:List (List Int)}{k l:Nat} (hT:T≠[]) (h1:Gls f T k) (h2:Gls f T l):k=l:=by
 obtain ⟨r,R,e⟩:=List.exists_cons_of_ne_nil hT
 rw [← h1.t.len r (by rw [e];simp),h2.t.len r (by rw [e];simp)]
section
variable {b c f g:Int}{R S T U:List (List Int)}{m n k l:Nat}
end
theorem sh_cross {a b c d:Int} (hb:0<b) (hd:0<d):(shT a b,shB a b)=(shT c d,shB c d)↔a*d=c*b:=by
 obtain ⟨s1,e1⟩:=sh_ok (t:=a) (b:=b) (by omega)
 obtain ⟨s2,e2⟩:=sh_ok (t:=c) (b:=d) (by omega)
 have q1:=s1.pos
 have q2:=s2.pos
 constructor
 ·intro h
  obtain ⟨h1,h2⟩:=Prod.mk.inj h
  rw [← h1,← h2] at e2
  refine Int.eq_of_mul_eq_mul_right (show shB a b≠0 by omega) ?_
  calc a*d*shB a b=(a*shB a b)*d:=by grind
   _=shT a b*d*b:=by rw [← e1];grind
   _=_:=by rw [e2];grind
 ·intro h
  obtain ⟨h1,h2⟩:=sh_uniq s1 s2 (by
   refine Int.eq_of_mul_eq_mul_right (show b*d≠0 from Int.ne_of_gt (Int.mul_pos hb hd)) ?_
   calc shT a b*shB c d*(b*d)=(shT a b*b)*shB c d*d:=by grind
    _=(a*d)*(shB a b*shB c d):=by rw [e1];grind
    _=(c*shB c d)*b*shB a b:=by rw [h];grind
    _=_:=by rw [← e2];grind)
  rw [h1,h2]
section
variable {W:List Int}{f g:Int}{T U:List (List Int)}{k l j i:Nat}
theorem bel_cross (hW:Wgt W) (h:W.length=T.length) (hU:U.length=T.length) (si:0<(lkl W T i).sum) (sj:0<(lkl W U j).sum) (e:belS W T i=belS W U j) : ∀ s,s<T.length→at2 T s i*(lkl W U j).sum=at2 U s j*(lkl W T i).sum:=fun s hs=>by
 have e1:=bel_get (j:=i) h hs
 have e2:=bel_get (W:=W) (T:=U) (j:=j) (by omega) (s:=s) (by omega)
 rw [e,e2] at e1
 have e3:=(sh_cross sj si).mp (Option.some.inj e1)
 have w:=(hW.at (s:=s) (by omega)).1
 refine (Int.eq_of_mul_eq_mul_left (show (W[s]?).getD 0≠0 by omega) ?_).symm
 rw [← Int.mul_assoc,← Int.mul_assoc];exact e3
theorem lkl_pos (hW:Wgt W) (h:W.length=T.length) (hT:Tab f T k) (hI:Ind T k) (hj:j<k):0<(lkl W T j).sum:=by
 rw [lkl_sum h]
 have p:=hI.p j hj
 unfold cSum at p
 have:(sumN T.length fun s=>at2 T s j)≤sumN T.length fun s=>(W[s]?).getD 0*at2 T s j:=sumN_mono fun s hs=>by
  have a:=(hW.at (s:=s) (by omega)).1
  have b:=at2_nn hT.nn s j
  have:=Int.mul_le_mul_of_nonneg_right a b
  omega
 omega
theorem bel_inj (hW:Wgt W) (h:W.length=T.length) (hT:Tab f T k) (hI:Ind T k) (hi:i<k) (hj:j<k) (e:belS W T i=belS W T j):i=j:=by
 have si:=lkl_pos hW h hT hI hi
 have sj:=lkl_pos hW h hT hI hj
 have c:=bel_cross hW h rfl si sj e
 refine hI.d i j hi hj fun s hs=>?_
 have c2:cSum T i*(lkl W T j).sum=cSum T j*(lkl W T i).sum:=by
  unfold cSum
  rw [Int.mul_comm,← sumN_mul,Int.mul_comm (sumN _ _),← sumN_mul]
  exact sumN_congr fun s hs=>by rw [Int.mul_comm,c s hs,Int.mul_comm]
 refine Int.eq_of_mul_eq_mul_right (show (lkl W T i).sum≠0 by omega) ?_
 calc at2 T s i*cSum T j*(lkl W T i).sum=at2 T s i*(cSum T j*(lkl W T i).sum):=by grind
  _=at2 T s i*(lkl W T j).sum*cSum T i:=by rw [← c2];grind
  _=_:=by rw [c s hs];grind
theorem over_inj {B:Int}{r r':List (Int×Int)} (B0:0<B) (h : ∀ x ∈ r,Shr x.1 x.2∧x.2∣B) (h' : ∀ x ∈ r',Shr x.1 x.2∧x.2∣B) (e:overB B r=overB B r'):r=r':=by
 refine List.ext_getElem? fun i=>?_
 have ei:(overB B r)[i]?=(overB B r')[i]?:=by rw [e]
 unfold overB at ei
 rw [List.getElem?_map,List.getElem?_map] at ei
 cases ex:r[i]? with
 | none =>
  cases ey:r'[i]? with
  | none=>rfl
  | some y=>rw [ex,ey] at ei;cases ei
 | some x =>
  cases ey:r'[i]? with
  | none=>rw [ex,ey] at ei;cases ei
  | some y =>
   rw [ex,ey] at ei
   have ei:x.1*(B/x.2)=y.1*(B/y.2):=Option.some.inj ei
   obtain ⟨s1,d1⟩:=h x (List.mem_of_getElem? ex)
   obtain ⟨s2,d2⟩:=h' y (List.mem_of_getElem? ey)
   have m1:=Int.mul_ediv_cancel' d1
   have m2:=Int.mul_ediv_cancel' d2
   generalize B/x.2=u at *
   generalize B/y.2=v at *
   obtain ⟨z1,z2⟩:=sh_uniq s1 s2 (by
    refine Int.eq_of_mul_eq_mul_right (show B≠0 by omega) ?_
    calc x.1*y.2*B=(x.1*u)*(x.2*y.2):=by rw [← m1];grind
     _=y.1*x.2*(y.2*v):=by rw [ei];grind
     _=_:=by rw [m2])
   rw [show x=y from Prod.ext z1 z2]
def belV (W:List Int) (T:List (List Int)) (k:Nat):List (List (Int×Int)):=(List.range k).map (belS W T)
def BlOf (W:List Int) (f:Int) (T:List (List Int)) (k:Nat) (L:List PyData):Prop := ∃ (B:Int) (p:Array Nat),LcmB (belV W T k) B∧PmN k p∧SrtN (keyLess (fun i=>overB B (belS W T i)) W.length) p k∧L=p.toList.map (rowB W f T)
theorem bel_shr (sj:0<(lkl W T j).sum) {x:Int×Int} (hx:x ∈ belS W T j):Shr x.1 x.2:=by
 obtain ⟨y,_,rfl⟩:=List.mem_map.mp hx
 exact (sh_ok (by omega)).1
theorem bel_ord (hW:Wgt W) (h:W.length=T.length) (hT:Tab f T k) (hI:Ind T k) {B:Int} (hB:LcmB (belV W T k) B):OrdN k (keyLess (fun i=>overB B (belS W T i)) W.length) ∧ ∀ i j,i<k→j<k→i≠j→overB B (belS W T i)≠overB B (belS W T j):=by
 have hd : ∀ i j,i<k→j<k→i≠j→overB B (belS W T i)≠overB B (belS W T j):=fun i j hi hj ne e=>by
  have all : ∀ j,j<k → ∀ x ∈ belS W T j,Shr x.1 x.2∧x.2∣B:=fun j hj x hx=>⟨bel_shr (lkl_pos hW h hT hI hj) hx,hB.dv _ (List.mem_map.mpr ⟨j,List.mem_range.mpr hj,rfl⟩) x hx⟩
  exact ne (bel_inj hW h hT hI hi hj (over_inj hB.pos (all i hi) (all j hj) e))
 exact ⟨ordN_keys (fun i _=>by unfold overB;rw [List.length_map,bel_len h];omega) hd,hd⟩
end
def sp_beliefs (ds:List PyData) (q:List PyData→Prop):Prop := ∃ (b:Int) (R:List (List Int)) (n:Nat) (W:List Int),ds=[dTab b R,.tuple (W.map .int)]∧(Tab b R n∧W.length=R.length∧Wgt W∧1≤n∧n≤12∧b≤100000) ∧ ∀ f T k L,Frm b R n f T k→BlOf W f T k L→q L
theorem prod_big : ∀ (ws:List Int),(∀ w ∈ ws,0<w∧w≤400000000)→0<ws.foldr (· * ·) 1∧(ws.foldr (· * ·) 1).natAbs≤400000000^ws.length ∧ ∀ w ∈ ws,w∣ws.foldr (· * ·) 1
 | [],_=>⟨by decide,by decide,fun w hw=>by cases hw⟩
 | w::ws,h=>by
  obtain ⟨a1,a2,a3⟩:=prod_big ws fun x hx=>h x (List.mem_cons_of_mem _ hx)
  obtain ⟨w0,w1⟩:=h w (by simp)
  rw [List.foldr_cons]
  refine ⟨Int.mul_pos w0 a1,?_,fun x hx=>?_⟩
  ·rw [Int.natAbs_mul,List.length_cons,Nat.pow_succ,Nat.mul_comm]
   exact Nat.mul_le_mul a2 (by omega)
  ·rcases List.mem_cons.mp hx with rfl|z
   ·exact Int.dvd_mul_right _ _
   ·exact Int.dvd_trans (a3 x z) (Int.dvd_mul_left _ _)
theorem sc_beliefs:FnScope ["glass","weights","form","found","order"] ["glass","weights"] (defScope s_beliefs):=sc0
theorem ok_beliefs (F:Def K mg "beliefs" s_beliefs ["glass","weights"]) (T:Txt K mg cs)
 (O_table_of_shares:Ok P w K mg base "table_of_shares" 2 ["rows"] (PSp K sp_table_of_shares))
 (O_stands:Ok P w K mg base "stands" 1 ["glass"] (PSp K sp_stands))
 (O_signs:Ok P w K mg base "signs" 1 ["glass"] (PSp K sp_signs))
 (O_least:Ok P w K mg base "least" 5 ["glass"] (TaSp [cs.tb] (PSp K sp_least)))
 (O_is_weights:Ok P w K mg base "is_weights" 2 ["thing"] (PSp K sp_is_weights))
 (O_belief_behind:Ok P w K mg base "belief_behind" 4 ["glass","weights","sign"] (PSp K sp_belief_behind))
 : Ok P w K mg base "beliefs" 6 ["glass","weights"] (TaSp [cs.tb] (FSp K sp_beliefs)):=by
  refine F.tvokF sc_beliefs (by rintro ds q ⟨_,_,_,_,h,_⟩;rw [h];rfl) fun f cdv A outer s H E hr hTb ds q h=>?_
  obtain ⟨b,R,n,W,rfl,⟨hT,hl,hW,n1,n2,hb⟩,h⟩:=h
  refine ⟨_,(vss_cons (vs_if (VW.pt (vw_or (vt_not (vt_val (ve_fn O_is_weights.c (hr.mono (by decide)) (va_cons (ve_var 1) va_nil)))) (vw_or1 (vt_cmp (o_ne hr.units) (ve_callB c_len T.len_ L2.boot_len (va_cons (ve_var 1) va_nil)) (ve_fn O_stands.c (hr.mono (by decide)) (va_cons (ve_var 0) va_nil)))))) vss_never vss_nil)
   (vss_cons (vs_set (i:=2) sc_beliefs.nd (ve_ix (ve_fn (O_least.t hTb) (hr.mono (by decide)) (va_cons (ve_var 0) va_nil)) ve_int))
   (vss_cons (vs_setC (caps:=["weights","form"]) (own:=["sign"]) (ix:=[1,2]) (i:=3) sc_beliefs.nd rfl ⟨rfl,rfl,rfl,rfl,rfl,rfl⟩ (vi_range1 T.range_ (ve_fn O_signs.c (hr.mono (by decide)) (va_cons (ve_var 2) va_nil))) (fun _ _ _ _=>(vg_name (i:=2) (show List.Nodup (["weights","form","sign"]:List Str) by decide))) (fun _ _ _ _=>(ve_fn O_belief_behind.c (hr.mono (by decide)) (va_cons (ve_var 1) (va_cons (ve_var 0) (va_cons (ve_var 2) va_nil))))))
   (vss_cons (vs_set (i:=4) sc_beliefs.nd (ve_ix (ve_fn O_table_of_shares.c (hr.mono (by decide)) (va_cons (vf_fz (vf_comp (caps:=[]) (own:=["part","belief"]) (ix:=[]) rfl ⟨rfl,rfl,rfl,rfl,rfl,rfl⟩ (vi_seq (ve_var 3)) (fun _ _ _ _=>(vg_tup (n:=2) rfl (vgs_cons (vg_name (i:=0) (show List.Nodup (["part","belief"]:List Str) by decide)) (vgs_cons (vg_name (i:=1) (show List.Nodup (["part","belief"]:List Str) by decide)) vgs_nil)))) (fun _ _ _ _=>(ve_var 1)))) va_nil)) ve_int))
   (vss_one (vs_retF (vf_comp (caps:=[]) (own:=["numbers","row"]) (ix:=[]) rfl ⟨rfl,rfl,rfl,rfl,rfl,rfl⟩ (vi_seq (vf_fz (vf_sortZ hr.sort.2.1 hr.hd T.sorted_ T.zip_ (ve_var 4) (ve_var 3)))) (fun _ _ _ _=>(vg_tup (n:=2) rfl (vgs_cons (vg_name (i:=0) (show List.Nodup (["numbers","row"]:List Str) by decide)) (vgs_cons (vg_name (i:=1) (show List.Nodup (["numbers","row"]:List Str) by decide)) vgs_nil)))) (fun _ _ _ _=>(ve_var 1))))))))),?_⟩
  have l2:=hW.l2
  have l4:=hW.l4
  have b0:=hT.pos
  have Rn:R≠[]:=fun z=>by rw [z] at hl;rw [hl] at l2;simp at l2
  refine ⟨W,rfl,hW,b,R,rfl,rfl,rfl,ite_ne (fun z=>(z (by simp [hl])).elim) (fun _=>?_)⟩
  refine ⟨b,R,n,rfl,⟨hT,Rn,by omega,n1,n2,bits_up (bits64 (by omega) (by omega)) (by decide)⟩,fun Gs B0 hG _=>?_⟩
  obtain ⟨f',T',k,ef,fr⟩:=frm hT Rn hG
  have tt:=fr.gls.t
  have lT:=fr.len
  have k1:=fr.k1
  have kn:=fr.kn
  have fb:=fr.fb
  have f0:=tt.pos
  have hl':W.length=T'.length:=by omega
  obtain ⟨r0,T0,eT⟩:=List.exists_cons_of_ne_nil (show T'≠[] from fun z=>by rw [z] at hl';rw [hl'] at l2;simp at l2)
  have lr:r0.length=k:=tt.len r0 (by rw [eT];simp)
  have sp : ∀ j,j<k→0<(lkl W T' j).sum:=fun j hj=>lkl_pos hW hl' tt fr.ind hj
  refine ⟨dTab f' T',by rw [← ef];rfl,f',r0,T0,by rw [eT],?_⟩
  rw [lr]
  refine ⟨⟨by omega,by omega⟩,comp_by ((List.range k).map (rowB W f' T')) (by simp [rngD_len]) (small1000 (by simp;omega)) (fun e => ∃ s,e=[.val (.tuple (W.map .int)),.val (dTab f' T'),s]) ⟨_,rfl⟩ ?_ ?_⟩
  ·rintro i x ys e hx hys ⟨s,rfl⟩
   obtain ⟨hi',rfl⟩:=rngD_inv hx
   rw [Int.zero_add]
   have hi2:i<k:=by omega
   refine ⟨f',T',W,k,i,rfl,⟨tt,hl',hW,hi2,by omega,sp i hi2⟩,snoc_take ?_ hys,_,rfl⟩
   rw [List.getElem?_map,List.getElem?_range hi2];rfl
  refine comp_by ((belV W T' k).map fun r=>PyData.tuple (r.map dS)) (by simp [belV]) (small1000 (by simp [belV];omega)) (fun e => ∃ s t,e=[s,t]) ⟨_,_,rfl⟩ ?_ ?_
  ·rintro i x ys e hx hys ⟨s,t,rfl⟩
   rw [List.getElem?_map] at hx
   cases er:(List.range k)[i]? with
   | none=>rw [er] at hx;cases hx
   | some j =>
    rw [er] at hx
    cases hx
    refine ⟨rfl,rfl,snoc_take ?_ hys,_,_,rfl⟩
    unfold belV
    rw [List.getElem?_map,List.getElem?_map,er];rfl
  obtain ⟨w1,w4⟩:=hW.sum
  have wb:W.sum*f'≤4000*100000:=Int.mul_le_mul w4 (by omega) (by omega) (by omega)
  have sb : ∀ j,j<k→(lkl W T' j).sum≤400000000:=fun j hj=>by have:=(lkl_le (j:=j) hW hl' tt).2;omega
  have mem : ∀ {r},r ∈ belV W T' k → ∃ j,j<k∧r=belS W T' j:=fun hr=>by
   obtain ⟨j,hj,rfl⟩:=List.mem_map.mp hr
   exact ⟨j,List.mem_range.mp hj,rfl⟩
  obtain ⟨d1,d2,d3⟩:=prod_big ((List.range k).map fun j=>(lkl W T' j).sum) fun w hw=>by
   obtain ⟨j,hj,rfl⟩:=List.mem_map.mp hw
   exact ⟨sp j (List.mem_range.mp hj),sb j (List.mem_range.mp hj)⟩
  refine ⟨_,belV W T' k,((List.range k).map fun j=>(lkl W T' j).sum).foldr (· * ·) 1,rfl,⟨⟨_,rfl,by simp,fun i x hx=>?_⟩,by simp [belV];omega,fun r hr=>?_,d1,?_⟩,fun B hB=>?_⟩
  ·rw [List.getElem?_map] at hx
   cases e:(belV W T' k)[i]? with
   | none=>rw [e] at hx;cases hx
   | some r=>rw [e] at hx;cases hx;exact ⟨r,rfl,rfl⟩
  ·obtain ⟨j,hj,rfl⟩:=mem hr
   refine ⟨by rw [bel_len hl'];omega,fun x hx=>⟨bel_shr (sp j hj) hx,?_⟩⟩
   obtain ⟨y,hy,rfl⟩:=List.mem_map.mp hx
   obtain ⟨y0,y1⟩:=lkl_mem hW hl' tt hy
   exact ⟨shT_bits (bits_up (bits64 (by omega) (by omega)) (by decide)),Int.dvd_trans ⟨_,((Int.mul_comm _ _).trans (shB_mul _ _)).symm⟩ (d3 _ (List.mem_map.mpr ⟨j,List.mem_range.mpr hj,rfl⟩))⟩
  ·refine intBits_le_of_natAbs (y:=400000000^12) ?_ (by decide)
   refine Nat.le_trans d2 ?_
   rw [List.length_map,List.length_range]
   exact Nat.pow_le_pow_right (by decide) (by omega)
  obtain ⟨od,df⟩:=bel_ord hW hl' tt fr.ind hB
  have ll:(((belV W T' k).map (overB B)).map tRow).length=k:=by simp [belV]
  have at_ : ∀ {i:Nat},i<k→(((belV W T' k).map (overB B)).map tRow)[i]?=some (tRow (overB B (belS W T' i))):=fun {i} hi=>by
   unfold belV
   rw [List.getElem?_map,List.getElem?_map,List.getElem?_map,List.getElem?_range hi];rfl
  refine ⟨_,rfl,((belV W T' k).map (overB B)).map tRow,(List.range k).map (rowB W f' T'),fun i=>overB B (belS W T' i),W.length,rfl,rfl,by rw [ll];simp,by rw [ll];omega,fun i d hd=>?_,by rw [ll];exact od,fun i j hi hj=>df i j (by rw [ll] at hi;exact hi) (by rw [ll] at hj;exact hj),fun p hp hs=>?_⟩
  ·have hi:i<k:=by rw [← ll];exact (List.getElem?_eq_some_iff.mp hd).1
   rw [at_ hi] at hd
   cases hd
   exact ⟨by unfold overB;rw [List.length_map,bel_len hl'];omega,rfl⟩
  rw [ll] at hp hs
  refine comp_by (p.toList.map (rowB W f' T')) (by simp) (small1000 (by rw [List.length_map,Array.length_toList,hp.s];omega)) (fun e => ∃ s t,e=[s,t]) ⟨_,_,rfl⟩ ?_ ⟨_,rfl,h f' T' k _ fr ⟨B,p,hB,hp,hs,rfl⟩⟩
  rintro i x ys e hx hys ⟨s,t,rfl⟩
  rw [List.getElem?_map] at hx
  cases er:p.toList[i]? with
  | none=>rw [er] at hx;cases hx
  | some j =>
   have hj:j<k:=List.mem_range.mp (hp.p.mem_iff.mp (List.mem_of_getElem? er))
   have m2:((List.range k).map (rowB W f' T'))[j]?=some (rowB W f' T' j):=by rw [List.getElem?_map,List.getElem?_range hj];rfl
   rw [er] at hx
   have hx:some ((zipD (((belV W T' k).map (overB B)).map tRow) ((List.range k).map (rowB W f' T'))).getD j .none)=some x:=hx
   rw [List.getD_eq_getElem?_getD,zipD_get (at_ hj) m2] at hx
   cases hx
   refine ⟨rfl,rfl,snoc_take ?_ hys,_,_,rfl⟩
   rw [List.getElem?_map,er];rfl
def penD (h:Int) (ns:List Int) (pos rest cnt:Int):List PyData:=[.int h,.list (ns.map .int),.int pos,.int rest,.int cnt]
def PenOk (p:List PyData):Prop := ∃ (h:Int) (ns:List Int) (pos rest cnt:Int),p=penD h ns pos rest cnt∧(h=0∨(h=1∧ns≠[]))∧ns.length≤63∧0≤pos
def sp__law_pen (ds:List PyData) (q:List PyData→Prop):Prop := ∃ ns:List Int,ds=[.list (ns.map .int)]∧ns.length≤63 ∧ ∀ p,PenOk p→q p
theorem sc__law_pen:FnScope ["_law_script","_law_head"] ["_law_script"] (defScope s__law_pen):=sc0
theorem ok__law_pen (F:Def K mg "_law_pen" s__law_pen ["_law_script"]) (T:Txt K mg cs)
 : Ok P w K mg base "_law_pen" 1 ["_law_script"] (FSp K sp__law_pen):=by
  refine F.vokF sc__law_pen (by rintro ds q ⟨_,h,_⟩;rw [h];rfl) fun f cdv A outer s H E hr ds q h=>?_
  obtain ⟨ns,rfl,hl,h⟩:=h
  refine ⟨_,(vss_cons (vs_set (i:=1) sc__law_pen.nd ve_int)
   (vss_mid (vs_if (vt_cmp o_gt (ve_callB c_len T.len_ L2.boot_len (va_cons (ve_var 0) va_nil)) ve_int) (vss_one (vs_set (i:=1) sc__law_pen.nd (ve_ix (ve_var 0) ve_int))) vss_nil)
   (vss_one (vs_retF (vf_lst (va_cons (ve_op o_mod (ve_var 1) ve_int) (va_cons (ve_var 0) (va_cons ve_int (va_cons (ve_op o_div (ve_var 1) ve_int) (va_cons ve_int va_nil)))))))))),?_⟩
  refine ⟨fun e => ∃ c:Int,e=[.val (.list (ns.map .int)),.val (.int c)]∧(ns=[]→c=0),?_,?_⟩
  ·refine iteD (fun z=>?_) (fun z=>⟨0,rfl,fun _=>rfl⟩)
   have hn:0<ns.length:=by simpa using z
   obtain ⟨n,en⟩:=atI_ints (ns:=ns) (i:=0) (by decide) (by omega)
   refine ⟨_,en,n,rfl,fun z=>?_⟩
   rw [z] at hn;simp at hn
  ·rintro e ⟨c,rfl,hc⟩
   refine ⟨by decide,⟨by decide,by decide⟩,szl,_,rfl,h _ ⟨c%2,ns,0,c/2,0,rfl,?_,hl,by decide⟩⟩
   by_cases hn:ns=[]
   ·left;rw [hc hn];rfl
   ·have:c%2=0∨c%2=1:=by omega
    rcases this with z|z
    ·exact .inl z
    ·exact .inr ⟨z,hn⟩
def sp__law_mixed (ds0 ds:List PyData) (q:PyData→List PyData→Prop):Prop := ∃ (h:Int) (ns:List Int) (pos rest cnt:Int),ds0=penD h ns pos rest cnt∧ds=[]∧(ns≠[]∧ns.length≤63∧0≤pos) ∧ ∀ x:Int,q (.int x) (penD h ns (pos+1) rest cnt)
theorem sc__law_mixed:FnScope ["_law_pen_here","_law_cell","_law_number"] ["_law_pen_here"] (defScope s__law_mixed):=sc0
theorem ok__law_mixed (F:Def K mg "_law_mixed" s__law_mixed ["_law_pen_here"]) (T:Txt K mg cs)
 : Ok P w K mg base "_law_mixed" 1 ["_law_pen_here"] (NSp K sp__law_mixed):=by
  refine F.vokP sc__law_mixed (by rintro ds0 ds q ⟨_,_,_,_,_,_,h,_⟩;rw [h];rfl) (by decide) fun f cdv A outer s H E hr ds0 ds q h=>?_
  obtain ⟨hh,ns,pos,rest,cnt,rfl,rfl,⟨hn,hl,hp⟩,h⟩:=h
  refine ⟨_,(vss_cons (vs_put 0 (ve_op o_add (ve_ixO 0 ve_int) ve_int) ve_int)
   (vss_cons (vs_set (i:=1) sc__law_mixed.nd (ve_ix (ve_ixO 0 ve_int) (ve_op o_mod (ve_ixO 0 ve_int) (ve_callB c_len T.len_ L2.boot_len (va_cons (ve_ixO 0 ve_int) va_nil)))))
   (vss_cons (vs_set (i:=2) sc__law_mixed.nd (ve_op o_mod (ve_op o_mulI (ve_op o_add (ve_op o_add (ve_op o_mod (ve_var 1) ve_int) (ve_op o_mulI ve_int (ve_ixO 0 ve_int))) ve_int) ve_int) ve_int))
   (vss_cons (vs_set (i:=2) sc__law_mixed.nd (ve_op o_mod (ve_op o_mulI (ve_var 2) (ve_op o_add (ve_op o_add (ve_op o_mod (ve_var 2) ve_int) (ve_ixO 0 ve_int)) ve_int)) ve_int))
   (vss_one (vs_ret (ve_op o_div (ve_op o_mod (ve_op o_mulI (ve_var 2) ve_int) ve_int) ve_int))))))),?_⟩
  have hn0:0<(((ns.map PyData.int).length:Nat):Int):=by
   have:=List.length_pos_iff.mpr hn
   simp;omega
  have hm0:=Int.emod_nonneg (pos+1) (show (((ns.map PyData.int).length:Nat):Int)≠0 by omega)
  have hm1:=Int.emod_lt_of_pos (pos+1) hn0
  obtain ⟨c,ec⟩:=atI_ints (ns:=ns) (i:=(pos+1)%(((ns.map PyData.int).length:Nat):Int)) hm0 (by simpa using hm1)
  refine ⟨rfl,rfl,_,rfl,rfl,rfl,2,rfl,?_⟩
  refine ⟨rfl,rfl,_,rfl,rfl,rfl,_,rfl,rfl,rfl,_,rfl,hn0,_,ec,?_⟩
  refine ⟨by decide,rfl,rfl,_,rfl,IntMulOk.of_left (by decide),IntMulOk.of_right (by decide),by decide,?_⟩
  have b0:0≤(c%2147483629+40503*(pos+1)+1)*48271%2147483647∧(c%2147483629+40503*(pos+1)+1)*48271%2147483647<2147483647:=⟨Int.emod_nonneg _ (by decide),Int.emod_lt_of_pos _ (by decide)⟩
  refine ⟨by decide,rfl,rfl,_,rfl,IntMulOk.of_left (bits64 (by omega) (by omega)),by decide,?_⟩
  exact ⟨IntMulOk.of_right (by decide),by decide,⟨by decide,by decide⟩,_,_,rfl,rfl,h _⟩
def sp__law_next (ds0 ds:List PyData) (q:PyData→List PyData→Prop):Prop := ∃ m:Int,ds=[.int m]∧PenOk ds0∧(0<m∧intBits m≤9000) ∧ ∀ (x:Int) (p:List PyData),0≤x→x<m→PenOk p→q (.int x) p
theorem sc__law_next:FnScope ["_law_pen_here","_law_many","_law_found"] ["_law_pen_here","_law_many"] (defScope s__law_next):=sc0
theorem ok__law_next (F:Def K mg "_law_next" s__law_next ["_law_pen_here","_law_many"]) (T:Txt K mg cs)
 (O__law_mixed:Ok P w K mg base "_law_mixed" 1 ["_law_pen_here"] (NSp K sp__law_mixed))
 : Ok P w K mg base "_law_next" 2 ["_law_pen_here","_law_many"] (NSp K sp__law_next):=by
  refine F.vokP sc__law_next (by rintro ds0 ds q ⟨_,h,_⟩;rw [h];rfl) (by decide) fun f cdv A outer s H E hr ds0 ds q h=>?_
  obtain ⟨m,rfl,⟨hh,ns,pos,rest,cnt,rfl,h01,hl,hp⟩,⟨m0,mz⟩,h⟩:=h
  refine ⟨_,(vss_cons (vs_if (vt_cmp (o_eq hr.units) (ve_ixO 0 ve_int) ve_int) (vss_one (vs_ret (ve_op o_mod (ve_fnN 0 O__law_mixed.c (hr.mono (by decide)) va_nil) (ve_var 1)))) vss_nil)
   (vss_mid (vs_if (vt_cmp (o_eq hr.units) (ve_ixO 0 ve_int) ve_int) (vss_cons (vs_put 0 (ve_op o_add (ve_ixO 0 ve_int) ve_int) ve_int)
   (vss_cons (vs_put 0 ve_int ve_int)
   (vss_mid (vs_if (vt_cmp o_lt (ve_ixO 0 ve_int) (ve_callB c_len T.len_ L2.boot_len (va_cons (ve_ixO 0 ve_int) va_nil))) (vss_one (vs_put 0 (ve_ix (ve_ixO 0 ve_int) (ve_ixO 0 ve_int)) ve_int)) vss_nil)
   (vss_one (vs_put 0 ve_int ve_int))))) vss_nil)
   (vss_cons (vs_put 0 (ve_op o_add (ve_ixO 0 ve_int) ve_int) ve_int)
   (vss_cons (vs_set (i:=2) sc__law_next.nd (ve_op o_mod (ve_ixO 0 ve_int) (ve_var 1)))
   (vss_cons (vs_put 0 (ve_op o_div (ve_ixO 0 ve_int) (ve_var 1)) ve_int)
   (vss_one (vs_ret (ve_var 2)))))))),?_⟩
  refine ⟨rfl,rfl,_,rfl,rfl,rfl,ite_eq (fun z=>?_) (fun z=>?_)⟩
  ·have hn:ns≠[]:=by
    rcases h01 with q|⟨_,q⟩
    ·omega
    ·exact q
   refine ⟨rfl,rfl,hh,ns,pos,rest,cnt,rfl,rfl,⟨hn,hl,hp⟩,fun x=>⟨m0,_,_,rfl,rfl,h _ _ (Int.emod_nonneg _ (by omega)) (Int.emod_lt_of_pos _ m0) ⟨hh,ns,pos+1,rest,cnt,rfl,h01,hl,by omega⟩⟩⟩
  ·refine ⟨fun e => ∃ pos rest cnt t,e=[.pen (penD hh ns pos rest cnt),.val (.int m),t]∧0≤pos,?_,?_⟩
   ·refine ⟨rfl,rfl,_,rfl,rfl,rfl,ite_eq (fun _=>?_) (fun _=>⟨pos,rest,cnt,_,rfl,hp⟩)⟩
    refine ⟨rfl,rfl,_,rfl,rfl,rfl,2,rfl,rfl,rfl,3,rfl,?_⟩
    refine ⟨fun e => ∃ rest t,e=[.pen (penD hh ns (pos+1) rest cnt),.val (.int m),t],?_,?_⟩
    ·refine ⟨rfl,rfl,_,rfl,rfl,rfl,_,rfl,iteD (fun hlt=>?_) (fun _=>⟨_,_,rfl⟩)⟩
     obtain ⟨c,ec⟩:=atI_ints (ns:=ns) (i:=pos+1) (by omega) (by simpa using hlt)
     exact ⟨rfl,rfl,_,rfl,rfl,rfl,_,rfl,_,ec,rfl,rfl,3,rfl,_,_,rfl⟩
    ·rintro e ⟨rest,t,rfl⟩
     exact ⟨rfl,rfl,4,rfl,_,_,_,_,rfl,by omega⟩
   ·rintro e ⟨pos,rest,cnt,t,rfl,hp⟩
    refine ⟨rfl,rfl,_,rfl,rfl,rfl,4,rfl,?_⟩
    refine ⟨rfl,rfl,_,rfl,m0,?_⟩
    refine ⟨rfl,rfl,_,rfl,⟨m0,mz⟩,rfl,rfl,3,rfl,?_⟩
    exact ⟨_,_,rfl,rfl,h _ _ (Int.emod_nonneg _ (by omega)) (Int.emod_lt_of_pos _ m0) ⟨hh,ns,pos,_,_,rfl,h01,hl,hp⟩⟩
theorem gRow_gcd (g:Nat) : ∀ (r:List Int) (h:Nat),gRow (Nat.gcd g h) r=Nat.gcd g (gRow h r)
 | [],h=>rfl
 | n::r,h=>by
  have e:Int.gcd ((Nat.gcd g h:Nat):Int) n=Nat.gcd g (Int.gcd (h:Int) n):=by
   show Nat.gcd (Nat.gcd g h) n.natAbs=Nat.gcd g (Nat.gcd h n.natAbs)
   exact Nat.gcd_assoc g h n.natAbs
  show gRow (Int.gcd ((Nat.gcd g h:Nat):Int) n) r=Nat.gcd g (gRow (Int.gcd (h:Int) n) r)
  rw [e,gRow_gcd g r]
theorem gRow_acc (g:Nat) (r:List Int):gRow g r=Nat.gcd g (gRow 0 r):=by
 have:=gRow_gcd g r 0
 rwa [Nat.gcd_zero_right] at this
theorem gTab_rows : ∀ (R:List (List Int)) (g:Nat),gRow g (R.map fun r=>((gRow 0 r:Nat):Int))=R.foldl gRow g
 | [],g=>rfl
 | r::R,g=>by
  show gRow (Int.gcd (g:Int) ((gRow 0 r:Nat):Int)) (R.map fun r=>((gRow 0 r:Nat):Int))=R.foldl gRow (gRow g r)
  rw [gRow_acc g r]
  exact gTab_rows R _
def sp__law_divisor (ds:List PyData) (q:PyData→Prop):Prop := ∃ (d:PyData) (ns:List Int),ds=[d]∧seqD d=some (ns.map .int)∧q (.int (gRow 0 ns:Nat))
theorem sc__law_divisor:FnScope ["_law_numbers","_law_found","_law_number","_law_other"] ["_law_numbers"] (defScope s__law_divisor):=sc0
theorem ok__law_divisor (F:Def K mg "_law_divisor" s__law_divisor ["_law_numbers"]) (T:Txt K mg cs)
 : Ok P w K mg base "_law_divisor" 1 ["_law_numbers"] (PSp K sp__law_divisor):=by
  refine F.vok sc__law_divisor (by rintro ds q ⟨_,_,h,_⟩;rw [h];rfl) fun f cdv A outer s H E hr ds q h=>?_
  obtain ⟨d,ns,rfl,hd,h⟩:=h
  refine ⟨_,(vss_cons (vs_set (i:=1) sc__law_divisor.nd ve_int)
   (vss_cons (vs_for rfl (vi_seq (ve_var 0)) (vg_name (i:=2) sc__law_divisor.nd) (vss_cons (vs_set (i:=3) sc__law_divisor.nd (ve_callB c_abs T.abs_ L2.boot_abs (va_cons (ve_var 2) va_nil)))
   (vss_one (vs_while (vt_cmp o_gt (ve_var 3) ve_int) (vss_one (vs_par (i:=1) (j:=3) rfl sc__law_divisor.nd (va_cons (ve_var 3) (va_cons (ve_op o_mod (ve_var 1) (ve_var 3)) va_nil))))))))
   (vss_one (vs_ret (ve_var 1))))),?_⟩
  refine seq_elim hd ⟨fun i e => ∃ t2 t3,e=[.val d,.val (.int (gRow 0 (ns.take i):Nat)),t2,t3],⟨_,_,rfl⟩,?_,?_⟩
  ·rintro i x e hx ⟨t2,t3,rfl⟩
   obtain ⟨n,rfl,h5,_⟩:=int_get hx
   refine ⟨fun m e => ∃ x y:Int,e=[.val d,.val (.int x),.val (.int n),.val (.int y)]∧0≤x∧0≤y∧Nat.gcd x.toNat y.toNat=gRow 0 (ns.take (i+1))∧m=y.toNat,⟨_,_,_,rfl,by omega,by split <;> omega,?_,rfl⟩,?_⟩
   ·rw [take_snoc h5,gRow_snoc]
    have e1:(if n<0 then -n else n).toNat=n.natAbs:=by split <;> omega
    rw [e1];rfl
   ·rintro m e ⟨x,y,rfl,hx0,hy0,hg,rfl⟩
    refine iteD (fun hgt=>?_) (fun hle=>?_)
    ·obtain ⟨t1,t2,t3⟩:=gcd_turn hx0 hy0 (by omega) hg
     exact ⟨by omega,(x%y).toNat,by omega,y,x%y,rfl,hy0,t1,t3,rfl⟩
    ·have hy:y=0:=by omega
     have:=gcd_end hx0 hy hg
     exact ⟨_,_,by rw [this]⟩
  ·rintro e ⟨t2,t3,rfl⟩
   rw [List.length_map,List.take_length]
   exact h
theorem trow_get {R:List (List Int)}{i:Nat}{x:PyData}{f:List Int→PyData} (h:(R.map f)[i]?=some x) : ∃ r,R[i]?=some r∧x=f r:=by
 rw [List.getElem?_map] at h
 cases hr:R[i]? with
 | none=>rw [hr] at h;cases h
 | some r=>rw [hr] at h;exact ⟨r,rfl,(Option.some.inj h).symm⟩
def sp__law_reduced (ds:List PyData) (q:PyData→Prop):Prop := ∃ (b:Int) (R:List (List Int)) (n:Nat),ds=[.int b,dRows R]∧(Tab b R n∧R≠[]∧R.length≤900∧n≤900∧intBits b≤9000)∧q (lowT b R)
theorem sc__law_reduced:FnScope ["_law_bottom","_law_rows","_law_both","_law_found","_law_row_here"] ["_law_bottom","_law_rows"] (defScope s__law_reduced):=sc0
theorem ok__law_reduced (F:Def K mg "_law_reduced" s__law_reduced ["_law_bottom","_law_rows"]) (T:Txt K mg cs)
 (O__law_divisor:Ok P w K mg base "_law_divisor" 1 ["_law_numbers"] (PSp K sp__law_divisor))
 : Ok P w K mg base "_law_reduced" 2 ["_law_bottom","_law_rows"] (PSp K sp__law_reduced):=by
  refine F.vok sc__law_reduced (by rintro ds q ⟨_,_,_,h,_⟩;rw [h];rfl) fun f cdv A outer s H E hr ds q h=>?_
  obtain ⟨b,R,n,rfl,⟨hT,hR,hl,hn,zb⟩,h⟩:=h
  refine ⟨_,(vss_cons (vs_set (i:=2) sc__law_reduced.nd (ve_fn O__law_divisor.c (hr.mono (by decide)) (va_cons (vf_fz (vf_comp (caps:=[]) (own:=["_law_row_here"]) (ix:=[]) rfl ⟨rfl,rfl,rfl,rfl,rfl,rfl⟩ (vi_seq (ve_var 1)) (fun _ _ _ _=>(vg_name (i:=0) (show List.Nodup (["_law_row_here"]:List Str) by decide))) (fun _ _ _ _=>(ve_fn O__law_divisor.c (hr.mono (by decide)) (va_cons (ve_var 0) va_nil))))) va_nil)))
   (vss_cons (vs_setO (i:=3) sc__law_reduced.nd (vf_lst va_nil))
   (vss_cons (vs_for rfl (vi_seq (ve_var 1)) (vg_name (i:=4) sc__law_reduced.nd) (vss_one (vs_append 3 (ve_callTy c_tuple T.tuple_ L2.boot_tuple (va_cons (vf_fz (vf_comp (caps:=["_law_both"]) (own:=["_law_number"]) (ix:=[2]) rfl ⟨rfl,rfl,rfl,rfl,rfl,rfl⟩ (vi_seq (ve_var 4)) (fun _ _ _ _=>(vg_name (i:=1) (show List.Nodup (["_law_both","_law_number"]:List Str) by decide))) (fun _ _ _ _=>(ve_op o_div (ve_var 1) (ve_var 0))))) va_nil)))))
   (vss_fz 3 (vss_one (vs_ret (ve_tup (va_cons (ve_op o_div (ve_var 0) (ve_var 2)) (va_cons (ve_callTy c_tuple T.tuple_ L2.boot_tuple (va_cons (ve_var 3) va_nil)) va_nil))))))))),?_⟩
  have g0:=hT.gpos hR
  have zg:intBits (gTab R:Int)≤9000:=by
   refine intBits_le_of_natAbs ?_ zb
   have:=hT.pos
   exact Nat.le_of_dvd (by omega) (Int.natAbs_dvd_natAbs.mpr (hT.gdvd hR))
  show _∧_
  refine comp_by (ds:=R.map dRow) ((R.map fun r=>((gRow 0 r:Nat):Int)).map .int) (by simp) (small1000 (by simp;omega)) (fun e => ∃ s,e=[s]) ⟨_,rfl⟩ ?_ ?_
  ·rintro i x ys e hx hys ⟨s,rfl⟩
   obtain ⟨r,hr',rfl⟩:=trow_get hx
   refine ⟨_,r,rfl,rfl,snoc_take ?_ hys,_,rfl⟩
   rw [List.getElem?_map,List.getElem?_map,hr'];rfl
  ·refine ⟨_,_,rfl,rfl,?_⟩
   rw [gTab_rows R 0]
   show (fun z=>z) _
   refine ⟨szl,⟨fun i e => ∃ t4 l,e=[.val (.int b),.val (dRows R),.val (.int (gTab R)),.own l,t4]∧l=((divT R (gTab R)).take i).map tRow,⟨_,_,rfl,rfl⟩,?_,?_⟩⟩
   ·rintro i x e hx ⟨t4,l,rfl,rfl⟩
    obtain ⟨r,hr',rfl⟩:=trow_get hx
    have hrl:=hT.len r (get_mem hr')
    refine ⟨rfl,?_⟩
    show _∧_
    refine comp_by ((r.map fun n=>n/(gTab R:Int)).map .int) (by simp) (small1000 (by simp;omega)) (fun e => ∃ s,e=[.val (.int (gTab R)),s]) ⟨_,rfl⟩ ?_ ⟨rfl,?_,?_⟩
    ·rintro j y ys e hy hys ⟨s,rfl⟩
     obtain ⟨z,rfl,hz,_⟩:=int_get hy
     refine ⟨⟨by omega,zg⟩,snoc_take ?_ hys,_,rfl⟩
     rw [List.getElem?_map,List.getElem?_map,hz];rfl
    ·show (List.map tRow _).length<_
     rw [List.length_map]
     refine small1000 (Nat.le_trans (List.length_take_le' _ _) ?_)
     unfold divT;rw [List.length_map];omega
    ·refine ⟨_,_,rfl,?_⟩
     have e2:(divT R (gTab R))[i]?=some (r.map fun n=>n/(gTab R:Int)):=by unfold divT;rw [List.getElem?_map,hr'];rfl
     rw [List.take_add_one,e2]
     simp only [Option.toList_some,List.map_append,List.map_cons,List.map_nil]
     rfl
   ·rintro e ⟨t4,l,rfl,rfl⟩
    have e3:(R.map dRow).length=(divT R (gTab R)).length:=by simp [divT]
    rw [e3,List.take_length]
    exact ⟨⟨by omega,zg⟩,szl,h⟩
def sp__law_row (ds0 ds:List PyData) (q:PyData→List PyData→Prop):Prop := ∃ (wd:Nat) (b:Int),ds=[.int wd,.int b]∧PenOk ds0∧(1≤wd∧wd≤60∧1≤b∧b≤999999) ∧ ∀ (r:List Int) (p:List PyData),r.length=wd→(∀ x ∈ r,0≤x)→r.sum=b→PenOk p→q (dRow r) p
theorem sc__law_row:FnScope ["_law_pen_here","_law_width","_law_bottom","_law_cuts"] ["_law_pen_here","_law_width","_law_bottom"] (defScope s__law_row):=sc0
theorem ok__law_row (F:Def K mg "_law_row" s__law_row ["_law_pen_here","_law_width","_law_bottom"]) (T:Txt K mg cs)
 (O__law_next:Ok P w K mg base "_law_next" 2 ["_law_pen_here","_law_many"] (NSp K sp__law_next))
 : Ok P w K mg base "_law_row" 3 ["_law_pen_here","_law_width","_law_bottom"] (NSp K sp__law_row):=by
  refine F.vokP sc__law_row (by rintro ds0 ds q ⟨_,_,h,_⟩;rw [h];rfl) (by decide) fun f cdv A outer s H E hr ds0 ds q h=>?_
  obtain ⟨wd,b,rfl,hP,⟨w1,w2,b1,b2⟩,h⟩:=h
  refine ⟨_,(vss_cons (vs_set (i:=3) sc__law_row.nd (vf_fz (vf_callB c_sorted T.sorted_ L2.boot_sorted (va_cons (vf_fz (vf_compP (caps:=["_law_pen_here","_law_bottom"]) (own:=["_law_k"]) (ix:=[0,2]) (i0:=0) (j0:=0) rfl ⟨rfl,rfl,rfl,rfl,rfl,rfl⟩ (vi_range1 T.range_ (ve_op o_sub (ve_var 1) ve_int)) (fun _ _ _ _=>(vg_name (i:=2) (show List.Nodup (["_law_pen_here","_law_bottom","_law_k"]:List Str) by decide))) (fun _ _ _ _=>(ve_fnN 0 O__law_next.c (hr.mono (by decide)) (va_cons (ve_op o_add (ve_var 1) ve_int) va_nil))) (pen_once rfl))) va_nil))))
   (vss_one (vs_ret (vf_fz (vf_comp (caps:=[]) (own:=["_law_low","_law_high"]) (ix:=[]) rfl ⟨rfl,rfl,rfl,rfl,rfl,rfl⟩ (vi_zip2 T.zip_ (vf_fz (vf_cat (vf_fz (vf_lst (va_cons ve_int va_nil))) (ve_var 3))) (vf_fz (vf_cat (ve_var 3) (vf_fz (vf_lst (va_cons (ve_var 2) va_nil)))))) (fun _ _ _ _=>(vg_tup (n:=2) rfl (vgs_cons (vg_name (i:=0) (show List.Nodup (["_law_low","_law_high"]:List Str) by decide)) (vgs_cons (vg_name (i:=1) (show List.Nodup (["_law_low","_law_high"]:List Str) by decide)) vgs_nil)))) (fun _ _ _ _=>(ve_op o_sub (ve_var 1) (ve_var 0)))))))),?_⟩
  refine ⟨⟨by omega,by omega⟩,?_⟩
  refine ⟨small1000 (by rw [rngD_len];omega),rfl,fun i ys e => ∃ cs:List Int,ys=cs.map .int∧cs.length=i∧(∀ c ∈ cs,0≤c∧c≤b) ∧ ∃ p t,PenOk p∧e=[.pen p,.val (.int b),t],⟨[],rfl,rfl,by simp,_,_,hP,rfl⟩,?_,?_⟩
  ·rintro i d ys e hd ⟨cs,rfl,hc1,hc2,p,t,hp,rfl⟩
   refine ⟨rfl,rfl,b+1,rfl,hp,⟨by omega,bits_up (bits64 (by omega) (by omega)) (by decide)⟩,fun x p' x0 x1 hp'=>?_⟩
   refine ⟨cs++[x],by simp,by simp [hc1],fun c hc=>?_,p',_,hp',rfl⟩
   rcases List.mem_append.mp hc with hc|hc
   ·exact hc2 c hc
   ·rw [List.mem_singleton.mp hc];omega
  ·rintro ys e ⟨cs,rfl,hc1,hc2,p,t,hp,rfl⟩
   rw [rngD_len] at hc1
   refine ⟨p,rfl,cs,rfl,by omega,fun ns hperm hsort=>?_⟩
   have hn : ∀ c ∈ ns,0≤c∧c≤b:=fun c hc=>hc2 c (hperm.mem_iff.mp hc)
   have hl:=hperm.length_eq
   obtain ⟨d1,d2,d3⟩:=diffs_ok ns 0 b hsort hn (by omega)
   refine ⟨szl,?_,szl,?_,?_⟩
   ·simp only [List.length_map,List.length_cons,List.length_nil];exact small_le (by omega)
   ·simp only [List.length_map,List.length_cons,List.length_nil];exact small_le (by omega)
   show _∧_
   have ea:[PyData.int 0]++ns.map PyData.int=(0::ns).map PyData.int:=rfl
   have eb:ns.map PyData.int++[PyData.int b]=(ns++[b]).map PyData.int:=by simp
   rw [ea,eb]
   refine comp_by ((diffs 0 ns b).map .int) (by simp [zipD_len,d1]) (small1000 (by rw [List.length_map,d1];omega)) (fun e => ∃ s t,e=[s,t]) ⟨_,_,rfl⟩ ?_ ⟨_,_,rfl,rfl,h _ p (by omega) d2 (by omega) hp⟩
   rintro i x ys e hx hys ⟨s,t,rfl⟩
   obtain ⟨x,y,h3,h4,rfl⟩:=zipD_inv hx
   obtain ⟨x,rfl,h5,_⟩:=int_get h3
   obtain ⟨y,rfl,h6,_⟩:=int_get h4
   refine ⟨rfl,rfl,snoc_take ?_ hys,_,_,rfl⟩
   unfold diffs
   rw [List.getElem?_map,List.getElem?_zipWith,h5,h6];rfl
def sp__law_split (ds0 ds:List PyData) (q:PyData→List PyData→Prop):Prop := ∃ (b:Int) (R:List (List Int)) (n:Nat),ds=[dRows R]∧PenOk ds0∧(Tab b R n∧1≤R.length∧R.length≤60∧1≤n∧n≤60∧b≤999999) ∧ ∀ (k:Int) (R':List (List Int)) (p:List PyData),2≤k→k≤4→Tab (b*k) R' (n+1)→R'.length=R.length→PenOk p→q (dRows R') p
theorem sc__law_split:FnScope ["_law_pen_here","_law_rows","_law_at","_law_parts","_law_some","_law_to","_law_found","_law_row_here","_law_wide"] ["_law_pen_here","_law_rows"] (defScope s__law_split):=sc0
theorem ok__law_split (F:Def K mg "_law_split" s__law_split ["_law_pen_here","_law_rows"]) (T:Txt K mg cs)
 (O__law_next:Ok P w K mg base "_law_next" 2 ["_law_pen_here","_law_many"] (NSp K sp__law_next))
 : Ok P w K mg base "_law_split" 3 ["_law_pen_here","_law_rows"] (NSp K sp__law_split):=by
  refine F.vokP sc__law_split (by rintro ds0 ds q ⟨_,_,_,h,_⟩;rw [h];rfl) (by decide) fun f cdv A outer s H E hr ds0 ds q h=>?_
  obtain ⟨b,R,n,rfl,hP,⟨hT,r1,r2,n1,n2,hb⟩,h⟩:=h
  refine ⟨_,(vss_cons (vs_set (i:=2) sc__law_split.nd (ve_fnN 0 O__law_next.c (hr.mono (by decide)) (va_cons (ve_callB c_len T.len_ L2.boot_len (va_cons (ve_ix (ve_var 1) ve_int) va_nil)) va_nil)))
   (vss_cons (vs_set (i:=3) sc__law_split.nd (ve_op o_add ve_int (ve_fnN 0 O__law_next.c (hr.mono (by decide)) (va_cons ve_int va_nil))))
   (vss_cons (vs_set (i:=4) sc__law_split.nd (ve_op o_add ve_int (ve_fnN 0 O__law_next.c (hr.mono (by decide)) (va_cons (ve_op o_sub (ve_var 3) ve_int) va_nil))))
   (vss_cons (vs_set (i:=5) sc__law_split.nd (ve_fnN 0 O__law_next.c (hr.mono (by decide)) (va_cons (ve_op o_add (ve_callB c_len T.len_ L2.boot_len (va_cons (ve_ix (ve_var 1) ve_int) va_nil)) ve_int) va_nil)))
   (vss_cons (vs_setO (i:=6) sc__law_split.nd (vf_lst va_nil))
   (vss_cons (vs_for rfl (vi_seq (ve_var 1)) (vg_name (i:=7) sc__law_split.nd) (vss_cons (vs_setCO (caps:=["_law_parts"]) (own:=["_law_number"]) (ix:=[3]) (i:=8) sc__law_split.nd rfl ⟨rfl,rfl,rfl,rfl,rfl,rfl⟩ (vi_seq (ve_var 7)) (fun _ _ _ _=>(vg_name (i:=1) (show List.Nodup (["_law_parts","_law_number"]:List Str) by decide))) (fun _ _ _ _=>(ve_op o_mulI (ve_var 1) (ve_var 0))))
   (vss_cons (vs_put 8 (ve_op o_mulI (ve_ix (ve_var 7) (ve_var 2)) (ve_var 4)) (ve_var 2))
   (vss_cons (vs_insert 8 (ve_var 5) (ve_op o_mulI (ve_ix (ve_var 7) (ve_var 2)) (ve_op o_sub (ve_var 3) (ve_var 4))))
   (vss_fz 8 (vss_one (vs_append 6 (ve_var 8))))))))
   (vss_fz 6 (vss_one (vs_ret (ve_var 6)))))))))),?_⟩
  have hRn:R≠[]:=fun z=>by rw [z] at r1;simp at r1
  obtain ⟨r0,R0,eR⟩:=List.exists_cons_of_ne_nil hRn
  have l0:r0.length=n:=hT.len r0 (by rw [eR];simp)
  have aR:atI (R.map dRow) 0=some (dRow r0):=by rw [eR];exact atI_zero _ _
  have eN:(((r0.map PyData.int).length:Nat):Int)=(n:Int):=by simp [l0]
  have sm : ∀ {z:Int},0<z→z≤1000000→intBits z≤9000:=fun h1 h2=>bits_up (bits64 (by omega) (by omega)) (by decide)
  refine ⟨rfl,_,aR,rfl,_,rfl,hP,⟨by omega,sm (by omega) (by omega)⟩,fun xa p1 xa0 xa1 hp1=>?_⟩
  refine ⟨rfl,rfl,3,rfl,hp1,⟨by decide,by decide⟩,fun xk p2 xk0 xk1 hp2=>?_⟩
  refine ⟨rfl,rfl,_,rfl,hp2,⟨by omega,sm (by omega) (by omega)⟩,fun xs p3 xs0 xs1 hp3=>?_⟩
  refine ⟨rfl,_,aR,rfl,_,rfl,hp3,⟨by omega,sm (by omega) (by omega)⟩,fun xt p4 xt0 xt1 hp4=>?_⟩
  obtain ⟨a,rfl⟩:=Int.eq_ofNat_of_zero_le xa0
  obtain ⟨to,rfl⟩:=Int.eq_ofNat_of_zero_le xt0
  have ha:a<n:=by omega
  have hto:to≤n:=by omega
  have hsp : ∀ r ∈ R,(splitR r (2+xk) (1+xs) a to).length=n+1∧(∀ x ∈ splitR r (2+xk) (1+xs) a to,0≤x)∧(splitR r (2+xk) (1+xs) a to).sum=b*(2+xk):=fun r hr=>by
   have e1:=hT.len r hr
   obtain ⟨q1,q2,q3⟩:=split_ok (r:=r) (k:=2+xk) (s:=1+xs) (a:=a) (t:=to) (by omega) (by omega) (hT.nn r hr) (by omega) (by omega)
   exact ⟨by omega,q2,by rw [q3,hT.sum r hr]⟩
  have hT':Tab (b*(2+xk)) (R.map fun r=>splitR r (2+xk) (1+xs) a to) (n+1):=by
   have bp:=hT.pos
   refine ⟨?_,fun r hr=>?_,fun r hr=>?_,fun r hr=>?_⟩
   ·have:=Int.mul_pos (show 0<b by omega) (show 0<2+xk by omega);omega
   all_goals (obtain ⟨s',hs',rfl⟩:=List.mem_map.mp hr)
   ·exact (hsp s' hs').1
   ·exact (hsp s' hs').2.1
   ·exact (hsp s' hs').2.2
  refine ⟨szl,⟨fun i e => ∃ t7 t8 l,e=[.pen p4,.val (dRows R),.val (.int a),.val (.int (2+xk)),.val (.int (1+xs)),.val (.int to),.own l,t7,t8]∧l=((R.map fun r=>splitR r (2+xk) (1+xs) a to).take i).map dRow,⟨_,_,_,rfl,rfl⟩,?_,?_⟩⟩
  ·rintro i x e hx ⟨t7,t8,l,rfl,rfl⟩
   obtain ⟨r,hr',rfl⟩:=trow_get hx
   have hrm:=get_mem hr'
   have hrl:=hT.len r hrm
   have bz : ∀ x ∈ r,intBits x≤64:=fun x hx=>by
    have:=hT.le hrm hx
    exact bits64 (by omega) (by omega)
   show _∧_
   refine ⟨small1000 (by simp;omega),fun j ys e=>ys=(((r.map fun n=>n*(2+xk)).map PyData.int).take j) ∧ ∃ s,e=[.val (.int (2+xk)),s],⟨by simp,_,rfl⟩,?_,?_⟩
   ·rintro j y ys e hy ⟨hys,s,rfl⟩
    obtain ⟨z,rfl,hz,hzm⟩:=int_get hy
    refine ⟨IntMulOk.of_left (bz z hzm),snoc_take ?_ hys,_,rfl⟩
    rw [List.getElem?_map,List.getElem?_map,hz];rfl
   rintro ys0 e0 ⟨hys0,s0,rfl⟩
   rw [show (r.map PyData.int).length=((r.map fun n=>n*(2+xk)).map PyData.int).length by simp,List.take_length] at hys0
   subst hys0
   have har:a<r.length:=by omega
   have era:=List.getElem?_eq_getElem har
   have zra:=bz _ (List.getElem_mem har)
   have aa:atI (r.map PyData.int) (a:Int)=some (.int r[a]):=atI_nat (by rw [List.getElem?_map,era];rfl)
   have ix:ixN (((r.map fun n=>n*(2+xk)).map PyData.int)).length (a:Int)=some a:=by
    unfold ixN
    rw [List.length_map,List.length_map,if_pos (by omega),if_pos (by omega)];rfl
   refine ⟨_,aa,IntMulOk.of_left zra,rfl,rfl,a,ix,?_⟩
   refine ⟨rfl,_,aa,IntMulOk.of_left zra,rfl,⟨by omega,?_,?_⟩,?_⟩
   ·show (to:Int)≤(((((r.map fun n=>n*(2+xk)).map PyData.int).set a (.int (r[a]*(1+xs))))).length:Nat)
    simp;omega
   ·show (((r.map fun n=>n*(2+xk)).map PyData.int).set a (.int (r[a]*(1+xs)))).length<_
    exact small1000 (by simp;omega)
   have es:insL (((r.map fun n=>n*(2+xk)).map PyData.int).set a (.int (r[a]*(1+xs)))) (Int.toNat (to:Int)) (.int (r[a]*(2+xk-(1+xs))))=(splitR r (2+xk) (1+xs) a to).map .int:=by
    unfold splitR insL
    rw [era]
    simp only [Option.getD_some,Int.toNat_natCast,List.map_append,List.map_cons,List.map_take,List.map_drop,List.map_set]
   refine ⟨rfl,rfl,?_,_,_,_,rfl,?_⟩
   ·show (List.map dRow _).length<_
    rw [List.length_map]
    exact small1000 (Nat.le_trans (List.length_take_le' _ _) (by simp;omega))
   ·have e3:(R.map fun r=>splitR r (2+xk) (1+xs) a to)[i]?=some (splitR r (2+xk) (1+xs) a to):=by rw [List.getElem?_map,hr'];rfl
    rw [List.take_add_one,e3]
    simp only [Option.toList_some,List.map_append,List.map_cons,List.map_nil]
    show List.map dRow _++[PyData.list (insL (((r.map fun n=>n*(2+xk)).map PyData.int).set a (.int (r[a]*(1+xs)))) (Int.toNat (to:Int)) (.int (r[a]*(2+xk-(1+xs)))))]=_
    rw [es];rfl
  ·rintro e ⟨t7,t8,l,rfl,rfl⟩
   have e3:(R.map dRow).length=(R.map fun r=>splitR r (2+xk) (1+xs) a to).length:=by simp
   rw [e3,List.take_length]
   exact ⟨_,_,rfl,rfl,h _ _ p4 (by omega) (by omega) hT' (by simp) hp4⟩
def sp__law_table (ds0 ds:List PyData) (q:PyData→List PyData→Prop):Prop := ∃ (many most far:Int),ds=[.int many,.int most,.int far]∧PenOk ds0∧(1≤many∧many≤4∧1≤most∧most≤12∧1≤far∧far≤60) ∧
 ∀ (b:Int) (R:List (List Int)) (n:Nat) (p:List PyData),Gls b R n→b≤9999→R.length=many→1≤n→n≤most→PenOk p→q (dTab b R) p
theorem sc__law_table:FnScope ["_law_pen_here","_law_many","_law_most","_law_far","_law_width","_law_bottom","_law_rows","_law_time"] ["_law_pen_here","_law_many","_law_most","_law_far"] (defScope s__law_table):=sc0
theorem ok__law_table (F:Def K mg "_law_table" s__law_table ["_law_pen_here","_law_many","_law_most","_law_far"]) (T:Txt K mg cs)
 (O__law_next:Ok P w K mg base "_law_next" 2 ["_law_pen_here","_law_many"] (NSp K sp__law_next))
 (O__law_reduced:Ok P w K mg base "_law_reduced" 2 ["_law_bottom","_law_rows"] (PSp K sp__law_reduced))
 (O__law_row:Ok P w K mg base "_law_row" 3 ["_law_pen_here","_law_width","_law_bottom"] (NSp K sp__law_row))
 (O__law_split:Ok P w K mg base "_law_split" 3 ["_law_pen_here","_law_rows"] (NSp K sp__law_split))
 : Ok P w K mg base "_law_table" 4 ["_law_pen_here","_law_many","_law_most","_law_far"] (NSp K sp__law_table):=by
  refine F.vokP sc__law_table (by rintro ds0 ds q ⟨_,_,_,h,_⟩;rw [h];rfl) (by decide) fun f cdv A outer s H E hr ds0 ds q h=>?_
  obtain ⟨many,most,far,rfl,hP,⟨m1,m2,o1,o2,f1,f2⟩,h⟩:=h
  refine ⟨_,(vss_cons (vs_set (i:=4) sc__law_table.nd (ve_op o_add ve_int (ve_fnN 0 O__law_next.c (hr.mono (by decide)) (va_cons (ve_var 2) va_nil))))
   (vss_cons (vs_set (i:=5) sc__law_table.nd (ve_op o_add ve_int (ve_fnN 0 O__law_next.c (hr.mono (by decide)) (va_cons (ve_var 3) va_nil))))
   (vss_cons (vs_setCP (caps:=["_law_pen_here","_law_width","_law_bottom"]) (own:=["_law_k"]) (ix:=[0,4,5]) (i0:=0) (j0:=0) (i:=6) sc__law_table.nd rfl ⟨rfl,rfl,rfl,rfl,rfl,rfl⟩ (vi_range1 T.range_ (ve_var 1)) (fun _ _ _ _=>(vg_name (i:=3) (show List.Nodup (["_law_pen_here","_law_width","_law_bottom","_law_k"]:List Str) by decide))) (fun _ _ _ _=>(ve_fnN 0 O__law_row.c (hr.mono (by decide)) (va_cons (ve_var 1) (va_cons (ve_var 2) va_nil)))) (pen_once rfl))
   (vss_cons (vs_for rfl (vi_range1 T.range_ (ve_op o_div (ve_fnN 0 O__law_next.c (hr.mono (by decide)) (va_cons ve_int va_nil)) ve_int)) (vg_name (i:=7) sc__law_table.nd) (vss_one (vs_if (vt_cmp o_lt (ve_callB c_len T.len_ L2.boot_len (va_cons (ve_ix (ve_var 6) ve_int) va_nil)) (ve_var 2)) (vss_one (vs_set (i:=6) sc__law_table.nd (ve_fnN 0 O__law_split.c (hr.mono (by decide)) (va_cons (ve_var 6) va_nil)))) vss_nil)))
   (vss_one (vs_ret (ve_fn O__law_reduced.c (hr.mono (by decide)) (va_cons (ve_callB (c_sum rfl) T.sum_ L2.boot_sum (va_cons (ve_ix (ve_var 6) ve_int) va_nil)) (va_cons (ve_var 6) va_nil))))))))),?_⟩
  have sm : ∀ {z:Int},0<z→z≤1000000→intBits z≤9000:=fun h1 h2=>bits_up (bits64 (by omega) (by omega)) (by decide)
  refine ⟨rfl,rfl,most,rfl,hP,⟨by omega,sm (by omega) (by omega)⟩,fun xw p1 w0 w1 hp1=>?_⟩
  refine ⟨rfl,rfl,far,rfl,hp1,⟨by omega,sm (by omega) (by omega)⟩,fun xb p2 b0 b1 hp2=>?_⟩
  obtain ⟨wd,ew⟩:=Int.eq_ofNat_of_zero_le (show 0≤1+xw by omega)
  refine ⟨⟨by omega,by omega⟩,small1000 (by rw [rngD_len];omega),rfl,fun i ys e => ∃ R:List (List Int),ys=R.map dRow∧R.length=i∧Tab (1+xb) R wd ∧ ∃ p t,PenOk p∧e=[.pen p,.val (.int (1+xw)),.val (.int (1+xb)),t],⟨[],rfl,rfl,⟨by omega,by simp,by simp,by simp⟩,_,_,hp2,rfl⟩,?_,?_⟩
  ·rintro i d ys e hd ⟨R,rfl,hR,hT,p,t,hp,rfl⟩
   refine ⟨rfl,rfl,wd,1+xb,by rw [← ew],hp,⟨by omega,by omega,by omega,by omega⟩,fun r p' r1 r2 r3 hp'=>?_⟩
   refine ⟨R++[r],by simp,by simp [hR],⟨by omega,?_,?_,?_⟩,p',_,hp',rfl⟩
   ·intro r' hr'
    rcases List.mem_append.mp hr' with h|h
    ·exact hT.len r' h
    ·rw [List.mem_singleton.mp h];exact r1
   ·intro r' hr'
    rcases List.mem_append.mp hr' with h|h
    ·exact hT.nn r' h
    ·rw [List.mem_singleton.mp h];exact r2
   ·intro r' hr'
    rcases List.mem_append.mp hr' with h|h
    ·exact hT.sum r' h
    ·rw [List.mem_singleton.mp h];exact r3
  ·rintro ys e ⟨R,rfl,hR,hT,p3,t,hp3,rfl⟩
   rw [rngD_len] at hR
   refine ⟨p3,rfl,rfl,rfl,6,rfl,hp3,⟨by decide,by decide⟩,fun xt p4 t0 t1 hp4=>?_⟩
   refine ⟨⟨by decide,by decide⟩,⟨by omega,by omega⟩,?_⟩
   refine ⟨fun i e => ∃ (b:Int) (R':List (List Int)) (n:Nat) (p:List PyData) (t:Sl),e=[.pen p,.val (.int many),.val (.int most),.val (.int far),.val (.int (1+xw)),.val (.int (1+xb)),.val (dRows R'),t]∧PenOk p∧Tab b R' n∧R'.length=R.length∧1≤n∧n≤most∧b≤60*4^i,⟨_,R,wd,_,_,rfl,hp4,hT,rfl,by omega,by omega,by omega⟩,?_,?_⟩
   ·rintro i d e hd ⟨b,R',n,p,t,rfl,hp,hT',hl,n1,n2,hb⟩
    obtain ⟨hi,rfl⟩:=rngD_inv hd
    have hRn:R'≠[]:=fun z=>by rw [z] at hl;simp at hl;omega
    obtain ⟨r0,R0,eR⟩:=List.exists_cons_of_ne_nil hRn
    have l0:r0.length=n:=hT'.len r0 (by rw [eR];simp)
    have aR:atI (R'.map dRow) 0=some (dRow r0):=by rw [eR];exact atI_zero _ _
    have eN:(((r0.map PyData.int).length:Nat):Int)=(n:Int):=by simp [l0]
    have hi3:i<3:=by omega
    have hb3:b≤999999:=by
     have:i=0∨i=1∨i=2:=by omega
     rcases this with rfl|rfl|rfl <;> omega
    refine ⟨_,aR,iteD (fun hlt=>?_) (fun hge=>?_)⟩
    ·refine ⟨rfl,rfl,b,R',n,rfl,hp,⟨hT',by omega,by omega,n1,by omega,hb3⟩,fun k R2 p' k1 k2 hT2 hl2 hp'=>?_⟩
     refine ⟨b*k,R2,n+1,p',_,rfl,hp',hT2,by omega,by omega,by omega,?_⟩
     have bp:=hT'.pos
     have e1:b*k≤b*4:=Int.mul_le_mul_of_nonneg_left k2 (by omega)
     have:i=0∨i=1∨i=2:=by omega
     rcases this with rfl|rfl|rfl <;> omega
    ·refine ⟨b,R',n,p,_,rfl,hp,hT',hl,n1,n2,?_⟩
     have:i=0∨i=1∨i=2:=by omega
     rcases this with rfl|rfl|rfl <;> omega
   ·rintro e ⟨b,R',n,p,t,rfl,hp,hT',hl,n1,n2,hb⟩
    rw [rngD_len] at hb
    have hRn:R'≠[]:=fun z=>by rw [z] at hl;simp at hl;omega
    obtain ⟨r0,R0,eR⟩:=List.exists_cons_of_ne_nil hRn
    have aR:atI (R'.map dRow) 0=some (dRow r0):=by rw [eR];exact atI_zero _ _
    have hs0:r0.sum=b:=hT'.sum r0 (by rw [eR];simp)
    have hb3:b≤9999:=by
     have:(xt/2).toNat=0∨(xt/2).toNat=1∨(xt/2).toNat=2:=by omega
     rcases this with z|z|z <;> rw [z] at hb <;> omega
    have bp:=hT'.pos
    have hL:=hT'.gls hRn
    refine ⟨_,aR,r0,rfl,r0.sum,R',n,rfl,⟨by rw [hs0];exact hT',hRn,by omega,by omega,by rw [hs0];exact sm (by omega) (by omega)⟩,?_⟩
    rw [hs0]
    refine ⟨_,_,rfl,rfl,h _ _ n p hL (Int.le_trans (Int.ediv_le_self _ (by omega)) hb3) ?_ n1 n2 hp⟩
    unfold divT
    rw [List.length_map];omega
def sp__law_weights (ds0 ds:List PyData) (q:PyData→List PyData→Prop):Prop := ∃ m:Int,ds=[.int m]∧PenOk ds0∧(2≤m∧m≤4) ∧ ∀ (W:List Int) (p:List PyData),Wgt W→W.length=m→PenOk p→q (.tuple (W.map .int)) p
theorem sc__law_weights:FnScope ["_law_pen_here","_law_many","_law_far"] ["_law_pen_here","_law_many"] (defScope s__law_weights):=sc0
theorem ok__law_weights (F:Def K mg "_law_weights" s__law_weights ["_law_pen_here","_law_many"]) (T:Txt K mg cs)
 (O__law_next:Ok P w K mg base "_law_next" 2 ["_law_pen_here","_law_many"] (NSp K sp__law_next))
 : Ok P w K mg base "_law_weights" 3 ["_law_pen_here","_law_many"] (NSp K sp__law_weights):=by
  refine F.vokP sc__law_weights (by rintro ds0 ds q ⟨_,h,_⟩;rw [h];rfl) (by decide) fun f cdv A outer s H E hr ds0 ds q h=>?_
  obtain ⟨m,rfl,hP,⟨m2,m4⟩,h⟩:=h
  refine ⟨_,(vss_cons (vs_set (i:=2) sc__law_weights.nd (ve_ix (vf_fz (vf_lst (va_cons ve_int (va_cons ve_int va_nil)))) (ve_fnN 0 O__law_next.c (hr.mono (by decide)) (va_cons ve_int va_nil))))
   (vss_one (vs_ret (ve_callTy c_tuple T.tuple_ L2.boot_tuple (va_cons (vf_fz (vf_compP (caps:=["_law_pen_here","_law_far"]) (own:=["_law_stand"]) (ix:=[0,2]) (i0:=0) (j0:=0) rfl ⟨rfl,rfl,rfl,rfl,rfl,rfl⟩ (vi_range1 T.range_ (ve_var 1)) (fun _ _ _ _=>(vg_name (i:=2) (show List.Nodup (["_law_pen_here","_law_far","_law_stand"]:List Str) by decide))) (fun _ _ _ _=>(ve_op o_add ve_int (ve_fnN 0 O__law_next.c (hr.mono (by decide)) (va_cons (ve_var 1) va_nil)))) (pen_once rfl))) va_nil))))),?_⟩
  refine ⟨szl,rfl,rfl,2,rfl,hP,⟨by decide,by decide⟩,fun x p1 x0 x1 hp1=>?_⟩
  obtain ⟨far,ef,f1,f2⟩ : ∃ far:Int,atI [PyData.int 5,PyData.int 1000] x=some (PyData.int far)∧5≤far∧far≤1000:=by
   have:x=0∨x=1:=by omega
   rcases this with rfl|rfl
   ·exact ⟨5,rfl,by decide,by decide⟩
   ·exact ⟨1000,rfl,by decide,by decide⟩
  refine ⟨.int far,ef,⟨by omega,by omega⟩,?_⟩
  refine ⟨small1000 (by rw [rngD_len];omega),rfl,fun i ys e => ∃ cs:List Int,ys=cs.map .int∧cs.length=i∧(∀ c ∈ cs,1≤c∧c≤1000) ∧ ∃ p t,PenOk p∧e=[.pen p,.val (.int far),t],⟨[],rfl,rfl,by simp,_,_,hp1,rfl⟩,?_,?_⟩
  ·rintro i d ys e hd ⟨cs,rfl,hc1,hc2,p,t,hp,rfl⟩
   refine ⟨rfl,rfl,far,rfl,hp,⟨by omega,bits_up (bits64 (by omega) (by omega)) (by decide)⟩,fun x p' x0 x1 hp'=>?_⟩
   refine ⟨cs++[1+x],by simp,by simp [hc1],fun c hc=>?_,p',_,hp',rfl⟩
   rcases List.mem_append.mp hc with hc|hc
   ·exact hc2 c hc
   ·rw [List.mem_singleton.mp hc];omega
  ·rintro ys e ⟨cs,rfl,hc1,hc2,p,t,hp,rfl⟩
   rw [rngD_len] at hc1
   refine ⟨p,rfl,?_⟩
   have hl:(cs.length:Int)=m:=by omega
   exact ⟨_,_,rfl,rfl,h cs p ⟨by omega,by omega,fun w hw=>(hc2 w hw).1,fun w hw=>(hc2 w hw).2⟩ hl hp⟩
def sp__law_share (ds:List PyData) (q:PyData→Prop):Prop := ∃ t b:Int,ds=[.int t,.int b]∧(1≤b∧intBits b≤9000)∧q (dSh (shT t b) (shB t b))
theorem sh_pos {t b:Int} (h:1≤b):shT t b=t/(Int.gcd t b:Int)∧shB t b=b/(Int.gcd t b:Int):=by
 unfold shT shB cm
 rw [if_neg (by omega)]
 exact ⟨Int.fdiv_eq_ediv_of_nonneg _ (by omega),Int.fdiv_eq_ediv_of_nonneg _ (by omega)⟩
theorem sc__law_share:FnScope ["_law_top","_law_bottom","_law_both"] ["_law_top","_law_bottom"] (defScope s__law_share):=sc0
theorem ok__law_share (F:Def K mg "_law_share" s__law_share ["_law_top","_law_bottom"]) (T:Txt K mg cs)
 (O__law_divisor:Ok P w K mg base "_law_divisor" 1 ["_law_numbers"] (PSp K sp__law_divisor))
 : Ok P w K mg base "_law_share" 2 ["_law_top","_law_bottom"] (PSp K sp__law_share):=by
  refine F.vok sc__law_share (by rintro ds q ⟨_,_,h,_⟩;rw [h];rfl) fun f cdv A outer s H E hr ds q h=>?_
  obtain ⟨t,b,rfl,⟨hb,zb⟩,h⟩:=h
  refine ⟨_,(vss_cons (vs_set (i:=2) sc__law_share.nd (ve_fn O__law_divisor.c (hr.mono (by decide)) (va_cons (vf_fz (vf_lst (va_cons (ve_var 0) (va_cons (ve_var 1) va_nil)))) va_nil)))
   (vss_one (vs_ret (ve_tup (va_cons (ve_op o_div (ve_var 0) (ve_var 2)) (va_cons (ve_op o_div (ve_var 1) (ve_var 2)) va_nil)))))),?_⟩
  have eg:gRow 0 [t,b]=Int.gcd t b:=by
   show Int.gcd ((Int.gcd ((0:Nat):Int) t:Nat):Int) b=Int.gcd t b
   simp
   show Nat.gcd (Int.natAbs (t.natAbs:Int)) b.natAbs=Nat.gcd t.natAbs b.natAbs
   rw [Int.natAbs_natCast]
  have g0:=gcd_pos (t:=t) (b:=b) (by omega)
  have zg:intBits (Int.gcd t b:Int)≤9000:=by
   refine intBits_le_of_natAbs ?_ zb
   exact Nat.le_of_dvd (by omega) (Nat.gcd_dvd_right t.natAbs b.natAbs)
  refine ⟨szl,_,[t,b],rfl,rfl,?_⟩
  rw [eg]
  obtain ⟨e1,e2⟩:=sh_pos (t:=t) hb
  rw [e1,e2] at h
  exact ⟨⟨by omega,zg⟩,⟨by omega,zg⟩,szl,h⟩
def sp__law_belief (ds:List PyData) (q:PyData→Prop):Prop := ∃ (W:List Int) (f:Int) (T:List (List Int)) (n j:Nat),ds=[.tuple (W.map .int),.list ((colI T j).map .int)]∧(Tab f T n∧W.length=T.length∧Wgt W∧f≤100000∧0<(lkl W T j).sum)∧q (.tuple ((belS W T j).map dS))
theorem sc__law_belief:FnScope ["_law_weights_here","_law_column","_law_parts"] ["_law_weights_here","_law_column"] (defScope s__law_belief):=sc0
theorem ok__law_belief (F:Def K mg "_law_belief" s__law_belief ["_law_weights_here","_law_column"]) (T:Txt K mg cs)
 (O__law_share:Ok P w K mg base "_law_share" 2 ["_law_top","_law_bottom"] (PSp K sp__law_share))
 : Ok P w K mg base "_law_belief" 3 ["_law_weights_here","_law_column"] (PSp K sp__law_belief):=by
  refine F.vok sc__law_belief (by rintro ds q ⟨_,_,_,_,_,h,_⟩;rw [h];rfl) fun f cdv A outer s H E hr ds q h=>?_
  obtain ⟨W,b,R,n,j,rfl,⟨hT,hl,hW,hb,hs⟩,h⟩:=h
  refine ⟨_,(vss_cons (vs_set (i:=2) sc__law_belief.nd (vf_fz (vf_comp (caps:=[]) (own:=["_law_weight","_law_number"]) (ix:=[]) rfl ⟨rfl,rfl,rfl,rfl,rfl,rfl⟩ (vi_zip2 T.zip_ (ve_var 0) (ve_var 1)) (fun _ _ _ _=>(vg_tup (n:=2) rfl (vgs_cons (vg_name (i:=0) (show List.Nodup (["_law_weight","_law_number"]:List Str) by decide)) (vgs_cons (vg_name (i:=1) (show List.Nodup (["_law_weight","_law_number"]:List Str) by decide)) vgs_nil)))) (fun _ _ _ _=>(ve_op o_mulI (ve_var 0) (ve_var 1))))))
   (vss_one (vs_ret (ve_callTy c_tuple T.tuple_ L2.boot_tuple (va_cons (vf_fz (vf_comp (caps:=["_law_parts"]) (own:=["_law_part"]) (ix:=[2]) rfl ⟨rfl,rfl,rfl,rfl,rfl,rfl⟩ (vi_seq (ve_var 2)) (fun _ _ _ _=>(vg_name (i:=1) (show List.Nodup (["_law_parts","_law_part"]:List Str) by decide))) (fun _ _ _ _=>(ve_fn O__law_share.c (hr.mono (by decide)) (va_cons (ve_var 1) (va_cons (ve_callB (c_sum rfl) T.sum_ L2.boot_sum (va_cons (ve_var 0) va_nil)) va_nil)))))) va_nil))))),?_⟩
  have f0:=hT.pos
  have l4:=hW.l4
  obtain ⟨w1,w4⟩:=hW.sum
  obtain ⟨s0,s1⟩:=lkl_le (j:=j) hW hl hT
  have wb:W.sum*b≤4000*100000:=Int.mul_le_mul w4 hb (by omega) (by omega)
  have up : ∀ {x:Int},0≤x→x≤1000000000→intBits x≤64:=fun h1 h2=>bits64 (by omega) (by omega)
  refine comp_by ((lkl W R j).map .int) (by simp [zipD_len,lkl,col_len]) (small1000 (by rw [List.length_map,lkl_len hl];omega)) (fun e => ∃ s t,e=[s,t]) ⟨_,_,rfl⟩ ?_ ?_
  ·rintro i x ys e hx hys ⟨s,t,rfl⟩
   obtain ⟨x,y,h3,h4,rfl⟩:=zipD_inv hx
   obtain ⟨x,rfl,h5,m5⟩:=int_get h3
   obtain ⟨y,rfl,h6,m6⟩:=int_get h4
   have a1:=hW.w1 x m5
   have a2:=hW.w2 x m5
   have zy:0≤y∧y≤b:=by
    rcases col_mem m6 with rfl|⟨d,hd,hy⟩
    ·omega
    ·exact hT.le hd hy
   refine ⟨rfl,rfl,mulok (bits_up (up (by omega) (by omega)) (by decide)) (bits_up (up (by omega) (by omega)) (by decide)),snoc_take ?_ hys,_,_,rfl⟩
   rw [List.getElem?_map]
   unfold lkl
   rw [zip_get h5 h6];rfl
  refine comp_by ((belS W R j).map dS) (by simp [belS]) (small1000 (by rw [List.length_map,bel_len hl];omega)) (fun e => ∃ t,e=[.val (.list ((lkl W R j).map .int)),t]) ⟨_,rfl⟩ ?_ ?_
  ·rintro i x ys e hx hys ⟨t,rfl⟩
   obtain ⟨x,rfl,h5,m5⟩:=int_get hx
   refine ⟨_,rfl,_,_,rfl,⟨by omega,bits_up (up (by omega) (by omega)) (by decide)⟩,snoc_take ?_ hys,_,rfl⟩
   rw [List.getElem?_map]
   unfold belS
   rw [List.getElem?_map,h5];rfl
  exact h
def updD (es:List DEnt) (k:PKy) (m:Int):List DEnt:=if (atD es k).isSome=true then es.map (fun x=>if x.1=k then (x.1,m) else x) else es++[(k,m)]
def pilG (seen:Nat→Bool) (key:Nat→PKy) (v:Nat→Int):Nat→List DEnt
 | 0=>[]
 | j+1=>if seen j=true then updD (pilG seen key v j) (key j) ((atD (pilG seen key v j) (key j)).getD 0+v j) else pilG seen key v j
theorem atD_cons (x:DEnt) (es:List DEnt) (k:PKy):atD (x::es) k=if x.1=k then some x.2 else atD es k:=by
 unfold atD
 by_cases e:x.1=k
 ·rw [List.find?_cons_of_pos (by simpa using e),if_pos e];rfl
 ·rw [List.find?_cons_of_neg (by simpa using e),if_neg e]
theorem atD_map {k:PKy}{m:Int} : ∀ (es:List DEnt) (k':PKy),atD (es.map (fun x=>if x.1=k then (x.1,m) else x)) k'=if k'=k then (atD es k).map (fun _=>m) else atD es k'
 | [],k'=>by simp [atD]
 | x::es,k'=>by
  rw [List.map_cons,atD_cons,atD_map es k',atD_cons,atD_cons]
  by_cases e:x.1=k <;> by_cases e':k'=k <;> simp [e,e']
  rw [if_neg (Ne.symm e'),if_neg (Ne.symm e')]
theorem atD_snoc {k:PKy}{m:Int} : ∀ (es:List DEnt) (k':PKy),atD (es++[(k,m)]) k'=if (atD es k').isSome=true then atD es k' else if k=k' then some m else none
 | [],k'=>by show atD [(k,m)] k'=_;rw [atD_cons];rfl
 | x::es,k'=>by
  rw [List.cons_append,atD_cons,atD_snoc es k',atD_cons]
  by_cases e:x.1=k' <;> simp [e]
theorem atD_mem : ∀ (es:List DEnt) (k:PKy),(atD es k).isSome=true↔k ∈ es.map (·.1)
 | [],k=>by simp [atD]
 | x::es,k=>by
  rw [atD_cons,List.map_cons,List.mem_cons,← atD_mem es k]
  by_cases e:x.1=k
  ·simp [e]
  ·simp [e,Ne.symm e]
theorem atD_upd (es:List DEnt) (k k':PKy) (m:Int):atD (updD es k m) k'=if k'=k then some m else atD es k':=by
 unfold updD
 by_cases e:(atD es k).isSome=true
 ·rw [if_pos e,atD_map]
  by_cases z:k'=k
  ·rw [if_pos z,if_pos z]
   cases q:atD es k with
   | none=>rw [q] at e;cases e
   | some x=>rfl
  ·rw [if_neg z,if_neg z]
 ·rw [if_neg e,atD_snoc]
  by_cases z:k'=k
  ·subst z;simp [e]
  ·rw [if_neg z,if_neg (Ne.symm z)]
   cases q:atD es k' with
   | none=>rfl
   | some x=>rfl
theorem upd_nd {es:List DEnt}{k:PKy}{m:Int} (h:(es.map (·.1)).Nodup):((updD es k m).map (·.1)).Nodup:=by
 unfold updD
 by_cases e:(atD es k).isSome=true
 ·rw [if_pos e,List.map_map]
  have:(es.map ((fun x:DEnt=>x.1) ∘ fun x=>if x.1=k then (x.1,m) else x))=es.map (·.1):=List.map_congr_left fun x _=>by
   show (if x.1=k then (x.1,m) else x).1=x.1
   split <;> rfl
  rw [this];exact h
 ·rw [if_neg e,List.map_append,List.nodup_append]
  refine ⟨h,by simp,fun a ha b hb=>?_⟩
  have hb:b=k:=by simpa using hb
  intro z
  exact e ((atD_mem es k).mpr (by rw [← hb,← z];exact ha))
section
variable {seen:Nat→Bool}{key:Nat→PKy}{v:Nat→Int}
theorem pil_nd : ∀ n,((pilG seen key v n).map (·.1)).Nodup
 | 0=>List.nodup_nil
 | n+1=>by
  unfold pilG
  split
  ·exact upd_nd (pil_nd n)
  ·exact pil_nd n
def pilJ (seen:Nat→Bool) (key:Nat→PKy) (k:PKy) (n:Nat):List Nat:=(List.range n).filter fun j=>seen j&&decide (key j=k)
theorem pil_at (k:PKy) : ∀ n,atD (pilG seen key v n) k=if pilJ seen key k n=[] then none else some ((pilJ seen key k n).map v).sum
 | 0=>rfl
 | n+1=>by
  have ih:=pil_at k n
  have eJ:pilJ seen key k (n+1)=pilJ seen key k n++(if (seen n&&decide (key n=k))=true then [n] else []):=by
   unfold pilJ
   rw [List.range_succ,List.filter_append,List.filter_cons]
   rfl
  rw [eJ]
  unfold pilG
  by_cases h:seen n=true
  ·rw [if_pos h,atD_upd]
   by_cases e:key n=k
   ·subst e
    rw [ih]
    simp only [h,decide_true,Bool.and_self,if_true]
    by_cases z:pilJ seen key (key n) n=[]
    ·simp [z]
    ·simp [z]
   ·rw [if_neg (Ne.symm e),ih]
    simp [e]
  ·rw [if_neg h,ih]
   simp [h]
theorem pil_len {n:Nat}{Ks:List PKy} (nd:Ks.Nodup) (h : ∀ k,k ∈ Ks ↔ ∃ j,j<n∧seen j=true∧key j=k):(pilG seen key v n).length=Ks.length:=by
 have p:((pilG seen key v n).map (·.1)).Perm Ks:=(List.perm_ext_iff_of_nodup (pil_nd n) nd).mpr fun k=>by
  rw [← atD_mem,pil_at,h k]
  constructor
  ·intro q
   by_cases z:pilJ seen key k n=[]
   ·rw [if_pos z] at q;cases q
   ·obtain ⟨j,r,e⟩:=List.exists_cons_of_ne_nil z
    have:j ∈ pilJ seen key k n:=by rw [e];simp
    have:=List.mem_filter.mp this
    exact ⟨j,List.mem_range.mp this.1,by simpa using this.2⟩
  ·rintro ⟨j,hj,h1,h2⟩
   rw [if_neg]
   ·rfl
   ·intro z
    have:j ∈ pilJ seen key k n:=List.mem_filter.mpr ⟨List.mem_range.mpr hj,by simp [h1,h2]⟩
    rw [z] at this;cases this
 rw [← p.length_eq,List.length_map]
end
def pil (W:List Int) (R:List (List Int)) (n:Nat):List DEnt:=pilG (fun j=>decide (0<(colI R j).sum)) (fun j=>belS W R j) (fun j=>(lkl W R j).sum) n
theorem pil_le (W:List Int) (R:List (List Int)) : ∀ n,(pil W R n).length≤n
 | 0=>Nat.le_refl _
 | n+1=>by
  have ih:=pil_le W R n
  unfold pil at ih ⊢
  unfold pilG
  split
  ·unfold updD
   split
   ·rw [List.length_map];omega
   ·rw [List.length_append];simp;omega
  ·omega
section
variable {W:List Int}{f:Int}{T:List (List Int)}{n:Nat}
theorem colI_sum (T:List (List Int)) (j:Nat):(colI T j).sum=sumN T.length fun s=>at2 T s j:=by
 rw [list_sumN,col_len]
 refine sumN_congr fun s hs=>?_
 unfold colI
 rw [List.getElem?_map,List.getElem?_eq_getElem hs,at2_get (List.getElem?_eq_getElem hs)];rfl
theorem seen_pos (hW:Wgt W) (h:W.length=T.length) (hT:Tab f T n) {j:Nat} (hj:0<(colI T j).sum):0<(lkl W T j).sum:=by
 rw [lkl_sum h]
 rw [colI_sum] at hj
 have:(sumN T.length fun s=>at2 T s j)≤sumN T.length fun s=>(W[s]?).getD 0*at2 T s j:=sumN_mono fun s hs=>by
  have a:=(hW.at (s:=s) (by omega)).1
  have b:=at2_nn hT.nn s j
  have:=Int.mul_le_mul_of_nonneg_right a b
  omega
 omega
end
def sp__law_piles (ds:List PyData) (q:PyData→Prop):Prop := ∃ (b:Int) (R:List (List Int)) (n:Nat) (W:List Int),ds=[dTab b R,.tuple (W.map .int)]∧(Tab b R n∧W.length=R.length∧Wgt W∧n≤12∧b≤100000)∧q (.dict (eD (pil W R n)))
theorem put_pil {xs:List XEnt}{es:List DEnt}{k:PKy}{a:Addr}{m:Int} (e:xs.map (fun x=>(x.1,x.2.2))=es):(putX xs k a m).map (fun x=>(x.1,x.2.2))=updD es k m:=by
 subst e
 unfold putX updD
 rw [atD_x]
 split
 ·rw [List.map_map,List.map_map]
  refine List.map_congr_left fun x _=>?_
  show (fun x:XEnt=>((x.1,x.2.2):DEnt)) (if x.1=k then (x.1,x.2.1,m) else x)=if x.1=k then (x.1,m) else (x.1,x.2.2)
  split <;> rfl
 ·rw [List.map_append];rfl
theorem st7 {K:PySem.W.Frag}{M:L2.Frm}{F H:Hp}{g w:PyData}{d:V}{s3 s4 s5 s6:Sl}{σ:St} (I:EnvOk K M F H [.val g,.val w,.at d,s3,s4,s5,s6] σ) : ∃ vg vw o3 o4 o5 o6,σ=[some vg,some vw,some d,o3,o4,o5,o6]∧(Is K F g vg∧Is K F w vw)∧SlotOk K M F H s5 o5∧SlotOk K M F H s6 o6:=by
 have l:=I.len
 match σ,l,I with
 | [x0,x1,x2,x3,x4,x5,x6],_,I =>
  obtain ⟨vg,e0,i0⟩:=(show ∃ v,x0=some v∧Is K F g v from I.slot 0)
  obtain ⟨vw,e1,i1⟩:=(show ∃ v,x1=some v∧Is K F w v from I.slot 1)
  have e2:x2=some d:=I.slot 2
  subst e0 e1 e2
  exact ⟨vg,vw,x3,x4,x5,x6,rfl,⟨i0,i1⟩,I.slot 5,I.slot 6⟩
theorem sc__law_piles:FnScope ["_law_glass","_law_weights_here","_law_found","_law_sign","_law_column","_law_belief_here","_law_parts"] ["_law_glass","_law_weights_here"] (defScope s__law_piles):=sc0
theorem ok__law_piles (F:Def K mg "_law_piles" s__law_piles ["_law_glass","_law_weights_here"]) (T:Txt K mg cs)
 (O__law_belief:Ok P w K mg base "_law_belief" 3 ["_law_weights_here","_law_column"] (PSp K sp__law_belief))
 : Ok P w K mg base "_law_piles" 4 ["_law_glass","_law_weights_here"] (PSp K sp__law_piles):=by
  refine F.ok sc__law_piles (by rintro vs H Q E ⟨F,ds,q,_,i,⟨_,_,_,_,h,_⟩,_⟩;rw [i.len,h];rfl) fun f cdv A outer s H vs Q E hr h=>?_
  obtain ⟨F0,ds,q,sm,hi,⟨b,R,n,W,rfl,⟨hT,hl,hW,n9,hb⟩,hq⟩,kk⟩:=h
  refine ⟨_,pss_cons (ps_set (i:=2) sc__law_piles.nd rfl (by first|exact Or.inl rfl|exact Or.inr rfl) pe_dnewX) (pss_cons (ps_for PassesOwn.never rfl (VI.pi (vi_range1 T.range_ (ve_callB c_len T.len_ L2.boot_len (va_cons (ve_ix (ve_ix (ve_var 0) ve_int) ve_int) va_nil)))) (pg_name (i:=3) sc__law_piles.nd rfl (by first|exact Or.inl rfl|exact Or.inr rfl) (by first|exact .inl rfl|exact .inr rfl)) (pss_cons (VS.ps (vs_setC (caps:=["_law_sign"]) (own:=["_law_row_here"]) (ix:=[3]) (i:=4) sc__law_piles.nd rfl ⟨rfl,rfl,rfl,rfl,rfl,rfl⟩ (vi_seq (ve_ix (ve_var 0) ve_int)) (fun _ _ _ _=>(vg_name (i:=1) (show List.Nodup (["_law_sign","_law_row_here"]:List Str) by decide))) (fun _ _ _ _=>(ve_ix (ve_var 1) (ve_var 0))))) (pss_one (ps_if (VT.pt (vt_cmp o_gt (ve_callB (c_sum rfl) T.sum_ L2.boot_sum (va_cons (ve_var 4) va_nil)) ve_int)) (pss_cons (VS.ps (vs_set (i:=5) sc__law_piles.nd (ve_fn O__law_belief.c (hr.mono (by decide)) (va_cons (ve_var 1) (va_cons (ve_var 4) va_nil))))) (pss_cons (VS.ps (vs_setC (caps:=[]) (own:=["_law_weight","_law_number"]) (ix:=[]) (i:=6) sc__law_piles.nd rfl ⟨rfl,rfl,rfl,rfl,rfl,rfl⟩ (vi_zip2 T.zip_ (ve_var 1) (ve_var 4)) (fun _ _ _ _=>(vg_tup (n:=2) rfl (vgs_cons (vg_name (i:=0) (show List.Nodup (["_law_weight","_law_number"]:List Str) by decide)) (vgs_cons (vg_name (i:=1) (show List.Nodup (["_law_weight","_law_number"]:List Str) by decide)) vgs_nil)))) (fun _ _ _ _=>(ve_op o_mulI (ve_var 0) (ve_var 1))))) (pss_one (ps_dputX hr.u2
   (pv 2) (pv 5)
   (pe_add (pe_dget2X hr.u2 (pv 2) (pv 5) pe_int ⟨rfl,rfl,rfl,rfl⟩) (VE.pe (ve_callB (c_sum rfl) T.sum_ L2.boot_sum (va_cons (ve_var 6) va_nil)))) rfl)))) pss_nil))))
   (pss_one (ps_ret (pv 2)))),?_⟩
  obtain ⟨vg,vw,rfl,ig,iw⟩:=iss2 hi
  have l2:=hW.l2
  have l4:=hW.l4
  obtain ⟨r0,R0,eR⟩:=List.exists_cons_of_ne_nil (show R≠[] from fun z=>by rw [z] at hl;rw [hl] at l2;simp at l2)
  have lr:r0.length=n:=hT.len r0 (by rw [eR];simp)
  have aR:atI (R.map tRow) 0=some (tRow r0):=by rw [eR];exact atI_zero _ _
  have b0:=hT.pos
  have up : ∀ {x:Int},0≤x→x≤1000000000→intBits x≤64:=fun h1 h2=>bits64 (by omega) (by omega)
  obtain ⟨w1,w4⟩:=hW.sum
  have wb:W.sum*b≤4000*100000:=Int.mul_le_mul w4 hb (by omega) (by omega)
  refine fun d hd=>?_
  have g0:Go F0 H F0 (upd H d (.ext (DX d []))):=Go.side sm hd
  have x0:XAt K H F0 (upd H d (.ext (DX d []))) d []:=⟨upd_same,same_none sm hd,hd,fun x hx=>by cases hx⟩
  have hE:EnvOk K ⟨upd H d (.ext (DX d [])),upd H d (.ext (DX d [])),F0⟩ F0 (upd H d (.ext (DX d []))) [.val (dTab b R),.val (.tuple (W.map .int)),.at (.ref d),.non,.non,.non,.non] [some vg,some vw,some (.ref d),none,none,none,none] :=
   env_of g0.fh ⟨_,_,rfl,⟨⟨vg,rfl,ig⟩,rfl⟩,_,_,rfl,⟨⟨vw,rfl,iw⟩,rfl⟩,_,_,rfl,⟨rfl,rfl⟩,_,_,rfl,⟨trivial,rfl⟩,_,_,rfl,⟨trivial,rfl⟩,_,_,rfl,⟨trivial,rfl⟩,_,_,rfl,⟨trivial,rfl⟩,rfl⟩
  refine for_raw (ds0:=rngD 0 n) hE ?_ (fun F2 i σ H2 => ∃ xs vg vw o3 o4 o5 o6,σ=[some vg,some vw,some (.ref d),o3,o4,o5,o6]∧(Is K F2 (dTab b R) vg∧Is K F2 (.tuple (W.map .int)) vw)∧Go F0 H F2 H2∧XAt K H F2 H2 d xs∧xs.map (fun x=>(x.1,x.2.2))=pil W R i) (fun F1 H1 g1=>⟨[],vg,vw,none,none,none,none,rfl,⟨ig.mono g1.f,iw.mono g1.f⟩,g0.trans g1,x0.go g1,rfl⟩) (fun F2 i σ H2 xx180=>by obtain ⟨_,_,_,_,_,_,_,_,_,g,_⟩:=xx180;exact g.fh) ?_ ?_
  ·refine ⟨_,rfl,_,aR,⟨by omega,by simp;omega⟩,?_⟩
   simp [lr]
  ·rintro F2 i σ2 H2 dx x F3 H3 ⟨xs,vg,vw,o3,o4,o5,o6,rfl,⟨ig,iw⟩,g2,a2,ex⟩ hdx g3 ix
   obtain ⟨hi',rfl⟩:=rngD_inv hdx
   rw [Int.zero_add] at ix
   obtain rfl:=ix.int_inv
   have g23:=g2.trans g3
   have a3:=a2.go g3
   have hE:EnvOk K ⟨H3,H3,F3⟩ F3 H3 [.val (dTab b R),.val (.tuple (W.map .int)),.at (.ref d),.val (.int i),.non,.non,.non] [some vg,some vw,some (.ref d),some (.int i),o4,o5,o6] :=
    env_of g23.fh ⟨_,_,rfl,⟨⟨vg,rfl,ig.mono g3.f⟩,rfl⟩,_,_,rfl,⟨⟨vw,rfl,iw.mono g3.f⟩,rfl⟩,_,_,rfl,⟨rfl,rfl⟩,_,_,rfl,⟨⟨_,rfl,is_int _⟩,rfl⟩,_,_,rfl,⟨trivial,rfl⟩,_,_,rfl,⟨trivial,rfl⟩,_,_,rfl,⟨trivial,rfl⟩,rfl⟩
   refine lift_step (fun e=>e=[.val (dTab b R),.val (.tuple (W.map .int)),.at (.ref d),.val (.int i),.val (.list ((colI R i).map .int)),.non,.non]) hE ?_ fun e4 F4 H4 σ4 I4 s4 q4=>?_
   ·refine ⟨_,rfl,comp_by ((colI R i).map .int) (by simp [col_len]) (small1000 (by simp [col_len];omega)) (fun e => ∃ s,e=[.val (.int i),s]) ⟨_,rfl⟩ ?_ rfl⟩
    rintro i2 x ys e hx hys ⟨s,rfl⟩
    rw [List.getElem?_map] at hx
    cases er:R[i2]? with
    | none=>rw [er] at hx;cases hx
    | some r =>
     rw [er] at hx
     cases hx
     have e3:=List.getElem?_eq_getElem (show i<r.length by rw [hT.len r (List.mem_of_getElem? er)];exact hi')
     refine ⟨_,atI_nat (by rw [List.getElem?_map,e3];rfl),snoc_take ?_ hys,_,rfl⟩
     rw [List.getElem?_map,col_get er e3];rfl
   subst q4
   have a4:=a3.go I4.goOf
   have g24:=g23.trans I4.goOf
   refine ⟨⟨H3,H3,F3⟩,_,F4,fun bb e=>bb=decide (0<(colI R i).sum)∧e=[.val (dTab b R),.val (.tuple (W.map .int)),.at (.ref d),.val (.int i),.val (.list ((colI R i).map .int)),.non,.non],I4,⟨_,rfl,rfl,rfl⟩,fun bb F5 H5 e5 I5 s5 q5=>?_⟩
   obtain ⟨rfl,rfl⟩:=q5
   have a5:=a3.go I5.goOf
   have g25:=g23.trans I5.goOf
   have ps:pil W R (i+1)=if decide (0<(colI R i).sum)=true then updD (pil W R i) (belS W R i) ((atD (pil W R i) (belS W R i)).getD 0+(lkl W R i).sum) else pil W R i:=rfl
   refine iteD (fun pos=>?_) (fun neg=>?_)
   ·rw [decide_eq_true pos,if_pos rfl] at ps
    have s0:=seen_pos hW hl hT pos
    have s1:=(lkl_le (j:=i) hW hl hT).2
    refine lift_step (fun e=>e=[.val (dTab b R),.val (.tuple (W.map .int)),.at (.ref d),.val (.int i),.val (.list ((colI R i).map .int)),.val (.tuple ((belS W R i).map dS)),.non]) I5 ⟨W,b,R,n,i,rfl,⟨hT,hl,hW,hb,s0⟩,rfl⟩ fun e6 F6 H6 σ6 I6 s6 q6=>?_
    subst q6
    refine lift_step (fun e=>e=[.val (dTab b R),.val (.tuple (W.map .int)),.at (.ref d),.val (.int i),.val (.list ((colI R i).map .int)),.val (.tuple ((belS W R i).map dS)),.val (.list ((lkl W R i).map .int))]) I6 ?_ fun e7 F7 H7 σ7 I7 s7 q7=>?_
    ·refine comp_by ((lkl W R i).map .int) (by simp [zipD_len,lkl,col_len]) (small1000 (by rw [List.length_map,lkl_len hl];omega)) (fun e => ∃ s t,e=[s,t]) ⟨_,_,rfl⟩ ?_ rfl
     rintro i2 x ys e hx hys ⟨s,t,rfl⟩
     obtain ⟨x,y,h3,h4,rfl⟩:=zipD_inv hx
     obtain ⟨x,rfl,h5,m5⟩:=int_get h3
     obtain ⟨y,rfl,h6,m6⟩:=int_get h4
     have a1:=hW.w1 x m5
     have a2:=hW.w2 x m5
     have zy:0≤y∧y≤b:=by
      rcases col_mem m6 with rfl|⟨d,hd,hy⟩
      ·omega
      ·exact hT.le hd hy
     refine ⟨rfl,rfl,mulok (bits_up (up (by omega) (by omega)) (by decide)) (bits_up (up (by omega) (by omega)) (by decide)),snoc_take ?_ hys,_,_,rfl⟩
     rw [List.getElem?_map]
     unfold lkl
     rw [zip_get h5 h6];rfl
    subst q7
    obtain ⟨vg',vw',o3',o4',_,_,rfl,⟨ig',iw'⟩,⟨v5,rfl,i5⟩,⟨v6,rfl,i6⟩⟩:=st7 I7
    have a7:=a3.go I7.goOf
    have g27:=g23.trans I7.goOf
    obtain ⟨kb,rfl,pk⟩:=Is.pk (k:=belS W R i) i5
    refine ⟨_,rfl,d,xs,rfl,a7.hd,_,rfl,atX xs (belS W R i),0,rfl,⟨xs,_,kb,a7.hd,fun x hx=>(a7.ks x hx).mono g27.fh,rfl,pk.mono g27.fh,rfl⟩,?_⟩
    refine ⟨⟨H3,H3,F3⟩,_,F7,fun dd e=>dd = .int (lkl W R i).sum∧e=[.val (dTab b R),.val (.tuple (W.map .int)),.at (.ref d),.val (.int i),.val (.list ((colI R i).map .int)),.val (.tuple ((belS W R i).map dS)),.val (.list ((lkl W R i).map .int))],I7,⟨_,rfl,rfl,rfl⟩,fun dd v F8 H8 e8 I8 s8 i8 q8=>?_⟩
    obtain ⟨rfl,rfl⟩:=q8
    obtain rfl:=i8.int_inv
    have a8:=a3.go I8.goOf
    have g28:=g23.trans I8.goOf
    have pk8:=pk.mono s8
    have ll:xs.length≤i:=by
     have:=pil_le W R i
     rw [← ex,List.length_map] at this
     exact this
    refine ⟨_,_,rfl,rfl,_,rfl,_,rfl,d,kb,xs,belS W R i,_,rfl,rfl,rfl,a8.hd,fun x hx=>(a8.ks x hx).mono g28.fh,pk8.mono g28.fh,by omega,F8,g3.f.trans I8.goOf.f,putX xs (belS W R i) kb _,vg',vw',_,_,_,_,rfl,⟨ig'.mono s8,iw'.mono s8⟩,g28.at a8.fd a8.nd,⟨upd_same,a8.fd,a8.nd,putX_keys a8.ks pk8⟩,?_⟩
    rw [put_pil ex,ps,← ex,atD_x]
   ·rw [decide_eq_false neg] at ps
    obtain ⟨vg',vw',o3',o4',o5',o6',rfl,⟨ig',iw'⟩,_⟩:=st7 I5
    exact ⟨F5,g3.f.trans I5.goOf.f,xs,vg',vw',_,_,_,_,rfl,⟨ig',iw'⟩,g25,a5,by rw [ex,ps];rfl⟩
  ·rintro F2 σ H2 ⟨xs,vg,vw,o3,o4,o5,o6,rfl,_,g2,a2,ex⟩
   rw [rngD_len] at ex
   refine ⟨_,rfl,kk (.dict (eD (pil W R n))) (.ref d) (upd F2 d (.ext (DX d xs))) H2 (go_fz g2 hd a2.hd) (is_dctX ⟨xs,upd_same,?_,fun x hx=>(a2.ks x hx).mono (same_fz g2.fh a2.hd)⟩) hq⟩
   rw [← ex]
   exact eD_xD xs
def sp__law_whole:DC
 | [d],q=>q (.bool (match d with | .int _=>true|_=>false))
 | _,_=>False
theorem sc__law_whole:FnScope ["_law_thing"] ["_law_thing"] (defScope s__law_whole):=sc0
theorem ok__law_whole (F:Def K mg "_law_whole" s__law_whole ["_law_thing"]) (T:Txt K mg cs)
 : Ok P w K mg base "_law_whole" 1 ["_law_thing"] (PSp K sp__law_whole):=by
  refine F.vok sc__law_whole (fun ds q h=>by unfold sp__law_whole at h;split at h;all_goals first|rfl|exact h.elim) fun f cdv A outer s H E hr ds q h=>?_
  match ds,h with
  | [d],h =>
  refine ⟨_,(vss_one (vs_ret (ve_and (ve_isi T.isinstance_ T.int_ L2.boot_int (ve_var 0)) (ve_one (ve_not (ve_isi T.isinstance_ T.bool_ L2.boot_bool (ve_var 0))))))),?_⟩
  cases d <;> exact h
def Shp (n:Nat) (d:PyData):Prop:=d.canLay0=true∧d.depth≤n
theorem shp_all {n:Nat} : ∀ {l:List PyData},(∀ x ∈ l,Shp n x)→PyData.canLayAll0 l=true∧PyData.depthAll l≤n
 | [],_=>by simp [PyData.canLayAll0,PyData.depthAll]
 | x::l,h=>by
  obtain ⟨a,b⟩:=shp_all fun y hy=>h y (List.mem_cons_of_mem _ hy)
  obtain ⟨c,d⟩:=h x (by simp)
  rw [PyData.canLayAll0,PyData.depthAll,a,c]
  exact ⟨rfl,by omega⟩
theorem shp_int (i:Int) (n:Nat):Shp n (.int i):=by simp [Shp,PyData.canLay0,PyData.depth]
theorem shp_lst {n:Nat}{l:List PyData} (h : ∀ x ∈ l,Shp n x):Shp (n+1) (.list l):=by
 obtain ⟨a,b⟩:=shp_all h
 rw [Shp,PyData.canLay0,PyData.depth]
 exact ⟨a,by omega⟩
theorem shp_tup {n:Nat}{l:List PyData} (h : ∀ x ∈ l,Shp n x):Shp (n+1) (.tuple l):=by
 obtain ⟨a,b⟩:=shp_all h
 rw [Shp,PyData.canLay0,PyData.depth]
 exact ⟨a,by omega⟩
theorem Shp.ok {n:Nat}{d:PyData} (h:Shp n d) (hn:n≤64:=by decide):SeqAt.shaped d=true:=by
 unfold SeqAt.shaped
 rw [h.1,decide_eq_true (Nat.le_trans h.2 hn)];rfl
theorem Shp.refl {n:Nat}{d:PyData} (h:Shp n d):PyData.eqv d d=true:=SeqAt.eqv_refl d h.1
def TD:Nat→PyData→Prop
 | 0,d => ∃ n,d = .int n
 | k+1,d=>(∃ n,d = .int n) ∨ ∃ l,d = .tuple l∧l.length≤900 ∧ ∀ x ∈ l,TD k x
def spS:Nat→DC
 | 0=>fun _ _=>False
 | k+1=>fun ds q => ∃ d,ds=[d,d]∧TD k d∧q (.bool true)
theorem sc__law_same:FnScope ["_law_found","_law_due"] ["_law_found","_law_due"] (defScope s__law_same):=sc0
theorem ok__law_same (F:Def K mg "_law_same" s__law_same ["_law_found","_law_due"]) (T:Txt K mg cs)
 (O__law_whole:Ok P w K mg base "_law_whole" 1 ["_law_thing"] (PSp K sp__law_whole))
 : Ok P w K mg base "_law_same" 6 ["_law_found","_law_due"] (PSp K (spS 4)):=by
  have O0:Ok P w K mg base "_law_same" 2 ["_law_found","_law_due"] (PSp K (spS 0)):=F.vok sc__law_same (fun ds q h=>h.elim) fun f cdv A outer s H E hr ds q h=>h.elim
  have step : ∀ {k L:Nat},1≤L→Ok P w K mg base "_law_same" L ["_law_found","_law_due"] (PSp K (spS k))→Ok P w K mg base "_law_same" (L+1) ["_law_found","_law_due"] (PSp K (spS (k+1))):=fun {k L} hL O__law_same=>by
   refine F.vok sc__law_same (by rintro ds q ⟨_,h,_⟩;rw [h];rfl) fun f cdv A outer s H E hr ds q h=>?_
   obtain ⟨d,rfl,hd,h⟩:=h
   refine ⟨_,(vss_cons (vs_if (vt_val (ve_isi T.isinstance_ T.tuple_ L2.boot_tuple (ve_var 1))) (vss_cons (vs_if (VW.pt (vw_or (vt_not (vt_val (ve_isi T.isinstance_ T.tuple_ L2.boot_tuple (ve_var 0)))) (vw_or1 (vt_cmp (o_ne hr.units) (ve_callB c_len T.len_ L2.boot_len (va_cons (ve_var 0) va_nil)) (ve_callB c_len T.len_ L2.boot_len (va_cons (ve_var 1) va_nil)))))) (vss_one (vs_ret ve_bl)) vss_nil)
    (vss_one (vs_ret (ve_cmp (o_eq hr.units) (vf_fz (vf_compIf (caps:=["_law_found","_law_due"]) (own:=["_law_k"]) (ix:=[0,1]) rfl ⟨rfl,rfl,rfl,rfl,rfl,rfl⟩ (vi_range1 T.range_ (ve_callB c_len T.len_ L2.boot_len (va_cons (ve_var 1) va_nil))) (fun _ _ _ _=>(vg_name (i:=2) (show List.Nodup (["_law_found","_law_due","_law_k"]:List Str) by decide))) (fun _ _ _ _=>(vt_not (vt_val (ve_fn O__law_same.c (hr.mono (by omega)) (va_cons (ve_ix (ve_var 0) (ve_var 2)) (va_cons (ve_ix (ve_var 1) (ve_var 2)) va_nil)))))) (fun _ _ _ _=>(ve_var 2)))) (vf_fz (vf_lst va_nil)))))) vss_nil)
    (vss_one (vs_ret (ve_and (ve_fn O__law_whole.c (hr.mono (by omega)) (va_cons (ve_var 0) va_nil)) (ve_one (ve_cmp (o_eq hr.units) (ve_var 0) (ve_var 1))))))),?_⟩
   have eI : ∀ n:Int,Shp 0 (.int n):=fun n=>shp_int n 0
   have e0:Shp 1 (.list []):=shp_lst fun x hx=>by cases hx
   cases k with
   | zero =>
    obtain ⟨n,rfl⟩:=hd
    exact ⟨rfl,rfl,by rw [(eI n).refl];exact h⟩
   | succ k =>
    rcases hd with ⟨n,rfl⟩|⟨l,rfl,l9,hx⟩
    ·exact ⟨rfl,rfl,by rw [(eI n).refl];exact h⟩
    ·refine ⟨rfl,rfl,ite_ne (fun z=>(z rfl).elim) (fun _=>?_)⟩
     refine ⟨⟨by omega,by omega⟩,small1000 (by rw [rngD_len];omega),fun j ys e=>ys=[] ∧ ∃ s,e=[.val (.tuple l),.val (.tuple l),s],⟨rfl,_,rfl⟩,?_,?_⟩
     ·rintro i x ys e hx' ⟨rfl,s,rfl⟩
      obtain ⟨hi,rfl⟩:=rngD_inv hx'
      rw [Int.zero_add]
      have hi':i<l.length:=by omega
      have el:l[i]?=some l[i]:=List.getElem?_eq_getElem hi'
      exact ⟨_,atI_nat el,_,atI_nat el,l[i],rfl,hx _ (List.getElem_mem hi'),rfl,_,rfl⟩
     ·rintro ys e ⟨rfl,s,rfl⟩
      exact ⟨szl,e0.ok,e0.ok,by rw [e0.refl];exact h⟩
  exact step (by decide) (step (by decide) (step (by decide) (step (by decide) O0)))
def lowL:List (Int×Int)→List (Int×Int)→Bool
 | p::x,q::y=>if p=q then lowL x y else decide (p.1*q.2<q.1*p.2)
 | _,_=>false
def sp__law_below (ds:List PyData) (q:PyData→Prop):Prop := ∃ x y:List (Int×Int),ds=[.tuple (x.map dS),.tuple (y.map dS)]∧(x.length=y.length∧x.length≤4∧(∀ p ∈ x,intBits p.1≤4000∧intBits p.2≤4000)∧(∀ p ∈ y,intBits p.1≤4000∧intBits p.2≤4000)∧lowL x y=true)∧q (.bool true)
theorem eqv_dS (p q:Int×Int):PyData.eqv (dS p) (dS q)=decide (p=q):=by
 obtain ⟨a,b⟩:=p
 obtain ⟨c,d⟩:=q
 show PyData.eqv (.tuple [.int a,.int b]) (.tuple [.int c,.int d])=_
 by_cases h1:a=c <;> by_cases h2:b=d <;> simp [PyData.eqv,PyData.eqvAll,h1,h2]
theorem shp_dS1 (p:Int×Int):Shp 1 (dS p):=shp_tup fun x hx=>by
 rcases List.mem_cons.mp hx with rfl|hx
 ·exact shp_int _ 0
 ·rw [List.mem_singleton.mp hx];exact shp_int _ 0
theorem sc__law_below:FnScope ["_law_one","_law_other","_law_k"] ["_law_one","_law_other"] (defScope s__law_below):=sc0
theorem ok__law_below (F:Def K mg "_law_below" s__law_below ["_law_one","_law_other"]) (T:Txt K mg cs)
 : Ok P w K mg base "_law_below" 1 ["_law_one","_law_other"] (PSp K sp__law_below):=by
  refine F.vok sc__law_below (by rintro ds q ⟨_,_,h,_⟩;rw [h];rfl) fun f cdv A outer s H E hr ds q h=>?_
  obtain ⟨x,y,rfl,⟨hl,l4,zx,zy,lo⟩,h⟩:=h
  refine ⟨_,(vss_cons (vs_for rfl (vi_range1 T.range_ (ve_callB c_len T.len_ L2.boot_len (va_cons (ve_var 0) va_nil))) (vg_name (i:=2) sc__law_below.nd) (vss_one (vs_if (vt_cmp (o_ne hr.units) (ve_ix (ve_var 0) (ve_var 2)) (ve_ix (ve_var 1) (ve_var 2))) (vss_one (vs_ret (ve_cmp o_lt (ve_op o_mulI (ve_ix (ve_ix (ve_var 0) (ve_var 2)) ve_int) (ve_ix (ve_ix (ve_var 1) (ve_var 2)) ve_int)) (ve_op o_mulI (ve_ix (ve_ix (ve_var 1) (ve_var 2)) ve_int) (ve_ix (ve_ix (ve_var 0) (ve_var 2)) ve_int))))) vss_nil)))
   (vss_one (vs_ret ve_bl))),?_⟩
  refine ⟨⟨by omega,by simp;omega⟩,fun j e=>lowL (x.drop j) (y.drop j)=true ∧ ∃ s,e=[.val (.tuple (x.map dS)),.val (.tuple (y.map dS)),s],⟨lo,_,rfl⟩,?_,?_⟩
  ·rintro i d e hd ⟨lo,s,rfl⟩
   obtain ⟨hi,rfl⟩:=rngD_inv hd
   rw [Int.zero_add]
   have hi1:i<x.length:=by simp at hi;omega
   have hi2:i<y.length:=by omega
   obtain ⟨p,ep⟩ : ∃ p,x[i]?=some p:=⟨_,List.getElem?_eq_getElem hi1⟩
   obtain ⟨r,er⟩ : ∃ r,y[i]?=some r:=⟨_,List.getElem?_eq_getElem hi2⟩
   have a1:atI (x.map dS) (i:Int)=some (dS p):=atI_nat (by rw [List.getElem?_map,ep];rfl)
   have a2:atI (y.map dS) (i:Int)=some (dS r):=atI_nat (by rw [List.getElem?_map,er];rfl)
   have d1:x.drop i=p::x.drop (i+1):=by rw [List.drop_eq_getElem_cons hi1,← Option.some.inj ((List.getElem?_eq_getElem hi1).symm.trans ep)]
   have d2:y.drop i=r::y.drop (i+1):=by rw [List.drop_eq_getElem_cons hi2,← Option.some.inj ((List.getElem?_eq_getElem hi2).symm.trans er)]
   rw [d1,d2] at lo
   unfold lowL at lo
   have z1:=zx p (List.mem_of_getElem? ep)
   have z2:=zy r (List.mem_of_getElem? er)
   refine ⟨_,a1,_,a2,(shp_dS1 p).ok,(shp_dS1 r).ok,?_⟩
   rw [eqv_dS]
   by_cases e:p=r
   ·rw [if_pos e] at lo
    rw [decide_eq_true e]
    exact iteZ rfl ⟨lo,_,rfl⟩
   ·rw [if_neg e] at lo
    rw [decide_eq_false e]
    refine iteY rfl ⟨_,a1,_,rfl,_,a2,_,rfl,mulok (bits_up z1.1 (by decide)) (bits_up z2.2 (by decide)),_,a2,_,rfl,_,a1,_,rfl,mulok (bits_up z2.1 (by decide)) (bits_up z1.2 (by decide)),?_⟩
    show q (.bool (decide (p.1*r.2<r.1*p.2)))
    rw [lo];exact h
  ·rintro e ⟨lo,_⟩
   rw [rngD_len] at lo
   have:x.drop ((x.map dS).length:Int).toNat=[]:=List.drop_of_length_le (by simp)
   rw [this] at lo
   simp [lowL] at lo
abbrev BRow:=(Int×Int)×List (Int×Int)
def rowD (r:BRow):PyData :=.tuple [dS r.1,.tuple (r.2.map dS)]
structure RgtOk (rows:List BRow) (es:List DEnt) (w:Int):Prop where
 len:rows.length=es.length
 ne:es≠[]
 l12:rows.length≤12
 w1:1≤w
 wz:intBits w≤4000
 «at» : ∀ r ∈ rows,∃ x,atD es r.2=some x∧(shT x w,shB x w)=r.1
 sh : ∀ r ∈ rows,r.2.length≤4 ∧ ∀ s ∈ r.2,1≤s.2∧(shT s.1 s.2=s.1∧shB s.1 s.2=s.2)∧intBits s.1≤4000∧intBits s.2≤4000
 lw : ∀ i r r',rows[i]?=some r→rows[i+1]?=some r'→r.2.length=r'.2.length∧lowL r.2 r'.2=true
def sp__law_right (ds:List PyData) (q:PyData→Prop):Prop := ∃ (rows:List BRow) (es:List DEnt) (w:Int),ds=[.list (rows.map rowD),.dict (eD es),.int w]∧RgtOk rows es w∧q (.bool true)
theorem td_dS (p:Int×Int):TD 3 (dS p):=by
 refine .inr ⟨_,rfl,by show 2≤900;decide,fun x hx=>?_⟩
 rcases List.mem_cons.mp hx with rfl|hx
 ·exact .inl ⟨_,rfl⟩
 ·rw [List.mem_singleton.mp hx];exact .inl ⟨_,rfl⟩
theorem sc__law_right:FnScope ["_law_found","_law_piles_here","_law_whole_here","_law_k","_law_part","_law_belief_here","_law_one"] ["_law_found","_law_piles_here","_law_whole_here"] (defScope s__law_right):=sc0
theorem ok__law_right (F:Def K mg "_law_right" s__law_right ["_law_found","_law_piles_here","_law_whole_here"]) (T:Txt K mg cs)
 (O__law_share:Ok P w K mg base "_law_share" 2 ["_law_top","_law_bottom"] (PSp K sp__law_share))
 (O__law_same:Ok P w K mg base "_law_same" 6 ["_law_found","_law_due"] (PSp K (spS 4)))
 (O__law_below:Ok P w K mg base "_law_below" 1 ["_law_one","_law_other"] (PSp K sp__law_below))
 : Ok P w K mg base "_law_right" 7 ["_law_found","_law_piles_here","_law_whole_here"] (PSp K sp__law_right):=by
  refine F.vok sc__law_right (by rintro ds q ⟨_,_,_,h,_⟩;rw [h];rfl) fun f cdv A outer s H E hr ds q h=>?_
  obtain ⟨rows,es,w,rfl,ok,h⟩:=h
  refine ⟨_,(vss_cons (vs_if (VW.pt (vw_or (vt_not (vt_val (ve_isi T.isinstance_ T.list_ L2.boot_list (ve_var 0)))) (vw_or1 (vt_cmp (o_ne hr.units) (ve_callB c_len T.len_ L2.boot_len (va_cons (ve_var 0) va_nil)) (ve_callB c_lenX T.len_ L2.boot_len (va_cons (ve_var 1) va_nil)))))) (vss_one (vs_ret ve_bl)) vss_nil)
   (vss_cons (vs_for rfl (vi_range1 T.range_ (ve_callB c_len T.len_ L2.boot_len (va_cons (ve_var 0) va_nil))) (vg_name (i:=3) sc__law_right.nd) (vss_cons (vs_if (VW.pt (vw_or (vt_not (vt_val (ve_isi T.isinstance_ T.tuple_ L2.boot_tuple (ve_ix (ve_var 0) (ve_var 3))))) (vw_or (vt_cmp (o_ne hr.units) (ve_callB c_len T.len_ L2.boot_len (va_cons (ve_ix (ve_var 0) (ve_var 3)) va_nil)) ve_int) (vw_or1 (vt_cmp (o_ninX hr.u2) (ve_ix (ve_ix (ve_var 0) (ve_var 3)) ve_int) (ve_var 1)))))) (vss_one (vs_ret ve_bl)) vss_nil)
   (vss_cons (vs_asg (ve_ix (ve_var 0) (ve_var 3)) (vg_tup (n:=2) rfl (vgs_cons (vg_name (i:=4) sc__law_right.nd) (vgs_cons (vg_name (i:=5) sc__law_right.nd) vgs_nil))))
   (vss_cons (vs_if (vt_not (vt_val (ve_fn O__law_same.c (hr.mono (by decide)) (va_cons (ve_var 4) (va_cons (ve_fn O__law_share.c (hr.mono (by decide)) (va_cons (ve_ditX hr.u2 (ve_var 1) (ve_var 5)) (va_cons (ve_var 2) va_nil))) va_nil))))) (vss_one (vs_ret ve_bl)) vss_nil)
   (vss_cons (vs_if (vt_not (vt_val (ve_isi T.isinstance_ T.tuple_ L2.boot_tuple (ve_var 5)))) (vss_one (vs_ret ve_bl)) vss_nil)
   (vss_cons (vs_for rfl (vi_seq (ve_var 5)) (vg_name (i:=6) sc__law_right.nd) (vss_one (vs_if (vt_not (vt_val (ve_fn O__law_same.c (hr.mono (by decide)) (va_cons (ve_var 6) (va_cons (ve_fn O__law_share.c (hr.mono (by decide)) (va_cons (ve_ix (ve_var 6) ve_int) (va_cons (ve_ix (ve_var 6) ve_int) va_nil))) va_nil))))) (vss_one (vs_ret ve_bl)) vss_nil)))
   (vss_one (vs_if (VW.pt (vw_and (vt_cmp o_gt (ve_var 3) ve_int) (vw_and1 (vt_not (vt_val (ve_fn O__law_below.c (hr.mono (by decide)) (va_cons (ve_ix (ve_ix (ve_var 0) (ve_op o_sub (ve_var 3) ve_int)) ve_int) (va_cons (ve_var 5) va_nil)))))))) (vss_one (vs_ret ve_bl)) vss_nil))))))))
   (vss_one (vs_ret ve_bl)))),?_⟩
  have ll:=ok.len
  have l12:=ok.l12
  have le:(eD es).length=es.length:=by unfold eD;rw [List.length_map]
  refine ⟨rfl,rfl,ite_ne (fun z=>(z (by rw [le,List.length_map,ll])).elim) (fun _=>?_)⟩
  refine ⟨⟨by omega,by simp;omega⟩,fun j e => ∃ s3 s4 s5 s6,e=[.val (.list (rows.map rowD)),.val (.dict (eD es)),.val (.int w),s3,s4,s5,s6],⟨_,_,_,_,rfl⟩,?_,?_⟩
  ·rintro i d e hd ⟨s3,s4,s5,s6,rfl⟩
   obtain ⟨hi,rfl⟩:=rngD_inv hd
   rw [Int.zero_add]
   have hi1:i<rows.length:=by simp at hi;omega
   obtain ⟨r,er⟩ : ∃ r,rows[i]?=some r:=⟨_,List.getElem?_eq_getElem hi1⟩
   have a1:atI (rows.map rowD) (i:Int)=some (rowD r):=atI_nat (by rw [List.getElem?_map,er];rfl)
   have mr:=List.mem_of_getElem? er
   obtain ⟨x,ax,ex⟩:=ok.at r mr
   obtain ⟨l4,sh⟩:=ok.sh r mr
   refine ⟨_,a1,_,a1,rfl,rfl,ite_ne (fun z=>(z rfl).elim) (fun _=>?_)⟩
   refine ⟨_,a1,_,rfl,es,r.2,rfl,ok.ne,rfl,iteZ (by rw [ax];rfl) ?_⟩
   refine ⟨_,a1,?_⟩
   refine ⟨rfl,rfl,es,r.2,x,rfl,ok.ne,rfl,ax,x,w,rfl,⟨ok.w1,bits_up ok.wz (by decide)⟩,dS r.1,by rw [← ex];rfl,td_dS _,?_⟩
   refine ⟨fun j e => ∃ s6,e=[.val (.list (rows.map rowD)),.val (.dict (eD es)),.val (.int w),.val (.int i),.val (dS r.1),.val (.tuple (r.2.map dS)),s6],⟨_,rfl⟩,?_,?_⟩
   ·rintro j d e hd ⟨s6,rfl⟩
    rw [List.getElem?_map] at hd
    cases es':r.2[j]? with
    | none=>rw [es'] at hd;cases hd
    | some s =>
     rw [es'] at hd
     cases hd
     obtain ⟨s1,⟨s2,s3⟩,z1,z2⟩:=sh s (List.mem_of_getElem? es')
     refine ⟨_,rfl,_,rfl,s.1,s.2,rfl,⟨s1,bits_up z2 (by decide)⟩,dS s,by rw [s2,s3];rfl,td_dS _,_,rfl⟩
   ·rintro e ⟨s6,rfl⟩
    refine iteD (fun pos=>?_) (fun neg=>⟨_,_,_,_,rfl⟩)
    obtain ⟨j,rfl⟩ : ∃ j,i=j+1:=⟨i-1,by have:(0:Int)<i:=pos;omega⟩
    obtain ⟨r',er'⟩ : ∃ r',rows[j]?=some r':=⟨_,List.getElem?_eq_getElem (by omega)⟩
    have a2:atI (rows.map rowD) (((j+1:Nat):Int)-1)=some (rowD r'):=by
     rw [show ((j+1:Nat):Int)-1=((j:Nat):Int) by omega]
     exact atI_nat (by rw [List.getElem?_map,er'];rfl)
    obtain ⟨l4',sh'⟩:=ok.sh r' (List.mem_of_getElem? er')
    obtain ⟨ll',lo⟩:=ok.lw j r' r er' er
    exact ⟨_,a2,_,rfl,r'.2,r.2,rfl,⟨ll',l4',fun p hp=>(sh' p hp).2.2,fun p hp=>(sh p hp).2.2,lo⟩,_,_,_,_,rfl⟩
  ·rintro e ⟨s3,s4,s5,s6,rfl⟩
   exact h
theorem sumz38 : ∀ {l:List Int},(∀ x ∈ l,x=0)→l.sum=0
 | [],_=>rfl
 | x::l,h=>by rw [List.sum_cons,h x (by simp),sumz38 fun y hy=>h y (by simp [hy])];rfl
theorem any_of_sum {c:List Int} (h:0<c.sum):c.any (· != 0)=true:=by
 apply Classical.byContradiction
 intro z
 have all : ∀ x ∈ c,x=0:=fun x hx=>by
  apply Classical.byContradiction
  intro y
  exact z (List.any_eq_true.mpr ⟨x,hx,by simpa using y⟩)
 rw [sumz38 all] at h
 omega
theorem nn_sum : ∀ {l:List Int},(∀ x ∈ l,0≤x)→0≤l.sum ∧ ∀ x ∈ l,x≤l.sum
 | [],_=>⟨by decide,fun x hx=>by cases hx⟩
 | y::l,h=>by
  obtain ⟨a,c⟩:=nn_sum (l:=l) fun x hx=>h x (by simp [hx])
  have y0:=h y (by simp)
  rw [List.sum_cons]
  refine ⟨by omega,fun x hx=>?_⟩
  rcases List.mem_cons.mp hx with rfl|hx
  ·omega
  ·have:=c x hx;omega
theorem Col.sum {c:List Int} (h:Col c):0<c.sum:=by
 obtain ⟨x,hx,z⟩:=h.nz
 have:=(nn_sum h.nn).2 x hx
 have:=h.nn x hx
 omega
section
variable {W:List Int}{b f:Int}{R T:List (List Int)}{n k:Nat}
theorem bel_of_prp (h:W.length=R.length) (hl:T.length=R.length) {s l:Nat} (sR:0<(lkl W R s).sum) (sT:0<(lkl W T l).sum) (pr : ∀ i j,i<R.length→j<R.length→at2 R i s*at2 T j l=at2 R j s*at2 T i l):belS W R s=belS W T l:=by
 refine List.ext_getElem? fun i=>?_
 by_cases hi:i<R.length
 ·rw [bel_get h hi,bel_get (T:=T) (by omega) (by omega)]
  congr 1
  refine (sh_cross sR sT).mpr ?_
  have e:at2 R i s*(lkl W T l).sum=at2 T i l*(lkl W R s).sum:=by
   rw [lkl_sum h,lkl_sum (by omega),hl,← sumN_mul,← sumN_mul]
   refine sumN_congr fun j hj=>?_
   have:=pr i j hi hj
   generalize at2 R i s=a at *
   generalize at2 T j l=c at *
   generalize at2 R j s=d at *
   generalize at2 T i l=e at *
   generalize (W[j]?).getD 0=w
   calc a*(w*c)=w*(a*c):=by grind
    _=w*(d*e):=by rw [this]
    _=_:=by grind
  rw [Int.mul_assoc,e,Int.mul_assoc]
 ·rw [List.getElem?_eq_none (by rw [bel_len h];omega),List.getElem?_eq_none (by rw [bel_len (by omega)];omega)]
theorem swap_sum (w:Nat→Int) (x:Nat→Nat→Int) (m:Nat) : ∀ G:List Nat,(G.map fun s=>sumN m fun i=>w i*x i s).sum=sumN m fun i=>w i*(G.map fun s=>x i s).sum
 | []=>by
  have:(sumN m fun i=>w i*((([]:List Nat).map fun s=>x i s).sum))=sumN m fun _=>0:=sumN_congr fun i _=>by simp
  rw [this]
  have z : ∀ m,(sumN m fun _=>(0:Int))=0:=fun m=>by
   induction m with
   | zero=>rfl
   | succ m ih=>show sumN m _+0=0;rw [ih];rfl
  rw [z];rfl
 | s::G=>by
  rw [List.map_cons,List.sum_cons,swap_sum w x m G]
  have add : ∀ (p q:Nat→Int) m,sumN m p+sumN m q=sumN m fun i=>p i+q i:=fun p q m=>by
   induction m with
   | zero=>rfl
   | succ m ih =>
    show (sumN m p+p m)+(sumN m q+q m)=sumN m (fun i=>p i+q i)+(p m+q m)
    rw [← ih];omega
  rw [add]
  refine sumN_congr fun i _=>?_
  rw [List.map_cons,List.sum_cons];grind
theorem bel_grp (hW:Wgt W) (h:W.length=R.length) (hT:Tab b R n) (hR:R≠[]) (fr:Frm b R n f T k) : ∃ (Gs:List (List Nat)) (g:Int),(0<g∧g*f=b∧Gs.length=k)∧(∀ s,s<n→0<(colI R s).sum → ∃ (l:Nat) (G:List Nat),Gs[l]?=some G∧s ∈ G) ∧
 ∀ (l:Nat) (G:List Nat),Gs[l]?=some G→(G.Nodup∧G≠[])∧(∀ s ∈ G,s<n∧0<(colI R s).sum∧belS W R s=belS W T l)∧(G.map fun s=>(lkl W R s).sum).sum=g*(lkl W T l).sum:=by
  obtain ⟨Gs,hG,ef⟩:=fr.g
  obtain ⟨ok,pt⟩:=hG.ok hT
  have tJ:=jTab hT ok
  have Jn:R.map (jRow Gs)≠[]:=by simpa using hR
  obtain ⟨g,g0,e1,e2⟩:=low_at tJ Jn
  have gl:=tJ.gls Jn
  obtain ⟨rf,rT⟩:=dTab_inj ef
  have lT:=fr.len
  rw [rf] at e1
  rw [rT] at e2
  rw [rf,rT] at gl
  have Tn:T≠[]:=fun z=>by rw [z] at lT;exact hR (List.length_eq_zero_iff.mp lT.symm)
  have kl:k=Gs.length:=Gls.wide Tn fr.gls gl
  refine ⟨Gs,g,⟨g0,e1,kl.symm⟩,fun s hs hc=>?_,fun l G el=>?_⟩
  ·obtain ⟨G,hG,hs⟩:=pt.all s hs (any_of_sum hc)
   obtain ⟨l,el⟩:=List.mem_iff_getElem?.mp hG
   exact ⟨l,G,el,hs⟩
  ·have mG:=List.mem_of_getElem? el
   have ll:l<k:=by rw [kl];exact (List.getElem?_eq_some_iff.mp el).1
   have sT:=lkl_pos hW (by omega) fr.gls.t fr.ind ll
   refine ⟨⟨pt.nd G mG,ok.ne G mG⟩,fun s hs=>?_,?_⟩
   ·obtain ⟨cs,en⟩:=pt.pr G mG s hs
    have c0:=cs.sum
    refine ⟨ok.lt G mG s hs,c0,bel_of_prp h lT (seen_pos hW h hT c0) sT fun i j hi hj=>?_⟩
    have pr:=prp_of_nrm en
    have col : ∀ {i:Nat},i<R.length→(colI R s)[i]?=some (at2 R i s):=fun {i} hi=>by
     unfold colI
     rw [List.getElem?_map,List.getElem?_eq_getElem hi,at2_get (List.getElem?_eq_getElem hi)];rfl
    have jcg : ∀ {i:Nat},i<R.length→(jc R G)[i]?=some (g*at2 T i l):=fun {i} hi=>by
     have:=jc_at2 (R:=R) el hi
     rw [e2,← this,List.getD_eq_getElem?_getD,List.getElem?_eq_getElem (by rw [jc_len];exact hi)];rfl
    have q:=pr i j _ _ _ _ (col hi) (col hj) (jcg hi) (jcg hj)
    refine Int.eq_of_mul_eq_mul_left (show g≠0 by omega) ?_
    calc g*(at2 R i s*at2 T j l)=at2 R i s*(g*at2 T j l):=by grind
     _=at2 R j s*(g*at2 T i l):=q
     _=_:=by grind
   ·have e3:(G.map fun s=>(lkl W R s).sum)=G.map fun s=>sumN R.length fun i=>(W[i]?).getD 0*at2 R i s:=List.map_congr_left fun s _=>lkl_sum h
    rw [e3,swap_sum,lkl_sum (by omega),lT,← sumN_mul]
    refine sumN_congr fun i hi=>?_
    have e4:(G.map fun s=>at2 R i s).sum=g*at2 T i l:=by
     rw [e2,jrow_at (List.getElem?_eq_getElem hi) el]
     unfold jnum
     congr 1
     exact List.map_congr_left fun s _=>at2_get (List.getElem?_eq_getElem hi)
    rw [e4];grind
theorem pil_right (hW:Wgt W) (h:W.length=R.length) (hT:Tab b R n) (hR:R≠[]) (fr:Frm b R n f T k):(pil W R n).length=k ∧ ∀ l,l<k → ∃ x,atD (pil W R n) (belS W T l)=some x∧0≤x∧x≤b*W.sum∧(shT x (b*W.sum),shB x (b*W.sum))=prtS W f T l:=by
 obtain ⟨Gs,g,⟨g0,gf,kl⟩,all,grp⟩:=bel_grp hW h hT hR fr
 have lT:=fr.len
 have t:=fr.gls.t
 have f0:=t.pos
 have b0:=hT.pos
 obtain ⟨w1,w4⟩:=hW.sum
 have inj : ∀ i j,i<k→j<k→belS W T i=belS W T j→i=j:=fun i j hi hj e=>bel_inj hW (by omega) t fr.ind hi hj e
 have at_ : ∀ {l:Nat},l<k → ∃ G,Gs[l]?=some G:=fun {l} hl=>⟨_,List.getElem?_eq_getElem (by omega)⟩
 have mem : ∀ {l s:Nat}{G:List Nat},Gs[l]?=some G→(s ∈ pilJ (fun j=>decide (0<(colI R j).sum)) (fun j=>belS W R j) (belS W T l) n↔s ∈ G):=fun {l s G} el=>by
  have hl:l<k:=by rw [← kl];exact (List.getElem?_eq_some_iff.mp el).1
  obtain ⟨_,g2,_⟩:=grp l G el
  unfold pilJ
  rw [List.mem_filter,List.mem_range]
  constructor
  ·rintro ⟨hs,q⟩
   have q:0<(colI R s).sum∧belS W R s=belS W T l:=by simpa using q
   obtain ⟨l',G',el',hs'⟩:=all s hs q.1
   have hl':l'<k:=by rw [← kl];exact (List.getElem?_eq_some_iff.mp el').1
   have:=inj l' l hl' hl (by rw [← ((grp l' G' el').2.1 s hs').2.2,q.2])
   subst this
   rw [el] at el';cases el'
   exact hs'
  ·intro hs
   obtain ⟨a,c,d⟩:=g2 s hs
   exact ⟨a,by simp [c,d]⟩
 constructor
 ·have nd:((List.range k).map fun l=>belS W T l).Nodup:=by
   rw [List.nodup_iff_pairwise_ne,List.pairwise_map]
   refine List.Pairwise.imp_of_mem (fun {a c} ha hc ne e=>ne (inj a c (List.mem_range.mp ha) (List.mem_range.mp hc) e)) (List.nodup_iff_pairwise_ne.mp List.nodup_range)
  have:=pil_len (seen:=fun j=>decide (0<(colI R j).sum)) (key:=fun j=>belS W R j) (v:=fun j=>(lkl W R j).sum) (n:=n) nd fun key=>by
   rw [List.mem_map]
   constructor
   ·rintro ⟨l,hl,rfl⟩
    obtain ⟨G,el⟩:=at_ (List.mem_range.mp hl)
    obtain ⟨⟨_,ne⟩,g2,_⟩:=grp l G el
    obtain ⟨s,r,e⟩:=List.exists_cons_of_ne_nil ne
    obtain ⟨a,c,d⟩:=g2 s (by rw [e];simp)
    exact ⟨s,a,by simpa using c,d⟩
   ·rintro ⟨s,hs,h1,rfl⟩
    obtain ⟨l,G,el,hs'⟩:=all s hs (by simpa using h1)
    exact ⟨l,List.mem_range.mpr (by rw [← kl];exact (List.getElem?_eq_some_iff.mp el).1),((grp l G el).2.1 s hs').2.2.symm⟩
  unfold pil
  rw [this,List.length_map,List.length_range]
 ·intro l hl
  obtain ⟨G,el⟩:=at_ hl
  obtain ⟨⟨nd,ne⟩,g2,g3⟩:=grp l G el
  have pm:(pilJ (fun j=>decide (0<(colI R j).sum)) (fun j=>belS W R j) (belS W T l) n).Perm G:=(List.perm_ext_iff_of_nodup (List.nodup_range.filter _) nd).mpr fun s=>mem el
  have pn:pilJ (fun j=>decide (0<(colI R j).sum)) (fun j=>belS W R j) (belS W T l) n≠[]:=fun z=>by
   rw [z] at pm
   exact ne (List.nil_perm.mp pm)
  obtain ⟨u0,u1⟩:=lkl_le (j:=l) hW (by omega) t
  refine ⟨g*(lkl W T l).sum,?_,Int.mul_nonneg (by omega) u0,?_,?_⟩
  ·unfold pil
   rw [pil_at,if_neg pn,← g3]
   congr 1
   exact perm_sum (pm.map _)
  ·rw [← gf,Int.mul_assoc,Int.mul_comm f]
   exact Int.mul_le_mul_of_nonneg_left u1 (by omega)
  ·unfold prtS
   refine (sh_cross (Int.mul_pos (by omega) (by omega)) (Int.mul_pos (by omega) f0)).mpr ?_
   rw [← gf];grind
end
section
variable {W:List Int}{f:Int}{T:List (List Int)}{k:Nat}{p:Array Nat}
end
theorem sh_low {p q:Int} (h:Shr p q):shT p q=p∧shB p q=q:=by
 obtain ⟨s,e⟩:=sh_ok (t:=p) (b:=q) (by have:=h.pos;omega)
 exact sh_uniq s h e
theorem over_cross {B:Int}{p q:Int×Int} (B0:0<B) (hp:Shr p.1 p.2∧p.2∣B) (hq:Shr q.1 q.2∧q.2∣B):(p.1*(B/p.2)=q.1*(B/q.2)→p=q)∧(p.1*(B/p.2)<q.1*(B/q.2)→p.1*q.2<q.1*p.2):=by
 obtain ⟨sp,dp⟩:=hp
 obtain ⟨sq,dq⟩:=hq
 have p0:=sp.pos
 have q0:=sq.pos
 obtain ⟨a,b⟩:=p
 obtain ⟨c,d⟩:=q
 simp only at *
 have e1:b*(B/b)=B:=Int.mul_ediv_cancel' dp
 have e2:d*(B/d)=B:=Int.mul_ediv_cancel' dq
 have k1:a*(B/b)*(b*d)=a*d*B:=by
  calc a*(B/b)*(b*d)=a*d*(b*(B/b)):=by grind
   _=_:=by rw [e1]
 have k2:c*(B/d)*(b*d)=c*b*B:=by
  calc c*(B/d)*(b*d)=c*b*(d*(B/d)):=by grind
   _=_:=by rw [e2]
 have bd:0<b*d:=Int.mul_pos (by omega) (by omega)
 constructor
 ·intro h
  rw [h] at k1
  have:a*d*B=c*b*B:=by rw [← k1,k2]
  have:=Int.eq_of_mul_eq_mul_right (by omega) this
  obtain ⟨h1,h2⟩:=sh_uniq sp sq this
  rw [h1,h2]
 ·intro h
  have:=Int.mul_lt_mul_of_pos_right h bd
  rw [k1,k2] at this
  exact Int.lt_of_mul_lt_mul_right this (by omega)
theorem lex_low {B:Int} (B0:0<B) : ∀ (x y:List (Int×Int)) (i:Nat) (f g:Nat→Int),x.length=y.length→(∀ s ∈ x,Shr s.1 s.2∧s.2∣B)→(∀ s ∈ y,Shr s.1 s.2∧s.2∣B)→(∀ k,f (i+k)=(overB B x).getD k 0)→(∀ k,g (i+k)=(overB B y).getD k 0)→lexN f g x.length i=true→lowL x y=true
 | [],y,i,f,g,_,_,_,_,_,h=>by cases h
 | p::x,[],i,f,g,hl,_,_,_,_,h=>by cases hl
 | p::x,q::y,i,f,g,hl,hx,hy,hf,hg,h=>by
  have f0:f i=p.1*(B/p.2):=hf 0
  have g0:g i=q.1*(B/q.2):=hg 0
  obtain ⟨c1,c2⟩:=over_cross B0 (hx p (by simp)) (hy q (by simp))
  rw [List.length_cons] at h
  unfold lexN at h
  unfold lowL
  by_cases e:p=q
  ·rw [if_pos e]
   rw [f0,g0,e,if_pos (by simp)] at h
   refine lex_low B0 x y (i+1) f g (Nat.succ.inj hl) (fun s hs=>hx s (by simp [hs])) (fun s hs=>hy s (by simp [hs])) (fun k=>?_) (fun k=>?_) h
   ·rw [show i+1+k=i+(k+1) by omega,hf (k+1)];rfl
   ·rw [show i+1+k=i+(k+1) by omega,hg (k+1)];rfl
  ·rw [if_neg e]
   rw [f0,g0,if_neg (by simpa using fun z=>e (c1 z))] at h
   exact decide_eq_true (c2 (of_decide_eq_true h))
theorem rgt {W:List Int}{b f:Int}{R T:List (List Int)}{n k:Nat}{L:List PyData} (hW:Wgt W) (h:W.length=R.length) (hT:Tab b R n) (hR:R≠[]) (n12:n≤12) (hb:b≤100000) (fr:Frm b R n f T k) (bl:BlOf W f T k L) : ∃ rows,L=rows.map rowD∧RgtOk rows (pil W R n) (b*W.sum):=by
 obtain ⟨B,p,hB,pm,srt,rfl⟩:=bl
 obtain ⟨pl,pa⟩:=pil_right hW h hT hR fr
 have lT:=fr.len
 have t:=fr.gls.t
 have f0:=t.pos
 have b0:=hT.pos
 have kn:=fr.kn
 have k1:=fr.k1
 have l4:=hW.l4
 have fb:=fr.fb
 obtain ⟨w1,w4⟩:=hW.sum
 have wb:b*W.sum≤100000*4000:=Int.mul_le_mul hb w4 (by omega) (by omega)
 have wp:0<b*W.sum:=Int.mul_pos (by omega) (by omega)
 have lp:p.toList.length=k:=by rw [Array.length_toList,pm.s]
 have mp : ∀ j ∈ p.toList,j<k:=fun j hj=>List.mem_range.mp (pm.p.mem_iff.mp hj)
 have pt : ∀ {i j:Nat},p.toList[i]?=some j→p.getD i 0=j:=fun {i j} e=>by
  have:p[i]?=some j:=by rw [← Array.getElem?_toList];exact e
  rw [Array.getD_eq_getD_getElem?,this];rfl
 have sp : ∀ j,j<k→0<(lkl W T j).sum:=fun j hj=>lkl_pos hW (by omega) t fr.ind hj
 refine ⟨p.toList.map fun j=>(prtS W f T j,belS W T j),by rw [List.map_map];rfl,⟨by rw [List.length_map,lp,pl],fun z=>by rw [z] at pl;simp at pl;omega,by rw [List.length_map,lp];omega,by omega,bits_up (bits64 (by omega) (by omega)) (by decide),fun r hr=>?_,fun r hr=>?_,fun i r r' hi hi'=>?_⟩⟩
 ·obtain ⟨j,hj,rfl⟩:=List.mem_map.mp hr
  obtain ⟨x,e1,_,_,e2⟩:=pa j (mp j hj)
  exact ⟨x,e1,e2⟩
 ·obtain ⟨j,hj,rfl⟩:=List.mem_map.mp hr
  have hj:=mp j hj
  have s0:=sp j hj
  obtain ⟨_,s1⟩:=lkl_le (j:=j) hW (by omega) t
  have wf:W.sum*f≤4000*100000:=Int.mul_le_mul w4 (by omega) (by omega) (by omega)
  refine ⟨by show (belS W T j).length≤4;rw [bel_len (by omega)];omega,fun s hs=>?_⟩
  have sr:=bel_shr s0 hs
  obtain ⟨y,hy,rfl⟩:=List.mem_map.mp hs
  obtain ⟨y0,y1⟩:=lkl_mem hW (by omega) t hy
  have zy:intBits y≤64:=bits64 (by omega) (by omega)
  have zs:intBits (lkl W T j).sum≤64:=bits64 (by omega) (by omega)
  exact ⟨sr.pos,sh_low sr,bits_up (shT_bits zy) (by decide),bits_up (shB_bits zs) (by decide)⟩
 ·rw [List.getElem?_map] at hi hi'
  cases e1:p.toList[i]? with
  | none=>rw [e1] at hi;cases hi
  | some j =>
   cases e2:p.toList[i+1]? with
   | none=>rw [e2] at hi';cases hi'
   | some j' =>
    rw [e1] at hi
    rw [e2] at hi'
    cases hi
    cases hi'
    have hj:=mp j (List.mem_of_getElem? e1)
    have hj':=mp j' (List.mem_of_getElem? e2)
    have lt:=srt (i+1) (by omega) (by rw [← lp];exact (List.getElem?_eq_some_iff.mp e2).1)
    rw [Nat.add_sub_cancel,pt e1,pt e2] at lt
    have bl : ∀ j,(belS W T j).length=W.length:=fun j=>by rw [bel_len (by omega)];omega
    have dv : ∀ j,j<k → ∀ s ∈ belS W T j,Shr s.1 s.2∧s.2∣B:=fun j hj s hs=>⟨bel_shr (sp j hj) hs,hB.dv _ (List.mem_map.mpr ⟨j,List.mem_range.mpr hj,rfl⟩) s hs⟩
    refine ⟨by show (belS W T j).length=(belS W T j').length;rw [bl,bl],lex_low hB.pos (belS W T j) (belS W T j') 0 _ _ (by rw [bl,bl]) (dv j hj) (dv j' hj') (fun k=>by rw [Nat.zero_add]) (fun k=>by rw [Nat.zero_add]) ?_⟩
    rw [bl];exact lt
theorem sc_law:FnScope ["_law_script","_law_pen_here","_law_glass","_law_weights_here","_law_piles_here","_law_whole_here","_law_found"] ["_law_script"] (defScope s_law):=sc0
theorem law_fn {f:Addr}{fd:FuncData} (F:Fun K "law" "law" s_law f fd) (T:Txt K mg cs)
 (O_beliefs:Ok P w K mg base "beliefs" 6 ["glass","weights"] (TaSp [cs.tb] (FSp K sp_beliefs)))
 (O__law_pen:Ok P w K mg base "_law_pen" 1 ["_law_script"] (FSp K sp__law_pen))
 (O__law_next:Ok P w K mg base "_law_next" 2 ["_law_pen_here","_law_many"] (NSp K sp__law_next))
 (O__law_table:Ok P w K mg base "_law_table" 4 ["_law_pen_here","_law_many","_law_most","_law_far"] (NSp K sp__law_table))
 (O__law_weights:Ok P w K mg base "_law_weights" 3 ["_law_pen_here","_law_many"] (NSp K sp__law_weights))
 (O__law_piles:Ok P w K mg base "_law_piles" 4 ["_law_glass","_law_weights_here"] (PSp K sp__law_piles))
 (O__law_right:Ok P w K mg base "_law_right" 7 ["_law_found","_law_piles_here","_law_whole_here"] (PSp K sp__law_right))
 : FnOk P w K mg base CX0 8 f fd ["_law_script"] (spLawT [cs.tb] K):=by
  refine F.vlawT sc_law rfl fun cdv A outer s H E hr hTb ns hlen=>?_
  refine ⟨_,(vss_cons (vs_setO (i:=1) sc_law.nd (vf_fn O__law_pen.c (hr.mono (by decide)) (va_cons (ve_var 0) va_nil)))
   (vss_mid (vs_set (i:=2) sc_law.nd (ve_fnN 1 O__law_table.c (hr.mono (by decide)) (va_cons (ve_op o_add ve_int (ve_fnN 1 O__law_next.c (hr.mono (by decide)) (va_cons ve_int va_nil))) (va_cons ve_int (va_cons ve_int va_nil)))))
   (vss_mid (vs_set (i:=3) sc_law.nd (ve_fnN 1 O__law_weights.c (hr.mono (by decide)) (va_cons (ve_callB c_len T.len_ L2.boot_len (va_cons (ve_ix (ve_var 2) ve_int) va_nil)) va_nil)))
   (vss_mid (vs_set (i:=4) sc_law.nd (ve_fn O__law_piles.c (hr.mono (by decide)) (va_cons (ve_var 2) (va_cons (ve_var 3) va_nil))))
   (vss_mid (vs_set (i:=5) sc_law.nd (ve_op o_mulI (ve_ix (ve_var 2) ve_int) (ve_callB (c_sum rfl) T.sum_ L2.boot_sum (va_cons (ve_var 3) va_nil))))
   (vss_mid (vs_setO (i:=6) sc_law.nd (vf_fn (O_beliefs.t hTb) (hr.mono (by decide)) (va_cons (ve_var 2) (va_cons (ve_var 3) va_nil))))
   (vss_cons (vs_if (vt_not (vt_val (ve_fnF1 6 O__law_right.c (hr.mono (by decide)) (vaf_first 6 (va_cons (ve_var 4) (va_cons (ve_var 5) va_nil)))))) (vss_one (vs_ret ve_bl)) vss_nil)
   (vss_cons (vs_append 6 ve_int)
   (vss_one (vs_ret (ve_fn O__law_right.c (hr.mono (by decide)) (va_cons (vf_fz (vf_fn (O_beliefs.t hTb) (hr.mono (by decide)) (va_cons (ve_var 2) (va_cons (ve_var 3) va_nil)))) (va_cons (ve_var 4) (va_cons (ve_var 5) va_nil)))))))))))))),?_⟩
  refine ⟨ns,rfl,hlen,fun p hp=>?_⟩
  refine ⟨fun e => ∃ (b:Int) (R:List (List Int)) (n:Nat) (p:List PyData),(PenOk p∧Gls b R n∧2≤R.length∧R.length≤4∧1≤n∧n≤12∧b≤9999)∧e=[.val (.list (ns.map .int)),.own p,.val (dTab b R),.non,.non,.non,.non],?_,?_⟩
  ·refine ⟨rfl,rfl,rfl,3,rfl,hp,⟨by decide,by decide⟩,fun x p1 x0 x1 hp1=>?_⟩
   exact ⟨rfl,2+x,12,40,rfl,hp1,⟨by omega,by omega,by decide,by decide,by decide,by decide⟩,fun b R n p G hb hl n1 n2 hp=>⟨b,R,n,p,⟨hp,G,by omega,by omega,n1,by omega,hb⟩,rfl⟩⟩
  rintro e ⟨b,R,n,p2,⟨hp2,G,r2,r4,n1,n12,hb⟩,rfl⟩
  have b0:=G.t.pos
  have Rn:R≠[]:=fun z=>by rw [z] at r2;simp at r2
  refine ⟨fun e => ∃ (W:List Int) (t:Sl),(Wgt W∧W.length=R.length)∧e=[.val (.list (ns.map .int)),t,.val (dTab b R),.val (.tuple (W.map .int)),.non,.non,.non],?_,?_⟩
  ·exact ⟨rfl,_,rfl,rfl,_,rfl,hp2,⟨by simp;omega,by simp;omega⟩,fun W p hW lW hp=>⟨W,_,⟨hW,by simp at lW;omega⟩,rfl⟩⟩
  rintro e ⟨W,t,⟨hW,lW⟩,rfl⟩
  obtain ⟨w1,w4⟩:=hW.sum
  refine ⟨fun e=>e=[.val (.list (ns.map .int)),t,.val (dTab b R),.val (.tuple (W.map .int)),.val (.dict (eD (pil W R n))),.non,.non],?_,?_⟩
  ·exact ⟨b,R,n,W,rfl,⟨G.t,lW,hW,n12,by omega⟩,rfl⟩
  rintro e rfl
  refine ⟨fun e=>e=[.val (.list (ns.map .int)),t,.val (dTab b R),.val (.tuple (W.map .int)),.val (.dict (eD (pil W R n))),.val (.int (b*W.sum)),.non],?_,?_⟩
  ·exact ⟨_,rfl,_,rfl,mulok (bits_up (bits64 (by omega) (by omega)) (by decide)) (bits_up (bits64 (by omega) (by omega)) (by decide)),rfl⟩
  rintro e rfl
  refine ⟨fun e => ∃ (f:Int) (T':List (List Int)) (k:Nat) (L:List PyData),(Frm b R n f T' k∧BlOf W f T' k L)∧e=[.val (.list (ns.map .int)),t,.val (dTab b R),.val (.tuple (W.map .int)),.val (.dict (eD (pil W R n))),.val (.int (b*W.sum)),.own L],?_,?_⟩
  ·exact ⟨b,R,n,W,rfl,⟨G.t,lW,hW,n1,n12,by omega⟩,fun f T' k L fr bl=>⟨f,T',k,L,⟨fr,bl⟩,rfl⟩⟩
  rintro e ⟨f,T',k,L,⟨fr,bl⟩,rfl⟩
  obtain ⟨rows,el,ok⟩:=rgt hW lW G.t Rn n12 (by omega) fr bl
  refine ⟨rfl,rfl,rows,_,_,by rw [← el];rfl,ok,rfl,?_⟩
  refine ⟨rfl,rfl,small1000 (by show L.length≤1000;have:=ok.l12;rw [el,List.length_map];omega),b,R,n,W,rfl,⟨G.t,lW,hW,n1,n12,by omega⟩,fun f2 T2 k2 L2 fr2 bl2=>?_⟩
  obtain ⟨rows2,el2,ok2⟩:=rgt hW lW G.t Rn n12 (by omega) fr2 bl2
  exact ⟨rows2,_,_,by rw [← el2],ok2,rfl⟩
end
theorem us_s {α:Type}{n:Nat}{us:List α} (h:us.length=n+1) : ∃ a r,us=a::r∧r.length=n:=by
 cases us with
 | nil=>cases h
 | cons a r=>exact ⟨a,r,rfl,Nat.succ.inj h⟩
theorem us1 {α:Type}{us:List α} (h:us.length=1) : ∃ a0:α,us=[a0]:=by
 obtain ⟨a0,u0,rfl,h0⟩:=us_s h
 cases u0 with
 | nil=>exact ⟨a0,rfl⟩
 | cons _ _=>cases h0
theorem us2 {α:Type}{us:List α} (h:us.length=2) : ∃ a0 a1:α,us=[a0,a1]:=by
 obtain ⟨a0,u0,rfl,h0⟩:=us_s h
 obtain ⟨a1,u1,rfl,h1⟩:=us_s h0
 cases u1 with
 | nil=>exact ⟨a0,a1,rfl⟩
 | cons _ _=>cases h1
theorem us3 {α:Type}{us:List α} (h:us.length=3) : ∃ a0 a1 a2:α,us=[a0,a1,a2]:=by
 obtain ⟨a0,u0,rfl,h0⟩:=us_s h
 obtain ⟨a1,u1,rfl,h1⟩:=us_s h0
 obtain ⟨a2,u2,rfl,h2⟩:=us_s h1
 cases u2 with
 | nil=>exact ⟨a0,a1,a2,rfl⟩
 | cons _ _=>cases h2
theorem us4 {α:Type}{us:List α} (h:us.length=4) : ∃ a0 a1 a2 a3:α,us=[a0,a1,a2,a3]:=by
 obtain ⟨a0,u0,rfl,h0⟩:=us_s h
 obtain ⟨a1,u1,rfl,h1⟩:=us_s h0
 obtain ⟨a2,u2,rfl,h2⟩:=us_s h1
 obtain ⟨a3,u3,rfl,h3⟩:=us_s h2
 cases u3 with
 | nil=>exact ⟨a0,a1,a2,a3,rfl⟩
 | cons _ _=>cases h3
inductive LK (K:PySem.W.Frag) (x q:Str) (st:Stmt) (f:Addr):Prop
 | mk {oc kV dc pm cd ct:Value}{od an:Option Addr}{sl:Array (Option Value)} (l:K.lookup f=some ⟨oc,od,.func (PySem.W.fnOf x q (defArgs st) (defBody st) (defScope st) .none kV dc pm an cd ct),sl⟩) (c:PySem.W.codeIn K cd q=true) (k:PySem.W.keepIn K (.ref f)=true):LK K x q st f
theorem LK.fn {K:PySem.W.Frag}{x q:Str}{st:Stmt}{f:Addr} (h:LK K x q st f):(∃ fd,Fun K x q st f fd)∧PySem.W.keepIn K (.ref f)=true:=by
 cases h with
 | mk l c k=>exact ⟨⟨_,fun_mk l c k⟩,k⟩
inductive DK (K:PySem.W.Frag) (x:Str) (st:Stmt):Prop
 | mk {f:Addr} (a:PySem.W.nsIn K mainGlobals x=some (some (.ref f))) (l:LK K x x st f):DK K x st
theorem DK.df {K:PySem.W.Frag}{x:Str}{st:Stmt}{ps:List Str}{h:Heap}{mg:Str→Option Value} (d:DK K x st) (X:K.In h) (G:h.Ns mainGlobals mg)
 (hb : ∀ (kV doc pm:Value) (an:Option Addr) (cdv ct:Value) (us:List Value),us.length=ps.length→bindArgs (PySem.W.fnOf x x (defArgs st) (defBody st) (defScope st) .none kV doc pm an cdv ct) ⟨us,[]⟩=pure (ps.zip us):=by (intro _ _ _ _ _ _ us hl;first|(obtain ⟨_,rfl⟩:=us1 hl;rfl)|(obtain ⟨_,_,rfl⟩:=us2 hl;rfl)|(obtain ⟨_,_,_,rfl⟩:=us3 hl;rfl)|(obtain ⟨_,_,_,_,rfl⟩:=us4 hl;rfl))):Def K mg x st ps:=by
  cases d with
  | mk a l =>
   obtain ⟨⟨_,F⟩,_⟩:=l.fn
   exact ⟨_,_,F,PySem.W.mg_of X G a,F.binds hb⟩
theorem all_mk {l:PySem.W.OpenLaw}{w:World}{K:PySem.W.Frag}{h:Heap}{mg:Str→Option Value}{fa:Addr} (X:K.In h) (G:h.Ns mainGlobals mg) (hfa:mg "law" = some (.ref fa))
 {c_tb c_c0 c_bm:Addr} (b_bm:PySem.W.nsIn K mainGlobals "__builtins__" = some (some (.ref c_bm)))
 (l0:DK K "divisor" s_divisor)
 (l1:DK K "over_bottom" s_over_bottom)
 (l2:DK K "table_of_shares" s_table_of_shares)
 (l3:DK K "stands" s_stands)
 (l4:DK K "signs" s_signs)
 (l5:DK K "common_divisor" s_common_divisor)
 (l6:DK K "divided" s_divided)
 (l7:DK K "lowest_table" s_lowest_table)
 (l8:DK K "one_sign" s_one_sign)
 (l9:DK K "column" s_column)
 (l10:DK K "joined_number" s_joined_number)
 (l11:DK K "joined_column" s_joined_column)
 {f12:Addr}{od12 an12:Option Addr}{sl12:Array (Option Value)}{oc12 kV12 dc12 pm12 ct12:Value}
 (a12:PySem.W.nsIn K mainGlobals "sorted_groups" = some (some (.ref f12))) (l12:K.lookup f12=some ⟨oc12,od12,.func (PySem.W.fnOf "sorted_groups" "sorted_groups" (defArgs s_sorted_groups) (defBody s_sorted_groups) (defScope s_sorted_groups) .none kV12 dc12 pm12 an12 (.ref c_c0) ct12),sl12⟩) (c12:PySem.W.codeIn K (.ref c_c0) "sorted_groups" = true) (k12:PySem.W.keepIn K (.ref f12)=true)
 (l13:DK K "joined_numbers" s_joined_numbers)
 (l14:DK K "place_of" s_place_of)
 (l15:DK K "is_whole" s_is_whole)
 (l16:DK K "reduced" s_reduced)
 (l17:DK K "share" s_share)
 (l18:DK K "parts_of" s_parts_of)
 (l19:DK K "least" s_least)
 (l20:DK K "is_weights" s_is_weights)
 (l21:DK K "belief_behind" s_belief_behind)
 (l22:DK K "beliefs" s_beliefs)
 (l23:DK K "_law_pen" s__law_pen)
 (l24:DK K "_law_mixed" s__law_mixed)
 (l25:DK K "_law_next" s__law_next)
 (l26:DK K "_law_divisor" s__law_divisor)
 (l27:DK K "_law_reduced" s__law_reduced)
 (l28:DK K "_law_row" s__law_row)
 (l29:DK K "_law_split" s__law_split)
 (l30:DK K "_law_table" s__law_table)
 (l31:DK K "_law_weights" s__law_weights)
 (l32:DK K "_law_share" s__law_share)
 (l33:DK K "_law_belief" s__law_belief)
 (l34:DK K "_law_piles" s__law_piles)
 (l35:DK K "_law_whole" s__law_whole)
 (l36:DK K "_law_same" s__law_same)
 (l37:DK K "_law_below" s__law_below)
 (l38:DK K "_law_right" s__law_right)
 {f39:Addr}{od39 an39:Option Addr}{sl39:Array (Option Value)}{oc39 kV39 dc39 pm39 cd39 ct39:Value}
 (a39:PySem.W.nsIn K mainGlobals "law" = some (some (.ref f39))) (l39:K.lookup f39=some ⟨oc39,od39,.func (PySem.W.fnOf "law" "law" (defArgs s_law) (defBody s_law) (defScope s_law) .none kV39 dc39 pm39 an39 cd39 ct39),sl39⟩) (c39:PySem.W.codeIn K cd39 "law" = true) (k39:PySem.W.keepIn K (.ref f39)=true)
 (z_abs:PySem.W.nsIn K mainGlobals "abs" = some none)
 (z_all:PySem.W.nsIn K mainGlobals "all" = some none)
 (z_any:PySem.W.nsIn K mainGlobals "any" = some none)
 (z_bool:PySem.W.nsIn K mainGlobals "bool" = some none)
 (z_enumerate:PySem.W.nsIn K mainGlobals "enumerate" = some none)
 (z_int:PySem.W.nsIn K mainGlobals "int" = some none)
 (z_isinstance:PySem.W.nsIn K mainGlobals "isinstance" = some none)
 (z_len:PySem.W.nsIn K mainGlobals "len" = some none)
 (z_list:PySem.W.nsIn K mainGlobals "list" = some none)
 (z_range:PySem.W.nsIn K mainGlobals "range" = some none)
 (z_sorted:PySem.W.nsIn K mainGlobals "sorted" = some none)
 (z_sum:PySem.W.nsIn K mainGlobals "sum" = some none)
 (z_tuple:PySem.W.nsIn K mainGlobals "tuple" = some none)
 (z_zip:PySem.W.nsIn K mainGlobals "zip" = some none)
 {t_FEWEST_STANDS:Tok} (y_FEWEST_STANDS:PySem.W.nsIn K mainGlobals "FEWEST_STANDS" = some (some (.int 2 t_FEWEST_STANDS)))
 {t_MOST_STANDS:Tok} (y_MOST_STANDS:PySem.W.nsIn K mainGlobals "MOST_STANDS" = some (some (.int 4 t_MOST_STANDS)))
 {t_MOST_WEIGHT:Tok} (y_MOST_WEIGHT:PySem.W.nsIn K mainGlobals "MOST_WEIGHT" = some (some (.int 1000 t_MOST_WEIGHT)))
 (f_tab_h:tabIn K c_c0 c_tb=true)
 (f_bm_h:blIn K c_bm c_tb=true)
 : ∃ fd:FuncData,(∀ (s:Shared) (v:Value),BindsTo s fd ⟨[v],[]⟩ [("_law_script",v)]) ∧ ∀ base:Heap,K.In base→base.Ns mainGlobals mg→FnOk l.prog w K mg base CX0 8 fa fd ["_law_script"] (spLawT [c_tb] K):=by
  have e:=hfa.symm.trans (PySem.W.mg_of X G a39)
  cases e
  have T:Txt K mg ⟨c_tb,c_c0,c_bm⟩:=⟨f_tab_h,f_bm_h,PySem.W.mg_of X G b_bm,PySem.W.mg_none_of X G z_abs,PySem.W.mg_none_of X G z_all,PySem.W.mg_none_of X G z_any,PySem.W.mg_none_of X G z_bool,PySem.W.mg_none_of X G z_enumerate,PySem.W.mg_none_of X G z_int,PySem.W.mg_none_of X G z_isinstance,PySem.W.mg_none_of X G z_len,PySem.W.mg_none_of X G z_list,PySem.W.mg_none_of X G z_range,PySem.W.mg_none_of X G z_sorted,PySem.W.mg_none_of X G z_sum,PySem.W.mg_none_of X G z_tuple,PySem.W.mg_none_of X G z_zip,⟨_,PySem.W.mg_of X G y_FEWEST_STANDS⟩,⟨_,PySem.W.mg_of X G y_MOST_STANDS⟩,⟨_,PySem.W.mg_of X G y_MOST_WEIGHT⟩⟩
  have D0:Def K mg "divisor" s_divisor ["one","other"]:=l0.df X G
  have D1:Def K mg "over_bottom" s_over_bottom ["row","bottom"]:=l1.df X G
  have D2:Def K mg "table_of_shares" s_table_of_shares ["rows"]:=l2.df X G
  have D3:Def K mg "stands" s_stands ["glass"]:=l3.df X G
  have D4:Def K mg "signs" s_signs ["glass"]:=l4.df X G
  have D5:Def K mg "common_divisor" s_common_divisor ["rows"]:=l5.df X G
  have D6:Def K mg "divided" s_divided ["row","common"]:=l6.df X G
  have D7:Def K mg "lowest_table" s_lowest_table ["bottom","rows"]:=l7.df X G
  have D8:Def K mg "one_sign" s_one_sign ["place","many"]:=l8.df X G
  have D9:Def K mg "column" s_column ["rows","place"]:=l9.df X G
  have D10:Def K mg "joined_number" s_joined_number ["row","group"]:=l10.df X G
  have D11:Def K mg "joined_column" s_joined_column ["glass","group"]:=l11.df X G
  have F12:=fun_mk (st:=s_sorted_groups) l12 c12 k12
  have D12:DefT K mg "sorted_groups" s_sorted_groups ["glass"] c_c0:=⟨_,_,_,_,_,_,_,_,_,l12,c12,k12,PySem.W.mg_of X G a12,F12.binds (ps:=["glass"]) fun _ _ _ _ _ _ us hl=>by obtain ⟨_,rfl⟩:=us1 hl;rfl⟩
  have D13:Def K mg "joined_numbers" s_joined_numbers ["row","groups"]:=l13.df X G
  have D14:Def K mg "place_of" s_place_of ["sign","groups"]:=l14.df X G
  have D15:Def K mg "is_whole" s_is_whole ["thing"]:=l15.df X G
  have D16:Def K mg "reduced" s_reduced ["top","bottom"]:=l16.df X G
  have D17:Def K mg "share" s_share ["top","bottom"]:=l17.df X G
  have D18:Def K mg "parts_of" s_parts_of ["group","glass"]:=l18.df X G
  have D19:Def K mg "least" s_least ["glass"]:=l19.df X G
  have D20:Def K mg "is_weights" s_is_weights ["thing"]:=l20.df X G
  have D21:Def K mg "belief_behind" s_belief_behind ["glass","weights","sign"]:=l21.df X G
  have D22:Def K mg "beliefs" s_beliefs ["glass","weights"]:=l22.df X G
  have D23:Def K mg "_law_pen" s__law_pen ["_law_script"]:=l23.df X G
  have D24:Def K mg "_law_mixed" s__law_mixed ["_law_pen_here"]:=l24.df X G
  have D25:Def K mg "_law_next" s__law_next ["_law_pen_here","_law_many"]:=l25.df X G
  have D26:Def K mg "_law_divisor" s__law_divisor ["_law_numbers"]:=l26.df X G
  have D27:Def K mg "_law_reduced" s__law_reduced ["_law_bottom","_law_rows"]:=l27.df X G
  have D28:Def K mg "_law_row" s__law_row ["_law_pen_here","_law_width","_law_bottom"]:=l28.df X G
  have D29:Def K mg "_law_split" s__law_split ["_law_pen_here","_law_rows"]:=l29.df X G
  have D30:Def K mg "_law_table" s__law_table ["_law_pen_here","_law_many","_law_most","_law_far"]:=l30.df X G
  have D31:Def K mg "_law_weights" s__law_weights ["_law_pen_here","_law_many"]:=l31.df X G
  have D32:Def K mg "_law_share" s__law_share ["_law_top","_law_bottom"]:=l32.df X G
  have D33:Def K mg "_law_belief" s__law_belief ["_law_weights_here","_law_column"]:=l33.df X G
  have D34:Def K mg "_law_piles" s__law_piles ["_law_glass","_law_weights_here"]:=l34.df X G
  have D35:Def K mg "_law_whole" s__law_whole ["_law_thing"]:=l35.df X G
  have D36:Def K mg "_law_same" s__law_same ["_law_found","_law_due"]:=l36.df X G
  have D37:Def K mg "_law_below" s__law_below ["_law_one","_law_other"]:=l37.df X G
  have D38:Def K mg "_law_right" s__law_right ["_law_found","_law_piles_here","_law_whole_here"]:=l38.df X G
  have F39:=fun_mk (st:=s_law) l39 c39 k39
  refine ⟨PySem.W.fnOf "law" "law" (defArgs s_law) (defBody s_law) (defScope s_law) .none kV39 dc39 pm39 an39 cd39 ct39,fun s v => .of_eq rfl,fun base KB _=>?_⟩
  have O0:=ok_divisor (P:=l.prog) (w:=w) (base:=base) D0 T
  have O1:=ok_over_bottom (P:=l.prog) (w:=w) (base:=base) D1 T
  have O2:=ok_table_of_shares D2 T O0 O1
  have O3:=ok_stands (P:=l.prog) (w:=w) (base:=base) D3 T
  have O4:=ok_signs (P:=l.prog) (w:=w) (base:=base) D4 T
  have O5:=ok_common_divisor D5 T O0
  have O6:=ok_divided (P:=l.prog) (w:=w) (base:=base) D6 T
  have O7:=ok_lowest_table D7 T O5 O6
  have O8:=ok_one_sign (P:=l.prog) (w:=w) (base:=base) D8 T
  have O9:=ok_column (P:=l.prog) (w:=w) (base:=base) D9 T
  have O10:=ok_joined_number (P:=l.prog) (w:=w) (base:=base) D10 T
  have O11:=ok_joined_column D11 T O10
  have O12:=ok_sorted_groups D12 T KB O4 O5 O6 O9 O11
  have O13:=ok_joined_numbers D13 T O10
  have O14:=ok_place_of (P:=l.prog) (w:=w) (base:=base) D14 T
  have O15:=ok_is_whole (P:=l.prog) (w:=w) (base:=base) D15 T
  have O16:=ok_reduced D16 T O0
  have O17:=ok_share D17 T O15 O16
  have O18:=ok_parts_of D18 T O4 O9 O11 O17
  have O19:=ok_least D19 T O2 O4 O7 O8 O12 O13 O14 O18
  have O20:=ok_is_weights D20 T O15
  have O21:=ok_belief_behind D21 T O9 O17
  have O22:=ok_beliefs D22 T O2 O3 O4 O19 O20 O21
  have O23:=ok__law_pen (P:=l.prog) (w:=w) (base:=base) D23 T
  have O24:=ok__law_mixed (P:=l.prog) (w:=w) (base:=base) D24 T
  have O25:=ok__law_next D25 T O24
  have O26:=ok__law_divisor (P:=l.prog) (w:=w) (base:=base) D26 T
  have O27:=ok__law_reduced D27 T O26
  have O28:=ok__law_row D28 T O25
  have O29:=ok__law_split D29 T O25
  have O30:=ok__law_table D30 T O25 O27 O28 O29
  have O31:=ok__law_weights D31 T O25
  have O32:=ok__law_share D32 T O26
  have O33:=ok__law_belief D33 T O32
  have O34:=ok__law_piles D34 T O33
  have O35:=ok__law_whole (P:=l.prog) (w:=w) (base:=base) D35 T
  have O36:=ok__law_same D36 T O35
  have O37:=ok__law_below (P:=l.prog) (w:=w) (base:=base) D37 T
  have O38:=ok__law_right D38 T O32 O36 O37
  exact law_fn (P:=l.prog) (w:=w) (K:=K) (mg:=mg) (base:=base) F39 T O22 O23 O25 O30 O31 O34 O38
theorem walk {l:PySem.W.OpenLaw}{q:Program}{loose:List Str}{XP:(Str→Option Value)→Heap→Prop}{YP:World→Heap→Prop}{d:DefRec}{K:Params→PySem.W.Frag}{tbs:List Addr} (hn:l.most=some 63) (hdf:d.params.defaults=[])
 (hY : ∀ (w:World) (h:Heap),YP w h→(K w.params).In h ∧ ∀ b ∈ tbs,∃ c,h.TableAt c b #[]) (hKt : ∀ P,∀ b ∈ tbs,(K P).lookup b=none)
 (F : ∀ (w:World) (mg:Str→Option Value) (fa:Addr) (h:Heap),(K w.params).In h→h.Ns mainGlobals mg→mg d.name=some (.ref fa) →
 ∃ fd:FuncData,(∀ (s:Shared) (u:Value),BindsTo s fd ⟨[u],[]⟩ [("_law_script",u)]) ∧ ∀ base:Heap,(K w.params).In base→base.Ns mainGlobals mg→FnOk l.prog w (K w.params) mg base CX0 8 fa fd ["_law_script"] (spLawT tbs (K w.params))) :
 PySem.W.WalkO q loose XP YP l.row.toRowW d [] (fun f vs=>PySem.call f vs) :=
  L2.walk_ofT (n:=63) (k:=8) (x := "_law_script") (tbs:=fun _=>tbs) (CX:=fun _=>CX0) (sp:=fun w=>spLawT tbs (K w.params)) hn (by decide) hdf ⟨rfl,by decide,by decide⟩ hY hKt F (fun _ _ a ns hl ht hS=>⟨ht,a,ns,rfl,hS,hl,fun _=>rfl⟩) fun _ _ _ _ _ z=>z
noncomputable section
open PySem PySem.W PySem.Calls PyProof.Rows
abbrev N0:=BT.node
abbrev nl0:=BT.nil
def en0 (P:Params) (x:Str) (t:Nat) (v:Value):DictEntry:=⟨PyData.keyHash P x,.str x t,v⟩
def tu0 (vs:List Value):Obj:=⟨.type "tuple",none,.seq vs.toArray 0,#[]⟩
def em0:Obj:=⟨.none,none,.fields #[],#[]⟩
def fo0 (n q:Str) (s:Stmt) (pm:Value) (c:Nat):Obj:=⟨.type "function",none,.func (PySem.W.fnOf n q (L2.defArgs s) (L2.defBody s) (L2.defScope s) .none .none .none pm none (.ref c) .none),#[]⟩
def pr0 (n q:Str) (s:Stmt):Obj:=⟨.none,none,.func ⟨n,q,L2.defArgs s,.stmts (L2.defBody s),L2.defScope s,0,[],.none,.none,.none,.none,none,.none,.none,0⟩,#[]⟩
def co0 (n q:Str) (t:Nat) (l ac fl:Int) (a:Nat) (b:Bool) (x y z:Value) (u:Nat):Obj:=⟨.type "code",none,.fields #[.str n t,.str q (t+1),.str "/claim/cut.py" (t+2),.int l 0,.int ac 0,.int 0 0,.int 0 0,.int fl 0,.ref a,.bool b,.int 181 0,.ref (a+1),.none,x,y,z,.int u 0,.int l 0,.str "/claim/cut.py" (u+1)],#[]⟩
def co1 (n:Str) (t:Nat) (l ac fl:Int) (a:Nat) (b:Bool) (u:Nat):Obj:=co0 n n t l ac fl a b (.ref (a+2)) (.ref (a+3)) (.ref (a+4)) u
def fo1 (n:Str) (s:Nat) (pm:Value) (c:Nat):Obj:=fo0 n n (top s) pm c
lay_quick PySem.Challenge.pw_dullglass_k38_beliefs_behind_signs
def env0:Env:={ scope:=PySem.Challenge.pw_dullglass_k38_beliefs_behind_signs.main.scope,locals:=mainNs,globals:=mainNs,cells:=[],code:=(.ref 13),frame:=some 14 }
def cE0:Code :=.body (behindTheImports PySem.Challenge.pw_dullglass_k38_beliefs_behind_signs) env0
def ls0:List Str:=[Str.ofString "GlassError",Str.ofString "NoShare",Str.ofString "NoFit",Str.ofString "is_whole",Str.ofString "divisor",Str.ofString "share",Str.ofString "reduced",Str.ofString "FEWEST_STANDS",Str.ofString "MOST_STANDS",Str.ofString "common_divisor",Str.ofString "lowest_table",Str.ofString "divided",Str.ofString "table_of_shares",Str.ofString "over_bottom",Str.ofString "stands",Str.ofString "signs",Str.ofString "column",Str.ofString "one_sign",Str.ofString "least",Str.ofString "sorted_groups",Str.ofString "joined_column",Str.ofString "joined_numbers",Str.ofString "joined_number",Str.ofString "place_of",Str.ofString "parts_of",Str.ofString "MOST_WEIGHT",Str.ofString "beliefs",Str.ofString "is_weights",Str.ofString "belief_behind",Str.ofString "_law_pen",Str.ofString "_law_mixed",Str.ofString "_law_next",Str.ofString "_law_divisor",Str.ofString "_law_share",Str.ofString "_law_reduced",Str.ofString "_law_row",Str.ofString "_law_split",Str.ofString "_law_table",Str.ofString "_law_whole",Str.ofString "_law_same",Str.ofString "_law_weights",Str.ofString "_law_belief",Str.ofString "_law_below",Str.ofString "_law_piles",Str.ofString "_law_right"]
def lf0:Life:=⟨[],[],[],0,[],[],false,#[],[],0,false,false,false,0,[2000,10,10],false,0,true,[],[],0,false⟩
def o13a:Obj:=co0 "<module>" "<module>" 182 1 0 0 11 false .none .none .none 185
def o14a:Obj:=⟨(.type "frame"),none,.plain,#[(some (.ref 13)),(some (.ref 3)),(some (.ref 3)),none,(some (.str "__main__" 164)),none,(some (.ref 0))]⟩
def o3 (P:Params):Obj:=⟨(.type "dict"),none,(.dict #[en0 P "__name__" 165 (.str "law_dullglass_k38_beliefs_behind_signs" 416),en0 P "__doc__" 166 .none,en0 P "__package__" 167 .none,en0 P "__loader__" 168 (.builtin "__main__.__loader__#opaque"),en0 P "__spec__" 169 .none,en0 P "__annotations__" 170 (.ref 6),en0 P "__builtins__" 171 (.ref 4),en0 P "__file__" 173 (.str "/claim/cut.py" 172),en0 P "__cached__" 174 .none,en0 P "GlassError" 206 (.ref 24),en0 P "NoShare" 222 (.ref 37),en0 P "NoFit" 238 (.ref 49),en0 P "is_whole" 247 (.ref 58),en0 P "divisor" 256 (.ref 65),en0 P "share" 264 (.ref 72),en0 P "reduced" 273 (.ref 79),en0 P "FEWEST_STANDS" 277 (.int (2) 276),en0 P "MOST_STANDS" 279 (.int (4) 278),en0 P "common_divisor" 289 (.ref 86),en0 P "lowest_table" 295 (.ref 91),en0 P "divided" 301 (.ref 96),en0 P "table_of_shares" 307 (.ref 101),en0 P "over_bottom" 313 (.ref 106),en0 P "stands" 320 (.ref 113),en0 P "signs" 327 (.ref 120),en0 P "column" 333 (.ref 125),en0 P "one_sign" 339 (.ref 130),en0 P "least" 347 (.ref 135),en0 P "sorted_groups" 359 (.ref 142),en0 P "joined_column" 365 (.ref 147),en0 P "joined_numbers" 371 (.ref 152),en0 P "joined_number" 377 (.ref 157),en0 P "place_of" 387 (.ref 164),en0 P "parts_of" 393 (.ref 169),en0 P "MOST_WEIGHT" 397 (.int (1000) 396),en0 P "beliefs" 403 (.ref 174),en0 P "is_weights" 409 (.ref 179),en0 P "belief_behind" 415 (.ref 184),en0 P "_law_pen" 425 (.ref 191),en0 P "_law_mixed" 434 (.ref 198),en0 P "_law_next" 443 (.ref 205),en0 P "_law_divisor" 453 (.ref 212),en0 P "_law_share" 462 (.ref 219),en0 P "_law_reduced" 468 (.ref 224),en0 P "_law_row" 474 (.ref 229),en0 P "_law_split" 480 (.ref 234),en0 P "_law_table" 486 (.ref 239),en0 P "_law_whole" 493 (.ref 246),en0 P "_law_same" 499 (.ref 251),en0 P "_law_weights" 505 (.ref 256),en0 P "_law_belief" 511 (.ref 261),en0 P "_law_below" 520 (.ref 268),en0 P "_law_piles" 526 (.ref 273),en0 P "_law_right" 539 (.ref 280),en0 P "law" 552 (.ref 287)] 55),#[]⟩
def o12:Obj:=⟨.none,none,(.fields #[(.int (2) 0),(.int (0) 0),(.ref 20),(.int (4) 0),(.int (0) 0),(.ref 33),(.int (6) 0),(.int (0) 0),(.ref 45),(.int (9) 0),(.int (0) 0),(.ref 57),(.int (11) 0),(.int (0) 0),(.ref 64),(.int (19) 0),(.int (0) 0),(.ref 71),(.int (23) 0),(.int (0) 0),(.ref 78),(.int (31) 0),(.int (0) 0),(.ref 85),(.int (37) 0),(.int (0) 0),(.ref 90),(.int (40) 0),(.int (0) 0),(.ref 95),(.int (42) 0),(.int (0) 0),(.ref 100),(.int (48) 0),(.int (0) 0),(.ref 105),(.int (50) 0),(.int (0) 0),(.ref 112),(.int (52) 0),(.int (0) 0),(.ref 119),(.int (54) 0),(.int (0) 0),(.ref 124),(.int (56) 0),(.int (0) 0),(.ref 129),(.int (59) 0),(.int (0) 0),(.ref 134),(.int (65) 0),(.int (0) 0),(.ref 141),(.int (73) 0),(.int (0) 0),(.ref 146),(.int (75) 0),(.int (0) 0),(.ref 151),(.int (77) 0),(.int (0) 0),(.ref 156),(.int (79) 0),(.int (0) 0),(.ref 163),(.int (84) 0),(.int (0) 0),(.ref 168),(.int (89) 0),(.int (0) 0),(.ref 173),(.int (96) 0),(.int (0) 0),(.ref 178),(.int (100) 0),(.int (0) 0),(.ref 183),(.int (105) 0),(.int (0) 0),(.ref 190),(.int (110) 0),(.int (0) 0),(.ref 197),(.int (116) 0),(.int (0) 0),(.ref 204),(.int (129) 0),(.int (0) 0),(.ref 211),(.int (136) 0),(.int (0) 0),(.ref 218),(.int (139) 0),(.int (0) 0),(.ref 223),(.int (145) 0),(.int (0) 0),(.ref 228),(.int (148) 0),(.int (0) 0),(.ref 233),(.int (160) 0),(.int (0) 0),(.ref 238),(.int (168) 0),(.int (0) 0),(.ref 245),(.int (170) 0),(.int (0) 0),(.ref 250),(.int (176) 0),(.int (0) 0),(.ref 255),(.int (179) 0),(.int (0) 0),(.ref 260),(.int (182) 0),(.int (0) 0),(.ref 267),(.int (187) 0),(.int (0) 0),(.ref 272),(.int (196) 0),(.int (0) 0),(.ref 279),(.int (213) 0),(.int (0) 0),(.ref 286)]),#[]⟩
def o16:Obj:=⟨(.type "builtin_function_or_method"),none,(.fields #[(.builtin "type.__prepare__"),(.type "type")]),#[]⟩
def o17 (P:Params):Obj:=⟨(.type "dict"),none,(.dict #[en0 P "__module__" 196 (.str "dullglass.errors" 187),en0 P "__qualname__" 198 (.str "GlassError" 197),en0 P "__firstlineno__" 200 (.int (2) 199),en0 P "__static_attributes__" 201 (.ref 22)] 4),#[]⟩
def o20:Obj:=co0 "GlassError" "GlassError" 191 2 0 0 18 false .none .none .none 194
def o21:Obj:=⟨(.type "frame"),none,.plain,#[(some (.ref 20)),(some (.ref 3)),(some (.ref 17)),none,(some (.str "dullglass.errors" 187)),none,(some (.ref 0))]⟩
def o23 (P:Params):Obj:=⟨(.type "dict"),none,(.dict #[en0 P "__module__" 196 (.str "dullglass.errors" 187),en0 P "__firstlineno__" 200 (.int (2) 199),en0 P "__static_attributes__" 201 (.ref 22),en0 P "__weakref__" 203 (.ref 25),en0 P "__doc__" 204 .none] 3),#[]⟩
def o24:Obj:=⟨(.type "type"),none,(.cls ⟨"GlassError",[(.type "ValueError")],[(.ref 24),(.type "ValueError"),(.type "Exception"),(.type "BaseException"),(.type "object")],23,"GlassError",true,[],[(.ref 37),(.ref 49)],false,none,false⟩),#[(some (.ref 15)),none,(some (.str "GlassError" 189)),(some (.str "GlassError" 197)),(some (.builtin "ValueError.__new__")),(some (.bool true))]⟩
def o25:Obj:=⟨(.type "getset_descriptor"),none,(.fields #[(.str "__weakref__" 202),(.ref 24),(.builtin "ExceptionGroup.__weakref__"),.none]),#[]⟩
def o26:Obj:=⟨(.type "super"),none,(.fields #[(.ref 24),(.ref 24),(.ref 24)]),#[]⟩
def o27:Obj:=⟨(.type "builtin_function_or_method"),none,(.fields #[(.builtin "object.__init_subclass__"),(.ref 24)]),#[]⟩
def o29:Obj:=⟨(.type "builtin_function_or_method"),none,(.fields #[(.builtin "type.__prepare__"),(.type "type")]),#[]⟩
def o30 (P:Params):Obj:=⟨(.type "dict"),none,(.dict #[en0 P "__module__" 214 (.str "dullglass.errors" 187),en0 P "__qualname__" 216 (.str "NoShare" 215),en0 P "__firstlineno__" 218 (.int (4) 217),en0 P "__static_attributes__" 219 (.ref 35)] 4),#[]⟩
def o33:Obj:=co0 "NoShare" "NoShare" 209 4 0 0 31 false .none .none .none 212
def o34:Obj:=⟨(.type "frame"),none,.plain,#[(some (.ref 33)),(some (.ref 3)),(some (.ref 30)),none,(some (.str "dullglass.errors" 187)),none,(some (.ref 0))]⟩
def o36 (P:Params):Obj:=⟨(.type "dict"),none,(.dict #[en0 P "__module__" 214 (.str "dullglass.errors" 187),en0 P "__firstlineno__" 218 (.int (4) 217),en0 P "__static_attributes__" 219 (.ref 35),en0 P "__doc__" 220 .none] 2),#[]⟩
def o37:Obj:=⟨(.type "type"),none,(.cls ⟨"NoShare",[(.ref 24)],[(.ref 37),(.ref 24),(.type "ValueError"),(.type "Exception"),(.type "BaseException"),(.type "object")],36,"NoShare",true,[],[],false,none,false⟩),#[(some (.ref 28)),none,(some (.str "NoShare" 207)),(some (.str "NoShare" 215)),(some (.builtin "ValueError.__new__")),(some (.bool true))]⟩
def o38:Obj:=⟨(.type "super"),none,(.fields #[(.ref 37),(.ref 37),(.ref 37)]),#[]⟩
def o39:Obj:=⟨(.type "builtin_function_or_method"),none,(.fields #[(.builtin "object.__init_subclass__"),(.ref 37)]),#[]⟩
def o41:Obj:=⟨(.type "builtin_function_or_method"),none,(.fields #[(.builtin "type.__prepare__"),(.type "type")]),#[]⟩
def o42 (P:Params):Obj:=⟨(.type "dict"),none,(.dict #[en0 P "__module__" 230 (.str "dullglass.errors" 187),en0 P "__qualname__" 232 (.str "NoFit" 231),en0 P "__firstlineno__" 234 (.int (6) 233),en0 P "__static_attributes__" 235 (.ref 47)] 4),#[]⟩
def o45:Obj:=co0 "NoFit" "NoFit" 225 6 0 0 43 false .none .none .none 228
def o46:Obj:=⟨(.type "frame"),none,.plain,#[(some (.ref 45)),(some (.ref 3)),(some (.ref 42)),none,(some (.str "dullglass.errors" 187)),none,(some (.ref 0))]⟩
def o48 (P:Params):Obj:=⟨(.type "dict"),none,(.dict #[en0 P "__module__" 230 (.str "dullglass.errors" 187),en0 P "__firstlineno__" 234 (.int (6) 233),en0 P "__static_attributes__" 235 (.ref 47),en0 P "__doc__" 236 .none] 2),#[]⟩
def o49:Obj:=⟨(.type "type"),none,(.cls ⟨"NoFit",[(.ref 24)],[(.ref 49),(.ref 24),(.type "ValueError"),(.type "Exception"),(.type "BaseException"),(.type "object")],48,"NoFit",true,[],[],false,none,false⟩),#[(some (.ref 40)),none,(some (.str "NoFit" 223)),(some (.str "NoFit" 231)),(some (.builtin "ValueError.__new__")),(some (.bool true))]⟩
def o50:Obj:=⟨(.type "super"),none,(.fields #[(.ref 49),(.ref 49),(.ref 49)]),#[]⟩
def o51:Obj:=⟨(.type "builtin_function_or_method"),none,(.fields #[(.builtin "object.__init_subclass__"),(.ref 49)]),#[]⟩
def o57:Obj:=co1 "is_whole" 241 9 1 3 52 true 245
def o58:Obj:=fo1 "is_whole" 5 (.str "dullglass.shares" 239) 57
def o64:Obj:=co1 "divisor" 248 11 2 3 59 true 254
def o65:Obj:=fo1 "divisor" 6 (.str "dullglass.shares" 239) 64
def o71:Obj:=co1 "share" 257 19 2 3 66 true 262
def o72:Obj:=fo1 "share" 7 (.str "dullglass.shares" 239) 71
def o78:Obj:=co1 "reduced" 265 23 2 3 73 true 271
def o79:Obj:=fo1 "reduced" 8 (.str "dullglass.shares" 239) 78
def o85:Obj:=co1 "common_divisor" 280 31 1 3 80 true 287
def o86:Obj:=fo1 "common_divisor" 12 (.str "dullglass.glasses" 274) 85
def o90:Obj:=co0 "lowest_table" "lowest_table" 290 37 2 3 87 true .none .none (.ref 89) 293
def o91:Obj:=fo1 "lowest_table" 13 (.str "dullglass.glasses" 274) 90
def o95:Obj:=co0 "divided" "divided" 296 40 2 3 92 true .none .none (.ref 94) 299
def o96:Obj:=fo1 "divided" 14 (.str "dullglass.glasses" 274) 95
def o100:Obj:=co0 "table_of_shares" "table_of_shares" 302 42 1 3 97 true .none .none (.ref 99) 305
def o101:Obj:=fo1 "table_of_shares" 15 (.str "dullglass.glasses" 274) 100
def o105:Obj:=co0 "over_bottom" "over_bottom" 308 48 2 3 102 true .none .none (.ref 104) 311
def o106:Obj:=fo1 "over_bottom" 16 (.str "dullglass.glasses" 274) 105
def o112:Obj:=co1 "stands" 314 50 1 3 107 true 318
def o113:Obj:=fo1 "stands" 17 (.str "dullglass.glasses" 274) 112
def o119:Obj:=co1 "signs" 321 52 1 3 114 true 325
def o120:Obj:=fo1 "signs" 18 (.str "dullglass.glasses" 274) 119
def o124:Obj:=co0 "column" "column" 328 54 2 3 121 true .none .none (.ref 123) 331
def o125:Obj:=fo1 "column" 19 (.str "dullglass.glasses" 274) 124
def o129:Obj:=co0 "one_sign" "one_sign" 334 56 2 3 126 true .none .none (.ref 128) 337
def o130:Obj:=fo1 "one_sign" 20 (.str "dullglass.glasses" 274) 129
def o134:Obj:=co0 "least" "least" 342 59 1 3 131 true .none .none (.ref 133) 345
def o135:Obj:=fo1 "least" 22 (.str "dullglass.least" 340) 134
def o141:Obj:=co1 "sorted_groups" 348 65 1 3 136 true 357
def o142:Obj:=fo1 "sorted_groups" 23 (.str "dullglass.least" 340) 141
def o146:Obj:=co0 "joined_column" "joined_column" 360 73 2 3 143 true .none .none (.ref 145) 363
def o147:Obj:=fo1 "joined_column" 24 (.str "dullglass.least" 340) 146
def o151:Obj:=co0 "joined_numbers" "joined_numbers" 366 75 2 3 148 true .none .none (.ref 150) 369
def o152:Obj:=fo1 "joined_numbers" 25 (.str "dullglass.least" 340) 151
def o156:Obj:=co0 "joined_number" "joined_number" 372 77 2 3 153 true .none .none (.ref 155) 375
def o157:Obj:=fo1 "joined_number" 26 (.str "dullglass.least" 340) 156
def o163:Obj:=co1 "place_of" 378 79 2 3 158 true 385
def o164:Obj:=fo1 "place_of" 27 (.str "dullglass.least" 340) 163
def o168:Obj:=co0 "parts_of" "parts_of" 388 84 2 3 165 true .none .none (.ref 167) 391
def o169:Obj:=fo1 "parts_of" 28 (.str "dullglass.least" 340) 168
def o173:Obj:=co0 "beliefs" "beliefs" 398 89 2 3 170 true .none .none (.ref 172) 401
def o174:Obj:=fo1 "beliefs" 31 (.str "dullglass.beliefs" 394) 173
def o178:Obj:=co0 "is_weights" "is_weights" 404 96 1 3 175 true .none .none (.ref 177) 407
def o179:Obj:=fo1 "is_weights" 32 (.str "dullglass.beliefs" 394) 178
def o183:Obj:=co0 "belief_behind" "belief_behind" 410 100 3 3 180 true .none .none (.ref 182) 413
def o184:Obj:=fo1 "belief_behind" 33 (.str "dullglass.beliefs" 394) 183
def o190:Obj:=co1 "_law_pen" 418 105 1 3 185 true 423
def o191:Obj:=fo1 "_law_pen" 35 (.str "law_dullglass_k38_beliefs_behind_signs" 416) 190
def o197:Obj:=co1 "_law_mixed" 426 110 1 3 192 true 432
def o198:Obj:=fo1 "_law_mixed" 36 (.str "law_dullglass_k38_beliefs_behind_signs" 416) 197
def o204:Obj:=co1 "_law_next" 435 116 2 3 199 true 441
def o205:Obj:=fo1 "_law_next" 37 (.str "law_dullglass_k38_beliefs_behind_signs" 416) 204
def o211:Obj:=co1 "_law_divisor" 444 129 1 3 206 true 451
def o212:Obj:=fo1 "_law_divisor" 38 (.str "law_dullglass_k38_beliefs_behind_signs" 416) 211
def o218:Obj:=co1 "_law_share" 454 136 2 3 213 true 460
def o219:Obj:=fo1 "_law_share" 39 (.str "law_dullglass_k38_beliefs_behind_signs" 416) 218
def o223:Obj:=co0 "_law_reduced" "_law_reduced" 463 139 2 3 220 true .none .none (.ref 222) 466
def o224:Obj:=fo1 "_law_reduced" 40 (.str "law_dullglass_k38_beliefs_behind_signs" 416) 223
def o228:Obj:=co0 "_law_row" "_law_row" 469 145 3 3 225 true .none .none (.ref 227) 472
def o229:Obj:=fo1 "_law_row" 41 (.str "law_dullglass_k38_beliefs_behind_signs" 416) 228
def o233:Obj:=co0 "_law_split" "_law_split" 475 148 2 3 230 true .none .none (.ref 232) 478
def o234:Obj:=fo1 "_law_split" 42 (.str "law_dullglass_k38_beliefs_behind_signs" 416) 233
def o238:Obj:=co0 "_law_table" "_law_table" 481 160 4 3 235 true .none .none (.ref 237) 484
def o239:Obj:=fo1 "_law_table" 43 (.str "law_dullglass_k38_beliefs_behind_signs" 416) 238
def o245:Obj:=co1 "_law_whole" 487 168 1 3 240 true 491
def o246:Obj:=fo1 "_law_whole" 44 (.str "law_dullglass_k38_beliefs_behind_signs" 416) 245
def o250:Obj:=co0 "_law_same" "_law_same" 494 170 2 3 247 true .none .none (.ref 249) 497
def o251:Obj:=fo1 "_law_same" 45 (.str "law_dullglass_k38_beliefs_behind_signs" 416) 250
def o255:Obj:=co0 "_law_weights" "_law_weights" 500 176 2 3 252 true .none .none (.ref 254) 503
def o256:Obj:=fo1 "_law_weights" 46 (.str "law_dullglass_k38_beliefs_behind_signs" 416) 255
def o260:Obj:=co0 "_law_belief" "_law_belief" 506 179 2 3 257 true .none .none (.ref 259) 509
def o261:Obj:=fo1 "_law_belief" 47 (.str "law_dullglass_k38_beliefs_behind_signs" 416) 260
def o267:Obj:=co1 "_law_below" 512 182 2 3 262 true 518
def o268:Obj:=fo1 "_law_below" 48 (.str "law_dullglass_k38_beliefs_behind_signs" 416) 267
def o272:Obj:=co0 "_law_piles" "_law_piles" 521 187 2 3 269 true .none .none (.ref 271) 524
def o273:Obj:=fo1 "_law_piles" 49 (.str "law_dullglass_k38_beliefs_behind_signs" 416) 272
def o279:Obj:=co1 "_law_right" 527 196 3 3 274 true 537
def o280:Obj:=fo1 "_law_right" 50 (.str "law_dullglass_k38_beliefs_behind_signs" 416) 279
def o286:Obj:=co1 "law" 540 213 1 3 281 true 550
def o287:Obj:=fo1 "law" 51 (.str "law_dullglass_k38_beliefs_behind_signs" 416) 286
def tA0 (P:Params):BT:=(N0 (boot_o_0 P) (N0 (boot_o_1 P) (N0 (boot_o_3 P) (N0 (boot_o_7 P) nl0 nl0) (N0 (tu0 []) nl0 nl0)) (N0 (boot_o_5 P) (N0 (boot_o_9 P) nl0 nl0) (N0 o13a nl0 nl0))) (N0 (boot_o_2 P) (N0 (boot_o_4 P) (N0 (boot_o_8 P) nl0 nl0) (N0 em0 nl0 nl0)) (N0 (boot_o_6 P) (N0 (boot_o_10 P) nl0 nl0) (N0 o14a nl0 nl0))))
def tE0 (P:Params):BT:=(N0 (boot_o_0 P) (N0 (boot_o_1 P) (N0 (o3 P) (N0 (boot_o_7 P) (N0 (tu0 [(.type "ValueError")]) (N0 (tu0 []) (N0 (pr0 "divisor" "divisor" (top 6)) (N0 em0 (N0 o255 nl0 nl0) nl0) (N0 o191 nl0 nl0)) (N0 o95 (N0 em0 (N0 o287 nl0 nl0) nl0) (N0 o223 nl0 nl0))) (N0 (tu0 []) (N0 o79 (N0 (tu0 []) (N0 (pr0 "_law_piles" "_law_piles" (top 49)) nl0 nl0) nl0) (N0 em0 nl0 nl0)) (N0 (pr0 "stands" "stands" (top 17)) (N0 (tu0 []) nl0 nl0) (N0 o239 nl0 nl0)))) (N0 (o23 P) (N0 o39 (N0 o71 (N0 o135 (N0 em0 nl0 nl0) nl0) (N0 (tu0 []) nl0 nl0)) (N0 em0 (N0 (pr0 "parts_of" "parts_of" (top 28)) nl0 nl0) (N0 em0 nl0 nl0))) (N0 (tu0 []) (N0 (tu0 []) (N0 o151 (N0 o279 nl0 nl0) nl0) (N0 (tu0 [(.str "_law_top" 457),(.str "_law_bottom" 458),(.str "_law_both" 459)]) nl0 nl0)) (N0 o119 (N0 o183 nl0 nl0) (N0 (tu0 []) nl0 nl0))))) (N0 (tu0 []) (N0 em0 (N0 (tu0 []) (N0 em0 (N0 (tu0 []) (N0 (pr0 "_law_belief" "_law_belief" (top 47)) nl0 nl0) nl0) (N0 (tu0 []) nl0 nl0)) (N0 (pr0 "table_of_shares" "table_of_shares" (top 15)) (N0 o163 nl0 nl0) (N0 (pr0 "_law_row" "_law_row" (top 41)) nl0 nl0))) (N0 o51 (N0 (tu0 []) (N0 o147 (N0 em0 nl0 nl0) nl0) (N0 o211 nl0 nl0)) (N0 em0 (N0 o179 nl0 nl0) (N0 (tu0 []) nl0 nl0)))) (N0 o27 (N0 (tu0 []) (N0 (tu0 [(.str "top" 268),(.str "bottom" 269),(.str "common" 270)]) (N0 (tu0 [(.str "glass" 356)]) (N0 o267 nl0 nl0) nl0) (N0 (pr0 "_law_next" "_law_next" (top 37)) nl0 nl0)) (N0 (tu0 []) (N0 em0 nl0 nl0) (N0 (tu0 []) nl0 nl0))) (N0 (tu0 []) (N0 o91 (N0 (pr0 "joined_number" "joined_number" (top 26)) (N0 (tu0 [(.str "_law_script" 543),(.str "_law_pen_here" 544),(.str "_law_glass" 545),(.str "_law_weights_here" 546),(.str "_law_piles_here" 547),(.str "_law_whole_here" 548),(.str "_law_found" 549)]) nl0 nl0) nl0) (N0 o219 nl0 nl0)) (N0 (pr0 "column" "column" (top 19)) (N0 (tu0 [(.str "_law_script" 421),(.str "_law_head" 422)]) nl0 nl0) (N0 o251 nl0 nl0)))))) (N0 (boot_o_5 P) (N0 (boot_o_9 P) (N0 (o17 P) (N0 o33 (N0 o65 (N0 o129 (N0 (tu0 []) nl0 nl0) nl0) (N0 em0 nl0 nl0)) (N0 (tu0 []) (N0 (tu0 []) nl0 nl0) (N0 (tu0 []) nl0 nl0))) (N0 o49 (N0 em0 (N0 (pr0 "joined_column" "joined_column" (top 24)) (N0 o273 nl0 nl0) nl0) (N0 (tu0 []) nl0 nl0)) (N0 o113 (N0 (pr0 "is_weights" "is_weights" (top 32)) nl0 nl0) (N0 em0 nl0 nl0)))) (N0 o25 (N0 o41 (N0 (tu0 []) (N0 em0 (N0 (tu0 []) nl0 nl0) nl0) (N0 (tu0 [(.str "_law_pen_here" 438),(.str "_law_many" 439),(.str "_law_found" 440)]) nl0 nl0)) (N0 o105 (N0 o169 nl0 nl0) (N0 o233 nl0 nl0))) (N0 o57 (N0 (pr0 "lowest_table" "lowest_table" (top 13)) (N0 (tu0 []) (N0 (tu0 []) nl0 nl0) nl0) (N0 (pr0 "_law_share" "_law_share" (top 39)) nl0 nl0)) (N0 (tu0 []) (N0 (tu0 []) nl0 nl0) (N0 (pr0 "_law_same" "_law_same" (top 45)) nl0 nl0))))) (N0 o13a (N0 o21 (N0 o37 (N0 (tu0 []) (N0 (pr0 "least" "least" (top 22)) (N0 o261 nl0 nl0) nl0) (N0 o197 nl0 nl0)) (N0 o101 (N0 (tu0 []) nl0 nl0) (N0 o229 nl0 nl0))) (N0 em0 (N0 o85 (N0 em0 (N0 (tu0 []) nl0 nl0) nl0) (N0 (tu0 []) nl0 nl0)) (N0 (tu0 []) (N0 em0 nl0 nl0) (N0 o245 nl0 nl0)))) (N0 o29 (N0 o45 (N0 (pr0 "reduced" "reduced" (top 8)) (N0 o141 (N0 (tu0 []) nl0 nl0) nl0) (N0 o205 nl0 nl0)) (N0 (tu0 [(.str "glass" 317)]) (N0 o173 nl0 nl0) (N0 (pr0 "_law_table" "_law_table" (top 43)) nl0 nl0))) (N0 (tu0 [(.str "one" 251),(.str "other" 252),(.str "rest" 253)]) (N0 em0 (N0 o157 (N0 (pr0 "law" "law" (top 51)) nl0 nl0) nl0) (N0 em0 nl0 nl0)) (N0 o125 (N0 (pr0 "_law_pen" "_law_pen" (top 35)) nl0 nl0) (N0 em0 nl0 nl0))))))) (N0 (boot_o_2 P) (N0 (boot_o_4 P) (N0 (boot_o_8 P) (N0 o16 (N0 em0 (N0 o64 (N0 (pr0 "one_sign" "one_sign" (top 20)) (N0 o256 nl0 nl0) nl0) (N0 (tu0 []) nl0 nl0)) (N0 o96 (N0 (tu0 [(.str "sign" 381),(.str "groups" 382),(.str "place" 383),(.str "group" 384)]) nl0 nl0) (N0 o224 nl0 nl0))) (N0 (o48 P) (N0 (tu0 []) (N0 em0 (N0 o272 nl0 nl0) nl0) (N0 (tu0 [(.str "_law_numbers" 447),(.str "_law_found" 448),(.str "_law_number" 449),(.str "_law_other" 450)]) nl0 nl0)) (N0 o112 (N0 em0 nl0 nl0) (N0 (tu0 []) nl0 nl0)))) (N0 o24 (N0 (tu0 [(.ref 24)]) (N0 o72 (N0 (tu0 []) (N0 (tu0 [(.str "_law_one" 515),(.str "_law_other" 516),(.str "_law_k" 517)]) nl0 nl0) nl0) (N0 em0 nl0 nl0)) (N0 (pr0 "over_bottom" "over_bottom" (top 16)) (N0 o168 nl0 nl0) (N0 (pr0 "_law_split" "_law_split" (top 42)) nl0 nl0))) (N0 (pr0 "is_whole" "is_whole" (top 5)) (N0 em0 (N0 o152 (N0 o280 nl0 nl0) nl0) (N0 (tu0 []) nl0 nl0)) (N0 o120 (N0 o184 nl0 nl0) (N0 em0 nl0 nl0))))) (N0 o12 (N0 o20 (N0 (o36 P) (N0 (tu0 [(.str "top" 260),(.str "bottom" 261)]) (N0 em0 (N0 o260 nl0 nl0) nl0) (N0 (pr0 "_law_mixed" "_law_mixed" (top 36)) nl0 nl0)) (N0 o100 (N0 o164 nl0 nl0) (N0 o228 nl0 nl0))) (N0 (tu0 []) (N0 (pr0 "common_divisor" "common_divisor" (top 12)) (N0 (tu0 []) (N0 (tu0 [(.str "_law_found" 530),(.str "_law_piles_here" 531),(.str "_law_whole_here" 532),(.str "_law_k" 533),(.str "_law_part" 534),(.str "_law_belief_here" 535),(.str "_law_one" 536)]) nl0 nl0) nl0) (N0 o212 nl0 nl0)) (N0 (tu0 [(.str "glass" 324)]) (N0 (tu0 []) nl0 nl0) (N0 (pr0 "_law_whole" "_law_whole" (top 44)) nl0 nl0)))) (N0 (tu0 [(.ref 24)]) (N0 em0 (N0 (tu0 []) (N0 (pr0 "sorted_groups" "sorted_groups" (top 23)) (N0 o268 nl0 nl0) nl0) (N0 o204 nl0 nl0)) (N0 em0 (N0 (pr0 "beliefs" "beliefs" (top 31)) nl0 nl0) (N0 em0 nl0 nl0))) (N0 em0 (N0 (tu0 []) (N0 o156 (N0 (tu0 []) nl0 nl0) nl0) (N0 (tu0 []) nl0 nl0)) (N0 o124 (N0 (tu0 []) nl0 nl0) (N0 (tu0 []) nl0 nl0)))))) (N0 (boot_o_6 P) (N0 (boot_o_10 P) (N0 (tu0 []) (N0 o34 (N0 (tu0 []) (N0 o130 (N0 em0 nl0 nl0) nl0) (N0 (tu0 [(.str "_law_pen_here" 429),(.str "_law_cell" 430),(.str "_law_number" 431)]) nl0 nl0)) (N0 em0 (N0 (pr0 "place_of" "place_of" (top 27)) nl0 nl0) (N0 em0 nl0 nl0))) (N0 o50 (N0 (tu0 [(.str "rows" 283),(.str "common" 284),(.str "row" 285),(.str "number" 286)]) (N0 o146 (N0 (tu0 []) nl0 nl0) nl0) (N0 (pr0 "_law_divisor" "_law_divisor" (top 38)) nl0 nl0)) (N0 (tu0 []) (N0 o178 nl0 nl0) (N0 (tu0 [(.str "_law_thing" 490)]) nl0 nl0)))) (N0 o26 (N0 (o42 P) (N0 em0 (N0 (tu0 [(.str "glass" 351),(.str "groups" 352),(.str "sign" 353),(.str "numbers" 354),(.str "alone" 355)]) (N0 (pr0 "_law_below" "_law_below" (top 48)) nl0 nl0) nl0) (N0 (tu0 []) nl0 nl0)) (N0 o106 (N0 (tu0 []) nl0 nl0) (N0 o234 nl0 nl0))) (N0 o58 (N0 o90 (N0 em0 (N0 em0 nl0 nl0) nl0) (N0 o218 nl0 nl0)) (N0 em0 (N0 em0 nl0 nl0) (N0 o250 nl0 nl0))))) (N0 o14a (N0 (tu0 []) (N0 o38 (N0 (pr0 "share" "share" (top 7)) (N0 o134 (N0 (tu0 []) nl0 nl0) nl0) (N0 o198 nl0 nl0)) (N0 (tu0 []) (N0 em0 nl0 nl0) (N0 (tu0 []) nl0 nl0))) (N0 (tu0 [(.str "thing" 244)]) (N0 o86 (N0 (pr0 "joined_numbers" "joined_numbers" (top 25)) (N0 (pr0 "_law_right" "_law_right" (top 50)) nl0 nl0) nl0) (N0 em0 nl0 nl0)) (N0 (pr0 "signs" "signs" (top 18)) (N0 (pr0 "belief_behind" "belief_behind" (top 33)) nl0 nl0) (N0 o246 nl0 nl0)))) (N0 (o30 P) (N0 o46 (N0 o78 (N0 o142 (N0 em0 nl0 nl0) nl0) (N0 (tu0 []) nl0 nl0)) (N0 (tu0 []) (N0 o174 nl0 nl0) (N0 o238 nl0 nl0))) (N0 (tu0 []) (N0 (pr0 "divided" "divided" (top 14)) (N0 (tu0 []) (N0 o286 nl0 nl0) nl0) (N0 (pr0 "_law_reduced" "_law_reduced" (top 40)) nl0 nl0)) (N0 (tu0 []) (N0 o190 nl0 nl0) (N0 (pr0 "_law_weights" "_law_weights" (top 46)) nl0 nl0))))))))
lay_quick My.cE0 My.env0 My.ls0
theorem r_pre (w:World):(fun os=>topGo treeTable PySem.Challenge.pw_dullglass_k38_beliefs_behind_signs w 11 (some (.ref 6)) 12 (Shared.mk (boot_heap w.params) (Array.mk []) boot_drawn boot_toks os) (topStub PySem.Challenge.pw_dullglass_k38_beliefs_behind_signs))=fun os=>some ((SharedT.mk (tA0 w.params) 15 lf0 (Array.mk []) boot_drawn 187 os).abs,Thread.mk (denote treeTable cE0) cE0 ⟨0,0,0,0⟩ [topFrame ⟨0,0,0,0⟩]):=by
 rewrite [PySem.W.Fast.te15667345088766844465,PySem.W.Fast.te14364793385576792824,PySem.W.Fast.te5279571863374219479,PySem.W.Fast.te11892475500146522536,PySem.W.Fast.te2665708160071446767]
 kernel_rfl
theorem r_block (w:World):(fun os=>segRun treeTable PySem.Challenge.pw_dullglass_k38_beliefs_behind_signs w 11 (some (.ref 6)) 1 1 (SharedT.mk (tA0 w.params) 15 lf0 (Array.mk []) boot_drawn 187 os).abs (blockOf (behindTheImports PySem.Challenge.pw_dullglass_k38_beliefs_behind_signs) env0 cE0 ⟨0,0,0,0⟩ [topFrame ⟨0,0,0,0⟩]))=fun os=>some (.next,(SharedT.mk (tA0 w.params) 15 lf0 (Array.mk []) boot_drawn 187 os).abs,cE0,⟨0,0,0,0⟩):=by
 rewrite [PySem.W.Fast.te14374325043358763698,PySem.W.Fast.te14364793385576792824,PySem.W.Fast.te5279571863374219479,PySem.W.Fast.te2665708160071446767,PySem.W.Fast.te13849342267361746138]
 kernel_rfl
theorem r_all (w:World):(fun os=>segRunT treeTable PySem.Challenge.pw_dullglass_k38_beliefs_behind_signs w 11 (some (.ref 6)) 1 1828 (SharedT.mk (tA0 w.params) 15 lf0 (Array.mk []) boot_drawn 187 os) (piecesOf (behindTheImports PySem.Challenge.pw_dullglass_k38_beliefs_behind_signs) env0 cE0 ⟨0,0,0,0⟩ [topFrame ⟨0,0,0,0⟩]))=fun os=>some (.next,(SharedT.mk (tE0 w.params) 288 lf0 (Array.mk []) boot_drawn 553 os),cE0,⟨213,0,223,95⟩):=by
 rewrite [PySem.W.Fast.te10110043849684766642,PySem.W.Fast.te14364793385576792824,PySem.W.Fast.te5279571863374219479,PySem.W.Fast.te2665708160071446767,PySem.W.Fast.te13849342267361746138]
 kernel_rfl
theorem r_fin (w:World):(fun os=>topRun treeTable PySem.Challenge.pw_dullglass_k38_beliefs_behind_signs w 11 (some (.ref 6)) 2 (SharedT.mk (tE0 w.params) 288 lf0 (Array.mk []) boot_drawn 553 os).abs ⟨doneF .next,cE0,⟨213,0,223,95⟩,[topFrame ⟨0,0,0,0⟩]⟩)=fun os=>some (SharedT.mk (tE0 w.params) 288 lf0 (Array.mk []) boot_drawn 553 os).abs:=by
 rewrite [PySem.W.Fast.te14082659384304107361,PySem.W.Fast.te14364793385576792824,PySem.W.Fast.te5279571863374219479,PySem.W.Fast.te2665708160071446767]
 kernel_rfl
theorem r_run (w:World) (os:OsState):topRun treeTable PySem.Challenge.pw_dullglass_k38_beliefs_behind_signs w 11 (some (.ref 6)) (12+(1+(1828+2))) (Shared.mk (boot_heap w.params) (Array.mk []) boot_drawn boot_toks os) (topStub PySem.Challenge.pw_dullglass_k38_beliefs_behind_signs)=some (SharedT.mk (tE0 w.params) 288 lf0 (Array.mk []) boot_drawn 553 os).abs :=
 go_top (congrFun (r_pre w) os) (piece_block (congrFun (r_block w) os) (by
  have q:=piece_app (rest:=[]) (segRun_of (congrFun (r_all w) os)) (piece_nil (congrFun (r_fin w) os))
  rwa [List.append_nil] at q))
theorem r_open:opening PySem.Challenge.pw_dullglass_k38_beliefs_behind_signs=plainProg PySem.Challenge.pw_dullglass_k38_beliefs_behind_signs.main.scope.names:=by kernel_rfl
theorem r_fence (s:Shared):fenceModules? PySem.Challenge.pw_dullglass_k38_beliefs_behind_signs s=some s:=by kernel_rfl
theorem r_size (w:World):((boot_heap w.params).isNs mainGlobals&&(Array.mk []:Array GenState).size==0,(boot_heap w.params).objs.size,(boot_heap w.params).nsMap mainGlobals "__annotations__")=(true,11,(some (.ref 6))):=by kernel_rfl
theorem l_one (w:World):(fun os=>(staticsOk (importedModules PySem.Challenge.pw_dullglass_k38_beliefs_behind_signs.main.body) (boot_heap w.params) (absHeap (tE0 w.params) 288 lf0)&&namesBound PySem.Challenge.pw_dullglass_k38_beliefs_behind_signs (absHeap (tE0 w.params) 288 lf0)&&gensDone (Shared.mk (absHeap (tE0 w.params) 288 lf0) (Array.mk []) boot_drawn 553 os)&&laidKept (boot_heap w.params) (absHeap (tE0 w.params) 288 lf0)))=fun _=>true:=by
 rewrite [PySem.W.Fast.te5923862056798008813,PySem.W.Fast.te5279571863374219479]
 kernel_rfl
theorem l_two (w:World):(fun os=>openSeen (view PySem.Challenge.pw_dullglass_k38_beliefs_behind_signs [51]) ls0 (importedModules PySem.Challenge.pw_dullglass_k38_beliefs_behind_signs.main.body) (fun _=>true) true (Shared.mk (absHeap (tE0 w.params) 288 lf0) (Array.mk []) boot_drawn 553 os))=fun _=>openGood (view PySem.Challenge.pw_dullglass_k38_beliefs_behind_signs [51]) ls0:=by
 rewrite [PySem.W.Fast.te4187177175401517315,PySem.W.Fast.te5923862056798008813,PySem.W.Fast.te5279571863374219479,PySem.W.Fast.te4294247251607483543]
 kernel_rfl
def K0 (P:Params):Frag:=(nat_lit 2,(boot_o_2 P))::(nat_lit 3,(o3 P))::(nat_lit 23,(o23 P))::(nat_lit 24,o24)::(nat_lit 25,o25)::(nat_lit 36,(o36 P))::(nat_lit 37,o37)::(nat_lit 48,(o48 P))::(nat_lit 49,o49)::(nat_lit 57,o57)::(nat_lit 58,o58)::(nat_lit 64,o64)::(nat_lit 65,o65)::(nat_lit 71,o71)::(nat_lit 72,o72)::(nat_lit 78,o78)::(nat_lit 79,o79)::(nat_lit 85,o85)::(nat_lit 86,o86)::(nat_lit 90,o90)::(nat_lit 91,o91)::(nat_lit 95,o95)::(nat_lit 96,o96)::(nat_lit 100,o100)::(nat_lit 101,o101)::(nat_lit 105,o105)::(nat_lit 106,o106)::(nat_lit 112,o112)::(nat_lit 113,o113)::(nat_lit 119,o119)::(nat_lit 120,o120)::(nat_lit 124,o124)::(nat_lit 125,o125)::(nat_lit 129,o129)::(nat_lit 130,o130)::(nat_lit 134,o134)::(nat_lit 135,o135)::(nat_lit 141,o141)::(nat_lit 142,o142)::(nat_lit 146,o146)::(nat_lit 147,o147)::(nat_lit 151,o151)::(nat_lit 152,o152)::(nat_lit 156,o156)::(nat_lit 157,o157)::(nat_lit 163,o163)::(nat_lit 164,o164)::(nat_lit 168,o168)::(nat_lit 169,o169)::(nat_lit 173,o173)::(nat_lit 174,o174)::(nat_lit 178,o178)::(nat_lit 179,o179)::(nat_lit 183,o183)::(nat_lit 184,o184)::(nat_lit 190,o190)::(nat_lit 191,o191)::(nat_lit 197,o197)::(nat_lit 198,o198)::(nat_lit 204,o204)::(nat_lit 205,o205)::(nat_lit 211,o211)::(nat_lit 212,o212)::(nat_lit 218,o218)::(nat_lit 219,o219)::(nat_lit 223,o223)::(nat_lit 224,o224)::(nat_lit 228,o228)::(nat_lit 229,o229)::(nat_lit 233,o233)::(nat_lit 234,o234)::(nat_lit 238,o238)::(nat_lit 239,o239)::(nat_lit 245,o245)::(nat_lit 246,o246)::(nat_lit 250,o250)::(nat_lit 251,o251)::(nat_lit 255,o255)::(nat_lit 256,o256)::(nat_lit 260,o260)::(nat_lit 261,o261)::(nat_lit 267,o267)::(nat_lit 268,o268)::(nat_lit 272,o272)::(nat_lit 273,o273)::(nat_lit 279,o279)::(nat_lit 280,o280)::(nat_lit 286,o286)::(nat_lit 287,o287)::(nat_lit 4,(boot_o_4 P))::[]
def K1 (P:Params):Frag:=(nat_lit 137,em0)::K0 P
def as0:List Addr:=[137,2,3,23,24,25,36,37,48,49,57,58,64,65,71,72,78,79,85,86,90,91,95,96,100,101,105,106,112,113,119,120,124,125,129,130,134,135,141,142,146,147,151,152,156,157,163,164,168,169,173,174,178,179,183,184,190,191,197,198,204,205,211,212,218,219,223,224,228,229,233,234,238,239,245,246,250,251,255,256,260,261,267,268,272,273,279,280,286,287,4]
theorem l_three (w:World):(fun (os:OsState)=>as0.map (absHeap (tE0 w.params) 288 lf0).get?)=fun _=>(K1 w.params).map fun p=>some p.2:=by kernel_rfl
theorem left0:LeftO PySem.Challenge.pw_dullglass_k38_beliefs_behind_signs (view PySem.Challenge.pw_dullglass_k38_beliefs_behind_signs [51]) ls0 (fun _=>true) (fun s=>as0.map s.heap.get?) (fun w=>(K1 w.params).map fun p=>some p.2) 100000 :=
 LeftO.of_pieces (H₀:=boot_heap) (H₁:=fun P=>absHeap (tE0 P) 288 lf0) (gs₁:=Array.mk []) (d₁:=boot_drawn) (k₁:=553) (boot_open r_open rfl r_fence) r_size r_run rfl fun w=>by
  funext os
  exact congr (congrArg Prod.mk (congrFun (l_one w) os)) (congr (congrArg Prod.mk (congrFun (l_two w) os)) (congrFun (l_three w) os))
end
end My
open PySem PySem.W PyProof.Rows
set_option maxRecDepth 100000 in
set_option maxHeartbeats 0 in
theorem PySem.Challenge.cw_dullglass_k38_beliefs_behind_signs_holds : PySem.Challenge.rw_dullglass_k38_beliefs_behind_signs.Holds := by
 w_on;o_law
 refine holds_open (q:=view PySem.Challenge.pw_dullglass_k38_beliefs_behind_signs [51]) (XP:=fun _ _=>True) (YP:=InK My.K1) My.left0 (InK.of fun _=>by kernel_rfl) InK.keeps (fun _ _=>True.intro) (fun _ _ _ _ _=>True.intro) (by rfl) (by rfl) (by rfl) (fun s _=>recFacts_nil rfl) (by rfl) (by assumption) (by decide +kernel) ⟨rfl,rfl,rfl,rfl,rfl,by decide +kernel⟩ ?hw ?hc
 case hw=>w_witness2
 k_fill
 refine My.walk (l:=PySem.Challenge.rw_dullglass_k38_beliefs_behind_signs) (K:=My.K0) (tbs:=[137]) rfl rfl (fun w h Y=>L2.tabs_in (ts:=[(137,141)]) (by rfl) (by rfl) Y) (fun _=>L2.none_all (ts:=[(137,141)]) (by rfl)) ?F
 case F =>
  k_fill
  intro w mg fa h KX G hmg
  refine' My.all_mk (c_tb:=137) KX G hmg ..
  iterate 3 all_goals try first|k_is|k_exc|rfl|(refine' My.DK.mk ?a (My.LK.mk ?l ?c ?k); (case a=>k_is); (case l=>k_is); (case c=>k_is); (case k=>k_is))|(refine' My.LK.mk ?l ?c ?k; (case l=>k_is); (case c=>k_is); (case k=>k_is))
