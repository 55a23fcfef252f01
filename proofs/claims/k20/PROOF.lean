import PyProof.Rows.All
import Wide.All
import OpenK.AllK
import Wide.FinOn
import Lean
import PyProof.EqAt
import PyProof.EqKinds
import PyProof.TupleCall
import PySem.Challenge.RW_dullglass_k20_whole_dulled_never_gains_m
set_option Elab.async false
set_option linter.all false
set_option maxRecDepth 100000
set_option maxHeartbeats 4000000
set_option genSizeOf false
set_option genInjectivity false
namespace L2
open PySem PySem.Spec PyProof.Rows
abbrev Key:=Sum Int Str
def qsq:Key→Value→Bool
 | .inl k,v=>Value.isInt k v
 | .inr x,v=>Value.isStrOf x v
def keyH (w:World):Key→Int
 | .inl k=>hashInt k
 | .inr x=>hashStr w x
theorem qah : ∀ {k:Key}{v:Value},qsq k v=true→(∃ i t,k=Sum.inl i∧v=Value.int i t)∨(∃ x t,k=Sum.inr x∧v=Value.str x t)
 | .inl i,v,h=>by
  obtain ⟨t,e⟩:=Value.isInt_shape (k:=i) (v:=v) h
  exact .inl ⟨i,t,rfl,e⟩
 | .inr x,v,h=>by
  obtain ⟨t,e⟩:=Value.isStrOf_shape (x:=x) (v:=v) h
  exact .inr ⟨x,t,rfl,e⟩
theorem zaba (i:Int) (t:Tok):qsq (.inl i) (.int i t)=true:=by simp [qsq,Value.isInt]
theorem zabi (x:Str) (t:Tok):qsq (.inr x) (.str x t)=true:=by simp [qsq,Value.isStrOf]
theorem zamj (a b:Int):decide ((Sum.inl a:Key)=Sum.inl b)=(a==b):=by
 by_cases e:a=b
 ·subst e;simp
 ·have h : ¬ (Sum.inl a:Key)=Sum.inl b:=fun q=>e (Sum.inl.inj q)
  rw [decide_eq_false h]
  exact (beq_eq_false_iff_ne.mpr e).symm
theorem zaob (a b:Str):decide ((Sum.inr a:Key)=Sum.inr b)=decide (a=b):=by
 by_cases e:a=b
 ·subst e;simp
 ·have h : ¬ (Sum.inr a:Key)=Sum.inr b:=fun q=>e (Sum.inr.inj q)
  rw [decide_eq_false h,decide_eq_false e]
theorem zanu (a:Int) (b:Str):decide ((Sum.inl a:Key)=Sum.inr b)=false:=decide_eq_false (fun q=>nomatch q)
theorem zaop (a:Str) (b:Int):decide ((Sum.inr a:Key)=Sum.inl b)=false:=decide_eq_false (fun q=>nomatch q)
def qcj (prog:Program) (w:World):PySem.KeyKind prog w Key where
 is:=qsq
 hash:=keyH w
 inj:=fun v a b ha hb=>by
  rcases qah ha with ⟨i,t,rfl,rfl⟩|⟨x,t,rfl,rfl⟩
  ·rcases qah hb with ⟨j,u,rfl,e⟩|⟨y,u,rfl,e⟩
   ·injection e with e1 _;rw [e1]
   ·exact nomatch e
  ·rcases qah hb with ⟨j,u,rfl,e⟩|⟨y,u,rfl,e⟩
   ·exact nomatch e
   ·injection e with e1 _;rw [e1]
 byValue:=fun k v h=>by
  rcases qah h with ⟨i,t,rfl,rfl⟩|⟨x,t,rfl,rfl⟩ <;> rfl
 pyHash:=fun hv h=>by
  rcases qah hv with ⟨i,t,rfl,rfl⟩|⟨x,t,rfl,rfl⟩
  ·exact wpAny_pyHash_int h
  ·exact wpAny_pyHash_str h
 eqBool:=fun hu hv h=>by
  rcases qah hu with ⟨i,t,rfl,rfl⟩|⟨x,t,rfl,rfl⟩
  ·rcases qah hv with ⟨j,u,rfl,rfl⟩|⟨y,u,rfl,rfl⟩
   ·rw [zamj] at h;exact wpAny_eqBool_int h
   ·rw [zanu] at h;exact SeqAt.EqAt.int_str i t y u _ _ _ _ h
  ·rcases qah hv with ⟨j,u,rfl,rfl⟩|⟨y,u,rfl,rfl⟩
   ·rw [zaop] at h;exact SeqAt.EqAt.str_int x t j u _ _ _ _ h
   ·rw [zaob] at h;exact wpAny_eqBool_str h
 «strs»:=fun k x t v h=>by
  rcases qah h with ⟨i,u,rfl,e⟩|⟨y,u,rfl,e⟩
  ·exact nomatch e
  ·injection e with e1 _
   subst e1
   cases v <;> rfl
theorem qtw (prog:Program) (w:World) (i:Int) (t:Tok):(qcj prog w).is (.inl i) (.int i t)=true:=zaba i t
theorem qtj (prog:Program) (w:World) (x:Str) (t:Tok):(qcj prog w).is (.inr x) (.str x t)=true:=zabi x t
end L2
namespace L2
open PySem PySem.Spec PyProof.Rows
inductive V where
 | non|bl (b:Bool)|int (i:Int)|str (x:Str)|byt (b:Array UInt8)|flt (b:UInt64)|ref (a:Addr)|ty (n:String)
 deriving DecidableEq
def RelV:V→Value→Prop
 | .non,u=>u=Value.none
 | .bl b,u=>u=Value.bool b
 | .int i,u => ∃ t,u=Value.int i t
 | .str x,u => ∃ t,u=Value.str x t
 | .byt b,u => ∃ t,u=Value.bytes b t
 | .flt b,u => ∃ t,u=Value.float b t
 | .ref a,u=>u=Value.ref a
 | .ty n,u=>u=Value.type n
abbrev Vals:List V→List Value→Prop:=Paired RelV
theorem Vals.length {xs:List V}{us:List Value} (r:Vals xs us):xs.length=us.length:=Paired.length r
theorem Vals.get : ∀ {xs:List V}{us:List Value}{i:Nat}{x:V},Vals xs us→xs[i]?=some x → ∃ u,us[i]?=some u∧RelV x u
 | _,_,_,_,.nil,e=>by simp at e
 | _,_,0,_,.cons r _,e=>by simp at e;subst e;exact ⟨_,rfl,r⟩
 | _,_,i+1,x,.cons _ t,e=>by
  obtain ⟨u,h1,h2⟩:=Vals.get (i:=i) (x:=x) t (by simpa using e)
  exact ⟨u,by simpa using h1,h2⟩
theorem Vals.set {x:V}{u:Value} (r:RelV x u) : ∀ {xs:List V}{us:List Value} (i:Nat),Vals xs us→Vals (xs.set i x) (us.set i u)
 | _,_,_,.nil => .nil
 | _,_,0,.cons _ t => .cons r t
 | _,_,i+1,.cons q t => .cons q (Vals.set r i t)
theorem Vals.append : ∀ {xs ys:List V}{us ws:List Value},Vals xs us→Vals ys ws→Vals (xs++ys) (us++ws)
 | _,_,_,_,.nil,s=>s
 | _,_,_,_,.cons r t,s => .cons r (Vals.append t s)
theorem Vals.take : ∀ {xs:List V}{us:List Value} (n:Nat),Vals xs us→Vals (xs.take n) (us.take n)
 | _,_,0,_ => .nil
 | _,_,_+1,.nil => .nil
 | _,_,n+1,.cons r t => .cons r (Vals.take n t)
theorem Vals.drop : ∀ {xs:List V}{us:List Value} (n:Nat),Vals xs us→Vals (xs.drop n) (us.drop n)
 | _,_,0,r=>r
 | _,_,_+1,.nil => .nil
 | _,_,n+1,.cons _ t=>Vals.drop n t
def RelO:Option V→Option Value→Prop
 | some v,some u=>RelV v u
 | none,none=>True
 | _,_=>False
def KV {κ:Type}:List (κ×V)→List (κ×Value)→Prop:=Paired fun (p:κ×V) (q:κ×Value)=>p.1=q.1∧RelV p.2 q.2
def kV:Key→V
 | .inl i => .int i
 | .inr x => .str x
inductive HO where
 | lst (xs:List V)
 | tup (xs:List V)
 | dK (kvs:List (Key×V))|dT (kvs:List (List Key×V))
 | set (S:Int→Bool) (n:Nat)
 | ins (C dx:Addr) (fs:List (Str×V))
 | own (x:Addr)
 | xd (fs:List (Str×V))
 | met (f x:Addr)
 | rng (lo hi:Int)
 | frz (o:Obj) (u:HO)
 | tbl (ps:Array Value)
 | ext (φ:Heap→Prop)
abbrev Hp:=Addr→Option HO
def upd (H:Hp) (a:Addr) (o:HO):Hp:=fun b=>if b=a then some o else H b
theorem qr {H:Hp}{a:Addr}{o:HO}:upd H a o a=some o:=by unfold upd;rw [if_pos rfl]
theorem qj {H:Hp}{a b:Addr}{o:HO} (h:b≠a):upd H a o b=H b:=by unfold upd;rw [if_neg h]
theorem zaiq {H:Hp}{a:Addr}{o u:HO}:upd (upd H a o) a u=upd H a u:=by
 funext b;unfold upd;split <;> rfl
theorem zaqf {H:Hp}{a b:Addr}{o u:HO} (h:H a=some o) (h':H b=some u) (d:o≠u):a≠b:=by
 intro e;subst e;rw [h] at h';exact d (Option.some.inj h')
theorem qq {H:Hp}{a b:Addr}{o:HO} (h:H a=some o) (h':H b=none):a≠b:=by
 intro e;subst e;rw [h] at h';cases h'
section
variable (P:Program) (w:World)
def ObjOk (H:Hp) (h:Heap) (a:Addr):HO→Prop
 | .lst xs=>xs.length≤sizeLine ∧ ∃ (its:List Value) (n:Nat),Vals xs its∧h.get? a=some { cls :=.type "list",data :=.seq its.toArray n }
 | .tup xs=>xs.length≤sizeLine ∧ ∃ its:List Value,Vals xs its∧IsTup h a its.toArray
 | .dK kvs=>kvs.length≤sizeLine∧(a==sysModules)=false ∧ ∃ vs,KV kvs vs∧h.DictOf (qcj P w) a vs
 | .dT kvs=>kvs.length≤sizeLine∧(a==sysModules)=false ∧ ∃ xs:List (List Key×Addr×Value),
  Paired (fun (p:List Key×V) (q:List Key×Addr×Value)=>p.1=q.1∧H q.2.1=some (.tup (p.1.map kV))∧RelV p.2 q.2.2) kvs xs ∧
  ∃ o es ep,h.get? a=some o∧o.ExactDict∧o.data = .dict es ep∧es.toList=xs.map (entryOfKey (tupleKind (qcj P w)))∧(xs.map (·.1)).Nodup
 | .set S n=>h.SetOf (intKind P w) a S n
 | .ins C dx fs=>H dx=some (.own a)∧fs.length≤1000∧dx≠a∧h.get? a=some (PySem.W.instObj C dx) ∧
  ∃ mA,h.Ns1 dx mA∧(∀ f,RelO (fs.lookup f) (mA f))∧PySem.Within mA (fs.map (·.1))
 | .own _ => ∃ o,h.get? a=some o
 | .xd fs => ∃ mA,h.Ns1 a mA ∧ ∀ f,RelO (fs.lookup f) (mA f)
 | .rng lo hi => ∃ t u v,h.get? a=some { cls :=.type "range",data :=.fields #[.int lo t,.int hi u,.int 1 v] }
 | .frz o u=>h.get? a=some o∧ObjOk H h a u
 | .tbl ps=>h.get? a=some { cls :=.none,data :=.fields ps }
 | .met f x=>h.get? a=some (PySem.W.methodObj (.ref f) (.ref x))
 | .ext φ=>φ h∧(∃ o,h.get? a=some o) ∧ ∀ h1 h2:Heap,φ h1→(∀ o,h1.get? a=some o→h2.get? a=some o)→φ h2
def HOk (H:Hp) (h:Heap):Prop := ∀ a o,H a=some o→ObjOk P w H h a o
end
section
variable {P:Program}{w:World}{H H':Hp}{h h':Heap}{a:Addr}{o:HO}
theorem ObjOk.lt (x:ObjOk P w H h a o):a<h.objs.size:=by
 cases o with
 | lst xs=>obtain ⟨_,_,_,_,e⟩:=x;exact Heap.lt_size e
 | tup xs=>obtain ⟨_,_,_,p⟩:=x;exact p.lt
 | dK kvs=>obtain ⟨_,_,_,_,o,_,_,e,_⟩:=x;exact Heap.lt_size e
 | dT kvs=>obtain ⟨_,_,_,_,o,_,_,e,_⟩:=x;exact Heap.lt_size e
 | set S n=>obtain ⟨o,_,_,_,e,_⟩:=x;exact Heap.lt_size e
 | ins C dx fs=>obtain ⟨_,_,_,e,_⟩:=x;exact Heap.lt_size e
 | own y=>obtain ⟨_,e⟩:=x;exact Heap.lt_size e
 | xd fs=>obtain ⟨_,⟨_,_,_,e,_⟩,_⟩:=x;exact Heap.lt_size e
 | rng lo hi=>obtain ⟨_,_,_,e⟩:=x;exact Heap.lt_size e
 | frz ob u=>obtain ⟨e,_⟩:=x;exact Heap.lt_size e
 | tbl ps=>exact Heap.lt_size (show h.get? a=some _ from x)
 | met f y=>exact Heap.lt_size (show h.get? a=some _ from x)
 | ext φ=>obtain ⟨_,⟨_,e⟩,_⟩:=x;exact Heap.lt_size e
theorem Paired.mapP {α β:Type}{F G:α→β→Prop} : ∀ {l₁:List α}{l₂:List β},Paired F l₁ l₂→(∀ a b,F a b→G a b)→Paired G l₁ l₂
 | _,_,.nil,_ => .nil
 | _,_,.cons r t,f => .cons (f _ _ r) (Paired.mapP t f)
theorem ObjOk.stay (x:ObjOk P w H h a o) (k : ∀ b u,(b=a∨H b=some (.own a))→h.get? b=some u→h'.get? b=some u)
 (ho : ∀ b,H b=some (.own a)→H' b=some (.own a)) (ht : ∀ b xs,H b=some (.tup xs)→H' b=some (.tup xs)):ObjOk P w H' h' a o:=by
  induction o with
  | lst xs=>obtain ⟨z,its,n,r,e⟩:=x;exact ⟨z,its,n,r,k _ _ (.inl rfl) e⟩
  | tup xs=>obtain ⟨z,its,r,ob,e,c⟩:=x;exact ⟨z,its,r,ob,k _ _ (.inl rfl) e,c⟩
  | dK kvs=>obtain ⟨z,y,vs,r,ob,es,ep,e,c⟩:=x;exact ⟨z,y,vs,r,ob,es,ep,k _ _ (.inl rfl) e,c⟩
  | dT kvs =>
   obtain ⟨z,y,xs,r,ob,es,ep,e,c⟩:=x
   exact ⟨z,y,xs,Paired.mapP r fun p q z=>⟨z.1,ht _ _ z.2.1,z.2.2⟩,ob,es,ep,k _ _ (.inl rfl) e,c⟩
  | set S n=>obtain ⟨ob,es,ep,t,e,c⟩:=x;exact ⟨ob,es,ep,t,k _ _ (.inl rfl) e,c⟩
  | ins C dx fs =>
   obtain ⟨d,z,ne,e,mA,⟨od,es,ep,e2,c⟩,r⟩:=x
   exact ⟨ho _ d,z,ne,k _ _ (.inl rfl) e,mA,⟨od,es,ep,k _ _ (.inr d) e2,c⟩,r⟩
  | own y=>obtain ⟨ob,e⟩:=x;exact ⟨ob,k _ _ (.inl rfl) e⟩
  | xd fs=>obtain ⟨mA,⟨od,es,ep,e,c⟩,r⟩:=x;exact ⟨mA,⟨od,es,ep,k _ _ (.inl rfl) e,c⟩,r⟩
  | rng lo hi=>obtain ⟨t,u,v,e⟩:=x;exact ⟨t,u,v,k _ _ (.inl rfl) e⟩
  | frz ob u ih=>obtain ⟨e,q⟩:=x;exact ⟨k _ _ (.inl rfl) e,ih q⟩
  | tbl ps =>
   have e:h.get? a=some { cls :=.none,data :=.fields ps }:=x
   show h'.get? a=some { cls :=.none,data :=.fields ps }
   exact k a _ (.inl rfl) e
  | met f y =>
   have e:h.get? a=some (PySem.W.methodObj (.ref f) (.ref y)):=x
   show h'.get? a=some (PySem.W.methodObj (.ref f) (.ref y))
   exact k a _ (.inl rfl) e
  | ext φ=>obtain ⟨p,⟨o,e⟩,st⟩:=x;exact ⟨st _ _ p fun o q=>k _ _ (.inl rfl) q,⟨o,k _ _ (.inl rfl) e⟩,st⟩
theorem HOk.lt (x:HOk P w H h) (e:H a=some o):a<h.objs.size:=(x a o e).lt
theorem HOk.fresh (x:HOk P w H h) (e:h.objs.size≤a):H a=none:=by
 cases q:H a with
 | none=>rfl
 | some u=>exact absurd (Nat.lt_of_lt_of_le (x.lt q) e) (Nat.lt_irrefl _)
theorem HOk.kept (x:HOk P w H h) (k : ∀ b u,h.get? b=some u→h'.get? b=some u):HOk P w H h':=fun a o e =>
 (x a o e).stay (fun b u _ q=>k b u q) (fun _ q=>q) fun _ _ q=>q
theorem HOk.laid (x:HOk P w H h) (k : ∀ b u,h.get? b=some u→h'.get? b=some u) (hp:h.objs.size≤a) (new:ObjOk P w (upd H a o) h' a o):HOk P w (upd H a o) h':=fun b u e=>by
 have hn:=x.fresh hp
 by_cases hb:b=a
 ·subst hb;rw [qr] at e;cases e;exact new
 ·rw [qj hb] at e
  exact (x b u e).stay (fun c v _ q=>k c v q) (fun c q=>by rw [qj (qq q hn)];exact q) fun c xs q=>by rw [qj (qq q hn)];exact q
end
def Rd (H:Hp) (a:Addr) (u:HO):Prop:=H a=some u ∨ ∃ o,H a=some (.frz o u)
theorem Rd.ok {P:Program}{w:World}{H:Hp}{h:Heap}{a:Addr}{u:HO} (r:Rd H a u) (x:HOk P w H h):ObjOk P w H h a u:=by
 rcases r with r|⟨o,r⟩
 ·exact x a u r
 ·obtain ⟨_,q⟩:=x a _ r
  exact q
def Mut:Option HO→Prop
 | some (.lst _)=>True
 | some (.dK _)=>True
 | some (.dT _)=>True
 | some (.set _ _)=>True
 | some (.ins _ _ _)=>True
 | some (.ext _)=>True
 | _=>False
section
variable {P:Program}{w:World}{H:Hp}{h h':Heap}{x e:Addr}{o':HO}
theorem HOk.write (ok:HOk P w H h) (mu:Mut (H x)) (he:e=x∨H e=some (.own x)) (k : ∀ b u,b≠e→h.get? b=some u→h'.get? b=some u) (heo : ∃ u,h'.get? e=some u)
 (new:ObjOk P w (upd H x o') h' x o'):HOk P w (upd H x o') h':=fun b u q=>by
  have nown : ∀ c y,H c=some (.own y)→c≠x:=fun c y r z=>by subst z;rw [r] at mu;exact mu
  have ntup : ∀ c xs,H c=some (.tup xs)→c≠x:=fun c xs r z=>by subst z;rw [r] at mu;exact mu
  by_cases hb:b=x
  ·subst hb;rw [qr] at q;cases q;exact new
  ·rw [qj hb] at q
   by_cases hbe:b=e
   ·have q':H b=some (.own x):=by
     rcases he with z|z
     ·exact absurd (hbe.trans z) hb
     ·rw [hbe];exact z
    rw [q] at q';cases q'
    obtain ⟨v,hv⟩:=heo
    exact ⟨v,by rw [hbe];exact hv⟩
   ·refine (ok b u q).stay (fun c v hc r=>k c v ?_ r) (fun c r=>by rw [qj (nown c b r)];exact r) fun c xs r=>by rw [qj (ntup c xs r)];exact r
    rcases hc with rfl|hc
    ·exact hbe
    ·rintro rfl
     rcases he with z|z
     ·exact nown c b hc z
     ·rw [hc] at z;cases z;exact hb rfl
end
def zapi (o:Obj):Prop := ∃ vs q t,o.data = .fields vs∧vs[1]?=some (.str q t)
structure GoodT (H:Hp) (ps:Array Value):Prop where
 tr:TriplesOk ps.toList
 co : ∀ (pos:Pos) (v:Value),codeAmong pos ps.toList=some v → ∃ c o u,v = .ref c∧H c=some (.frz o u)∧zapi o
theorem GoodT.nil {H:Hp}:GoodT H #[]:=⟨trivial,fun pos v h=>by simp [codeAmong] at h⟩
theorem GoodT.mono {H H':Hp}{ps:Array Value} (g:GoodT H ps) (f : ∀ b o u,H b=some (.frz o u)→H' b=some (.frz o u)):GoodT H' ps:=⟨g.tr,fun pos v h=>by
 obtain ⟨c,o,u,z,e,k⟩:=g.co pos v h
 exact ⟨c,o,u,z,f _ _ _ e,k⟩⟩
theorem qlc : ∀ {a b:List Value},TriplesOk a→TriplesOk b→TriplesOk (a++b)
 | [],_,_,h=>h
 | .int _ _ :: .int _ _::_::r,_,g,h=>qlc (a:=r) g h
theorem qqk {pos:Pos}{v:Value} : ∀ {a b:List Value},TriplesOk a→codeAmong pos (a++b)=some v→codeAmong pos a=some v∨codeAmong pos b=some v
 | [],_,_,h => .inr h
 | .int i _ :: .int j _::x::r,b,g,h=>by
  have h:(if i==pos.line&&j==pos.col then some x else codeAmong pos (r++b))=some v:=h
  show (if i==pos.line&&j==pos.col then some x else codeAmong pos r)=some v∨_
  split at h
  ·left;rw [if_pos (by assumption)];exact h
  ·rw [if_neg (by assumption)];exact qqk (a:=r) g h
theorem GoodT.app {H:Hp}{a b:Array Value} (g:GoodT H a) (k:GoodT H b):GoodT H (a++b):=⟨by rw [Array.toList_append];exact qlc g.tr k.tr,fun pos v h=>by
 rw [Array.toList_append] at h
 rcases qqk g.tr h with h|h
 ·exact g.co pos v h
 ·exact k.co pos v h⟩
structure Un (fs ex:List Addr) (H H':Hp) (h h':Heap):Prop where
 keep : ∀ b o,h.get? b=some o→H b=none→b ∉ fs→b ∉ ex→h'.get? b=some o
 slot : ∀ b o,h.get? b=some o→H b=none→b ∈ fs→b ∉ ex → ∃ sl,h'.get? b=some { o with slots:=sl }
 free : ∀ b o,h.get? b=some o→H b=none→b ∉ ex→H' b=none
 there : ∀ b o,h.get? b=some o→b ∉ ex → ∃ o',h'.get? b=some o'
 tups : ∀ b xs,H b=some (.tup xs)→H' b=some (.tup xs)
 frzs : ∀ b o u,H b=some (.frz o u)→H' b=some (.frz o u)
 tbls : ∀ b ps,H b=some (.tbl ps) → ∃ more,H' b=some (.tbl (ps++more))∧GoodT H' more
section
variable {fs fs' ex ex':List Addr}{H H1 H2:Hp}{h h1 h2 h':Heap}{a x e:Addr}{o:HO}
theorem Un.any (u:Un fs ex H H1 h h1) {b:Addr}{ob:Obj} (q:h.get? b=some ob) (n:H b=none) (hx:b ∉ ex) : ∃ sl,h1.get? b=some { ob with slots:=sl }:=by
 by_cases hb:b ∈ fs
 ·exact u.slot b ob q n hb hx
 ·exact ⟨ob.slots,u.keep b ob q n hb hx⟩
theorem Un.kept (k : ∀ b u,h.get? b=some u→h'.get? b=some u):Un fs ex H H h h' :=
 ⟨fun b ob q _ _ _=>k b ob q,fun b ob q _ _ _=>⟨ob.slots,k b ob q⟩,fun _ _ _ n _=>n,fun b ob q _=>⟨ob,k b ob q⟩,fun _ _ q=>q,fun _ _ _ q=>q,fun _ ps q=>⟨#[],by rw [q];simp,.nil⟩⟩
theorem Un.refl:Un fs ex H H h h:=Un.kept fun _ _ q=>q
theorem Un.laid (k : ∀ b u,h.get? b=some u→h'.get? b=some u) (hp:h.objs.size≤a) (hn:H a=none):Un fs ex H (upd H a o) h h' where
 keep:=fun b u q _ _ _=>k b u q
 slot:=fun b u q _ _ _=>⟨u.slots,k b u q⟩
 free:=fun b u q n _=>by rw [qj (Nat.ne_of_lt (Nat.lt_of_lt_of_le (Heap.lt_size q) hp))];exact n
 there:=fun b u q _=>⟨u,k b u q⟩
 tups:=fun b xs q=>by rw [qj (qq q hn)];exact q
 frzs:=fun b u xs q=>by rw [qj (qq q hn)];exact q
 tbls:=fun b ps q=>⟨#[],by rw [qj (qq q hn),q];simp,.nil⟩
theorem Un.write (mu:Mut (H x)) (he:e=x∨H e=some (.own x)) (k : ∀ b u,b≠e→h.get? b=some u→h'.get? b=some u) (heo : ∃ u,h'.get? e=some u):Un fs ex H (upd H x o) h h':=by
 have hx : ∀ b,H b=none→b≠x:=fun b n z=>by subst z;rw [n] at mu;exact mu
 have hb : ∀ b,H b=none→b≠e:=fun b n z=>by
  subst z
  rcases he with r|r
  ·exact hx b n r
  ·rw [n] at r;cases r
 have hm : ∀ b u,H b=some u → ¬ Mut (some u)→b≠x:=fun b u q nm z=>by subst z;rw [q] at mu;exact nm mu
 refine ⟨fun b u q n _ _=>k b u (hb b n) q,fun b u q n _ _=>⟨u.slots,k b u (hb b n) q⟩,fun b u q n _=>by rw [qj (hx b n)];exact n,fun b u q _=>?_,
  fun b xs q=>by rw [qj (hm b _ q fun z=>z)];exact q,fun b u xs q=>by rw [qj (hm b _ q fun z=>z)];exact q,fun b ps q=>⟨#[],by rw [qj (hm b _ q fun z=>z),q];simp,.nil⟩⟩
 by_cases hbe:b=e
 ·subst hbe;exact heo
 ·exact ⟨u,k b u hbe q⟩
end
def trk (h:Heap) (H:Hp):List Addr:=(List.range h.objs.size).filter fun a=>(H a).isSome
def qws (h:Heap) (H:Hp):Heap:=PySem.W.hideAll h (trk h H)
theorem zaad (h:Heap) (H:Hp):(qws h H).objs.size=h.objs.size:=PySem.W.hideAll_size _ _
theorem zafh {h:Heap}{H:Hp}{b:Addr}{o:Obj} (e:h.get? b=some o) (n:H b=none):(qws h H).get? b=some o :=
 PySem.W.hideAll_get _ e fun hm=>by
  have q:(H b).isSome=true:=(List.mem_filter.mp hm).2
  rw [n] at q;simp at q
theorem zakg {h:Heap}{H:Hp}{b:Addr}{o:Obj} (e:(qws h H).get? b=some o):h.get? b=some o∧H b=none:=by
 have e':h.get? b=some o:=PySem.W.of_hideAll (trk h H) e
 refine ⟨e',?_⟩
 cases q:H b with
 | none=>rfl
 | some x =>
  have hm:b ∈ trk h H:=List.mem_filter.mpr ⟨List.mem_range.mpr (Heap.lt_size e'),by simp [q]⟩
  have z:(qws h H).get? b=none:=PySem.W.hideAll_none (trk h H) hm
  rw [z] at e;cases e
def zakb (g h:Heap) (L:Addr):List (Addr×Obj):=(List.range h.objs.size).filterMap fun a=>if a=L∨(g.get? a).isSome=true then none else (h.get? a).map fun o=>(a,o)
def rest (g h:Heap) (L d:Addr):List (Addr×Obj):=(zakb g h L).filter fun p=>decide (p.1≠d)
end L2
namespace L2
open PySem PySem.Spec PyProof.Rows
structure Mod (K:PySem.W.Frag) (mg:Str→Option Value) (base:Heap):Prop where
 kin:K.In base
 glob:base.Ns mainGlobals mg
 blt : ∃ mb,base.Ns builtinsNs mb ∧ ∀ x:Str,x ≠ "__name__" → mb x=bootBuiltins x
 nolimit:base.NoLimit
structure Cx where
 prog:Program
 w:World
 K:PySem.W.Frag
 mg:Str→Option Value
 base:Heap
 A:Around
 N:List Str
 s₀:Shared
 H₀:Hp
 env:Env
 outer:List Env
 stack:List Env
 ex:List Addr
 fn:Str→Bool
 calm:Bool
 pn:List (Addr×Obj)
 xe:Value→Shared→Prop
def frs (l:List Env):List Addr:=l.filterMap (·.frame)
abbrev Cx.fs (X:Cx):List Addr:=frs X.outer
def Vis (sc:Scope) (x:Str):Prop:=sc.names.lookup x=some .local∨sc.names.lookup x=some .cell∨sc.names.lookup x=some .free
def Loc (sc:Scope) (x:Str):Prop:=sc.names.lookup x=some .local∨sc.names.lookup x=some .cell
def Look (env:Env) (h:Heap) (m:Str→Option Value) (x:Str) (u:Value):Prop :=
 (env.kindOf x=some .local∧m x=some u)∨((env.kindOf x=some .cell∨env.kindOf x=some .free) ∧ ∃ c,env.cells.lookup x=some c∧h.IsCell c (some u))
structure Cx.Ok (X:Cx):Prop where
 mod:Mod X.K X.mg X.base
 kind:X.env.scope.kind = .function
 glob:X.env.globals=mainGlobals
 blt:X.env.builtins=builtinsNs
 above:X.s₀.heap.objs.size≤X.env.locals
 inj : ∀ x y c,X.env.cells.lookup x=some c→X.env.cells.lookup y=some c→x=y
 has : ∀ x,(X.env.kindOf x=some .cell∨X.env.kindOf x=some .free) → ∃ c,X.env.cells.lookup x=some c
 cab : ∀ x c,X.fn x=true→X.env.cells.lookup x=some c→X.s₀.heap.objs.size≤c
 hd:X.calm=true→X.A.handled=none
 frames:X.A.frames=some X.stack
 stk:X.stack=X.outer∨(X.stack=X.env::X.outer∧X.env.frame=some X.env.locals)
 exf : ∀ b ∈ X.ex,b≠X.env.locals ∧ ∀ x c,X.env.cells.lookup x=some c→c≠b
 bs : ∀ b o,X.base.get? b=some o→X.s₀.heap.get? b=some o∧X.H₀ b=none
 bsz:X.base.objs.size≤X.s₀.heap.objs.size
 noex : ∀ b o,X.base.get? b=some o→b ∉ X.ex
 exfs : ∀ b ∈ X.ex,b ∉ X.fs
 funs:X.s₀.heap.FunFrames X.base X.outer
 frf : ∀ b ∈ X.fs,X.H₀ b=none
structure Inv (X:Cx) (pins:List (Addr×Obj)) (σ:List (Option V)) (H:Hp) (s:Shared):Prop where
 ok:X.Ok
 os:s.os=X.s₀.os
 bare:AllBare s.gens
 base:Un X.fs X.ex X.H₀ H X.s₀.heap s.heap
 loc : ∃ m,s.heap.Ns X.env.locals m ∧ ∀ (i:Nat) (x:Str) (v:V),X.N[i]?=some x→σ[i]?=some (some v)→Vis X.env.scope x → ∃ u,RelV v u∧Look X.env s.heap m x u
 cell : ∀ x c,X.env.cells.lookup x=some c → ∃ v,s.heap.IsCell c v
 free:H X.env.locals=none
 freeC : ∀ x c,X.env.cells.lookup x=some c→H c=none
 pin : ∀ p ∈ X.pn++pins,s.heap.get? p.1=some p.2∧H p.1=none∧p.1≠X.env.locals∧p.1 ∉ X.fs ∧ ∀ v,p.2.data ≠ .cell v
 hok:HOk X.prog X.w H s.heap
 len:σ.length=X.N.length
section
variable {X:Cx}{pins:List (Addr×Obj)}{σ:List (Option V)}{H H':Hp}{s:Shared}{h':Heap}
theorem Cx.Ok.nofr (ok:X.Ok) {b:Addr}{o:Obj} (e:X.base.get? b=some o):b ∉ X.fs:=fun hb=>by
 have:=(ok.funs.mem hb).1
 rw [e] at this;cases this
theorem Inv.bs (I:Inv X pins σ H s) : ∀ b o,X.base.get? b=some o→s.heap.get? b=some o∧H b=none:=fun b o e =>
 ⟨I.base.keep b o (I.ok.bs b o e).1 (I.ok.bs b o e).2 (I.ok.nofr e) (I.ok.noex b o e),I.base.free b o (I.ok.bs b o e).1 (I.ok.bs b o e).2 (I.ok.noex b o e)⟩
theorem Inv.bk (I:Inv X pins σ H s) : ∀ b o,X.base.get? b=some o→s.heap.get? b=some o:=fun b o e=>(I.bs b o e).1
theorem Inv.mod (I:Inv X pins σ H s):Mod X.K X.mg X.base:=I.ok.mod
theorem Inv.kIn (I:Inv X pins σ H s):X.K.In s.heap:=I.ok.mod.kin.keeps I.bk
theorem Inv.lt (I:Inv X pins σ H s):X.env.locals<s.heap.objs.size:=let ⟨_,hn,_⟩:=I.loc;hn.lt
theorem Inv.sz (I:Inv X pins σ H s):X.s₀.heap.objs.size≤s.heap.objs.size:=Nat.le_trans I.ok.above (Nat.le_of_lt I.lt)
theorem Inv.nofs (I:Inv X pins σ H s) {a:Addr} (h:s.heap.objs.size≤a):a ∉ X.fs:=fun hb=>by
 obtain ⟨_,o,ho,_⟩:=I.ok.funs.mem hb
 exact absurd (Nat.lt_of_lt_of_le (Heap.lt_size ho) (Nat.le_trans I.sz h)) (Nat.lt_irrefl _)
theorem Inv.cne (I:Inv X pins σ H s) : ∀ x c,X.env.cells.lookup x=some c→c≠X.env.locals:=fun x c e z=>by
 obtain ⟨v,o,ho,hd⟩:=I.cell x c e
 obtain ⟨m,⟨o',es,ep,ho',hd',_⟩,_⟩:=I.loc
 rw [z,ho'] at ho;cases ho;rw [hd'] at hd;cases hd
theorem Inv.funs (I:Inv X pins σ H s):s.heap.FunFrames X.base X.outer:=by
 have all : ∀ (l:List Env),(∀ b ∈ frs l,b ∈ X.fs)→X.s₀.heap.FunFrames X.base l→s.heap.FunFrames X.base l:=by
  intro l
  induction l with
  | nil=>intro _ _;trivial
  | cons env r ih =>
   intro hs hl
   obtain ⟨hk,⟨L,o,hf,hn,ho,hd⟩,hr⟩:=hl
   have hL:L ∈ X.fs:=hs L (by unfold frs;rw [List.filterMap_cons,hf];exact List.mem_cons_self)
   obtain ⟨sl,e⟩:=I.base.slot L o ho (I.ok.frf L hL) hL fun z=>I.ok.exfs L z hL
   exact ⟨hk,⟨L,_,hf,hn,e,hd⟩,ih (fun b hb=>hs b (by unfold frs;rw [List.filterMap_cons,hf];exact List.mem_cons_of_mem _ hb)) hr⟩
 exact all X.outer (fun _ hb=>hb) I.ok.funs
theorem Inv.stack (I:Inv X pins σ H s):s.heap.FunFrames X.base X.stack:=by
 rcases I.ok.stk with e|⟨e,hf⟩
 ·rw [e];exact I.funs
 ·rw [e]
  obtain ⟨m,hn,_⟩:=I.loc
  refine .cons (by rw [I.ok.kind];decide) hf hn ?_ I.funs
  exact Heap.get?_none_of_le (Nat.le_trans I.ok.bsz I.ok.above)
theorem Inv.stkSub (I:Inv X pins σ H s) : ∀ b ∈ frs X.stack,b ∈ X.env.locals::X.fs:=fun b hb=>by
 rcases I.ok.stk with e|⟨e,hf⟩
 ·rw [e] at hb;exact List.mem_cons_of_mem _ hb
 ·rw [e] at hb
  unfold frs at hb
  rw [List.filterMap_cons,hf] at hb
  exact hb
theorem Inv.stkFree (I:Inv X pins σ H s) : ∀ b ∈ frs X.stack,H b=none:=fun b hb=>by
 rcases List.mem_cons.mp (I.stkSub b hb) with e|hb
 ·rw [e];exact I.free
 ·obtain ⟨_,o,ho,_⟩:=I.ok.funs.mem hb
  exact I.base.free b o ho (I.ok.frf b hb) fun z=>I.ok.exfs b z hb
theorem Inv.step {g':Array GenState}{t':Nat}{d':Drawn}{ch:List Addr} (I:Inv X pins σ H s)
 (hch : ∀ b ∈ ch,(b ∈ X.ex∨X.s₀.heap.objs.size≤b)∧b≠X.env.locals∧(∀ x c,X.env.cells.lookup x=some c→c≠b) ∧ ∀ p ∈ X.pn++pins,p.1≠b)
 (keep : ∀ b o,b≠X.env.locals→b ∉ X.fs→b ∉ ch→s.heap.get? b=some o→H b=none→h'.get? b=some o)
 (slot : ∀ b o,b≠X.env.locals→b ∈ X.fs→b ∉ ch→s.heap.get? b=some o→H b=none → ∃ sl,h'.get? b=some { o with slots:=sl }) (free : ∀ b o,b ∉ ch→s.heap.get? b=some o→H b=none→H' b=none)
  (there : ∀ b o,b ∉ ch→s.heap.get? b=some o → ∃ o',h'.get? b=some o')
  (tups : ∀ b xs,H b=some (.tup xs)→H' b=some (.tup xs)) (frzs : ∀ b o u,H b=some (.frz o u)→H' b=some (.frz o u)) (tbls : ∀ b ps,H b=some (.tbl ps) → ∃ more,H' b=some (.tbl (ps++more))∧GoodT H' more)
  (ns : ∀ m,s.heap.Ns X.env.locals m→h'.Ns X.env.locals m) (hok:HOk X.prog X.w H' h') (hg:AllBare g') :
  Inv X pins σ H' { s with heap:=h',gens:=g',drawn:=d',toks:=t' }:=by
  have neL : ∀ b o,X.s₀.heap.get? b=some o→b≠X.env.locals:=fun b o e=>Nat.ne_of_lt (Nat.lt_of_lt_of_le (Heap.lt_size e) I.ok.above)
  have neC : ∀ b o,X.s₀.heap.get? b=some o→b ∉ X.ex→b ∉ ch:=fun b o e hx hb=>by
   rcases (hch b hb).1 with z|z
   ·exact hx z
   ·exact absurd (Nat.lt_of_lt_of_le (Heap.lt_size e) z) (Nat.lt_irrefl _)
  have cellK : ∀ x c,X.env.cells.lookup x=some c → ∀ v,s.heap.IsCell c v→h'.IsCell c v:=fun x c e v xx1=>by
   obtain ⟨o,ho,hd⟩:=xx1
   have nch:c ∉ ch:=fun z=>(hch c z).2.2.1 x c e rfl
   by_cases hc:c ∈ X.fs
   ·obtain ⟨sl,q⟩:=slot c o (I.cne x c e) hc nch ho (I.freeC x c e)
    exact ⟨_,q,hd⟩
   ·exact ⟨o,keep c o (I.cne x c e) hc nch ho (I.freeC x c e),hd⟩
  refine ⟨I.ok,I.os,hg,⟨fun b o e n hb hx=>?_,fun b o e n hb hx=>?_,fun b o e n hx=>?_,fun b o e hx=>?_,fun b xs e=>tups b xs (I.base.tups b xs e),fun b o xs e=>frzs b o xs (I.base.frzs b o xs e),fun b ps e=>?_⟩,?_,fun x c e=>?_,?_,fun x c e=>?_,fun p hp=>?_,hok,I.len⟩
  ·exact keep b o (neL b o e) hb (neC b o e hx) (I.base.keep b o e n hb hx) (I.base.free b o e n hx)
  ·obtain ⟨sl,e1⟩:=I.base.slot b o e n hb hx
   obtain ⟨sl',e2⟩:=slot b _ (neL b o e) hb (neC b o e hx) e1 (I.base.free b o e n hx)
   exact ⟨sl',e2⟩
  ·obtain ⟨o',e1⟩:=I.base.there b o e hx
   exact free b o' (neC b o e hx) e1 (I.base.free b o e n hx)
  ·obtain ⟨o',e1⟩:=I.base.there b o e hx
   exact there b o' (neC b o e hx) e1
  ·obtain ⟨m1,e1,g1⟩:=I.base.tbls b ps e
   obtain ⟨m2,e2,g2⟩:=tbls b _ e1
   exact ⟨m1++m2,by rw [e2,Array.append_assoc],(g1.mono frzs).app g2⟩
  ·obtain ⟨m,hn,hl⟩:=I.loc
   refine ⟨m,ns m hn,fun i x v e1 e2 e3=>?_⟩
   obtain ⟨u,r,l⟩:=hl i x v e1 e2 e3
   refine ⟨u,r,?_⟩
   rcases l with l|⟨k,c,e,z⟩
   ·exact .inl l
   ·exact .inr ⟨k,c,e,cellK x c e _ z⟩
  ·obtain ⟨v,z⟩:=I.cell x c e
   exact ⟨v,cellK x c e v z⟩
  ·obtain ⟨m,⟨o,_,_,ho,_⟩,_⟩:=I.loc
   exact free _ o (fun z=>(hch _ z).2.1 rfl) ho I.free
  ·obtain ⟨v,o,ho,hd⟩:=I.cell x c e
   exact free c o (fun z=>(hch c z).2.2.1 x c e rfl) ho (I.freeC x c e)
  ·obtain ⟨e,n,ne,nf,d⟩:=I.pin p hp
   have nch:p.1 ∉ ch:=fun z=>(hch p.1 z).2.2.2 p hp rfl
   exact ⟨keep p.1 p.2 ne nf nch e n,free p.1 p.2 nch e n,ne,nf,d⟩
theorem Inv.un {t':Nat} (I:Inv X pins σ H s) (u:Un X.fs [] H H' s.heap h') (hok:HOk X.prog X.w H' h'):Inv X pins σ H' { s with heap:=h',toks:=t' }:=by
 obtain ⟨m,⟨o,es,ep,ho,r⟩,_⟩:=id I.loc
 obtain ⟨sl,hL⟩:=u.any ho I.free (by simp)
 exact I.step (g':=s.gens) (d':=s.drawn) (ch:=[]) (fun _ z=>nomatch z) (fun b o _ hb _ e n=>u.keep b o e n hb (by simp)) (fun b o _ hb _ e n=>u.slot b o e n hb (by simp)) (fun b o _ e n=>u.free b o e n (by simp)) (fun b o _ e=>u.there b o e (by simp)) u.tups u.frzs u.tbls (fun m' hm=>by
  obtain ⟨o',es',ep',ho',r'⟩:=hm
  rw [ho] at ho';cases ho'
  exact ⟨_,es',ep',hL,r'⟩) hok I.bare
theorem Inv.call {g':Array GenState}{t':Nat}{d':Drawn}{ch:List Addr} (I:Inv X pins σ H s) (u:Un (frs X.stack) ch H H' s.heap h') (hok:HOk X.prog X.w H' h') (hg:AllBare g')
 (hch : ∀ b ∈ ch,(b ∈ X.ex∨X.s₀.heap.objs.size≤b)∧b≠X.env.locals∧(∀ x c,X.env.cells.lookup x=some c→c≠b) ∧ ∀ p ∈ X.pn++pins,p.1≠b) :
 Inv X pins σ H' { s with heap:=h',gens:=g',drawn:=d',toks:=t' }:=by
  obtain ⟨m,⟨o,es,ep,ho,r⟩,_⟩:=id I.loc
  obtain ⟨sl,hL⟩:=u.any ho I.free fun z=>(hch _ z).2.1 rfl
  exact I.step (ch:=ch) hch (fun b o hL hb hc e n=>u.keep b o e n (fun z=>(List.mem_cons.mp (I.stkSub b z)).elim hL hb) hc) (fun b o _ _ hc e n=>u.any e n hc) (fun b o hc e n=>u.free b o e n hc) (fun b o hc e=>u.there b o e hc) u.tups u.frzs u.tbls (fun m' hm=>by
   obtain ⟨o',es',ep',ho',r'⟩:=hm
   rw [ho] at ho';cases ho'
   exact ⟨_,es',ep',hL,r'⟩) hok hg
theorem Inv.turned {t':Nat}{it:Addr} (I:Inv X pins σ H s) (k : ∀ b o,b≠it→s.heap.get? b=some o→h'.get? b=some o) (hn:H it=none) (hL:it≠X.env.locals)
 (h1:it ∈ X.ex∨X.s₀.heap.objs.size≤it) (h2 : ∀ x c,X.env.cells.lookup x=some c→c≠it) (h3 : ∀ p ∈ X.pn++pins,p.1≠it):Inv X pins σ H { s with heap:=h',toks:=t' }:=by
  have nit : ∀ b u,H b=some u→b≠it:=fun b u e z=>by rw [z,hn] at e;cases e
  refine I.step (g':=s.gens) (d':=s.drawn) (ch:=[it]) (fun b hb=>?_) (fun b o _ _ hc e _=>k b o (fun z=>hc (by simp [z])) e) (fun b o _ _ hc e _=>⟨o.slots,k b o (fun z=>hc (by simp [z])) e⟩) (fun _ _ _ _ n=>n)
   (fun b o hc e=>⟨o,k b o (fun z=>hc (by simp [z])) e⟩) (fun _ _ e=>e) (fun _ _ _ e=>e) (fun b ps e=>⟨#[],by rw [e];simp,.nil⟩) (fun m hm=>?_) (fun b u e=>?_) I.bare
  ·have e:b=it:=by simpa using hb
   subst e
   exact ⟨h1,hL,h2,h3⟩
  ·obtain ⟨o,es,ep,ho,r⟩:=hm
   exact ⟨o,es,ep,k _ o (Ne.symm hL) ho,r⟩
  ·refine (I.hok b u e).stay (fun c v hc q=>k c v ?_ q) (fun _ q=>q) fun _ _ q=>q
   rcases hc with z|z
   ·rw [z];exact nit b u e
   ·exact nit c _ z
theorem Inv.tok (I:Inv X pins σ H s) (t:Nat):Inv X pins σ H { s with toks:=t }:=I.un (h':=s.heap) (t':=t) Un.refl I.hok
theorem Inv.kept {t':Nat} (I:Inv X pins σ H s) (k : ∀ b u,s.heap.get? b=some u→h'.get? b=some u):Inv X pins σ H { s with heap:=h',toks:=t' }:=I.un (Un.kept k) (I.hok.kept k)
theorem Inv.laid {a:Addr}{o:HO}{t':Nat} (I:Inv X pins σ H s) (k : ∀ b u,s.heap.get? b=some u→h'.get? b=some u) (hp:s.heap.objs.size≤a) (new:ObjOk X.prog X.w (upd H a o) h' a o) :
 Inv X pins σ (upd H a o) { s with heap:=h',toks:=t' }:=I.un (Un.laid k hp (I.hok.fresh hp)) (I.hok.laid k hp new)
theorem Inv.write {x e:Addr}{o:HO}{t':Nat} (I:Inv X pins σ H s) (mu:Mut (H x)) (he:e=x∨H e=some (.own x)) (k : ∀ b u,b≠e→s.heap.get? b=some u→h'.get? b=some u) (heo : ∃ u,h'.get? e=some u)
 (new:ObjOk X.prog X.w (upd H x o) h' x o):Inv X pins σ (upd H x o) { s with heap:=h',toks:=t' }:=I.un (Un.write mu he k heo) (I.hok.write mu he k heo new)
theorem Inv.pins_of {pins':List (Addr×Obj)} (I:Inv X pins σ H s) (h : ∀ p ∈ pins',s.heap.get? p.1=some p.2∧H p.1=none∧p.1≠X.env.locals∧p.1 ∉ X.fs ∧ ∀ v,p.2.data ≠ .cell v):Inv X pins' σ H s :=
 ⟨I.ok,I.os,I.bare,I.base,I.loc,I.cell,I.free,I.freeC,fun p hp=>(List.mem_append.mp hp).elim (fun z=>I.pin p (List.mem_append_left _ z)) (h p),I.hok,I.len⟩
theorem qvg {N:List Str} (hN:N.Nodup) {i j:Nat}{x:Str} (a:N[i]?=some x) (b:N[j]?=some x):i=j:=by
 obtain ⟨h1,e1⟩:=List.getElem?_eq_some_iff.mp a
 obtain ⟨h2,e2⟩:=List.getElem?_eq_some_iff.mp b
 exact (List.getElem_inj hN).mp (e1.trans e2.symm)
theorem zabd {M:Model}{A:Around}{E:Value→Shared→Prop}{i:Nat}{x:Str}{v:V}{u:Value}{Q:Unit→Shared→Prop} (I:Inv X pins σ H s) (hN:X.N.Nodup) (hi:X.N[i]?=some x) (hx:Loc X.env.scope x) (r:RelV v u)
 (h : ∀ s',Inv X pins (σ.set i (some v)) H s'→(∃ a,Heap.SameBut a s.heap s'.heap∧(a=X.env.locals∨X.env.cells.lookup x=some a))→Q () s') (hf:X.fn x=true∨X.env.scope.names.lookup x=some .local:=by first|exact .inl rfl|exact .inr rfl|assumption):wpAny M A (storeName X.env x u) Q E s:=by
  obtain ⟨m,hn,hl⟩:=id I.loc
  have hcls:(X.env.scope.kind == .class||(X.env.scope.kind == .module&&X.env.locals != X.env.globals))=false:=by rw [I.ok.kind];rfl
  have hiσ:i<σ.length:=by rw [I.len];exact (List.getElem?_eq_some_iff.mp hi).1
  have cne:=I.cne
  have tracked : ∀ {a:Addr}{h':Heap},(∃ o,s.heap.get? a=some o∧H a=none)→Heap.SameBut a s.heap h'→HOk X.prog X.w H h':=fun {a h'} ha hs b ob e=>by
   obtain ⟨_,_,hfree⟩:=ha
   refine (I.hok b ob e).stay (fun c w' hc q=>(hs.2 c ?_).trans q) (fun _ q=>q) fun _ _ q=>q
   rintro rfl
   rcases hc with rfl|hc
   ·rw [hfree] at e;cases e
   ·rw [hfree] at hc;cases hc
  rcases hx with hk|hk
  ·refine wpAny_storeName_local hk hn (fun h' hn' hs=>?_) hcls
   obtain ⟨oL,_,_,hoL,_⟩:=id hn
   refine h _ ⟨I.ok,I.os,I.bare,⟨fun b o e n hb hx=>?_,fun b o e n hb hx=>?_,I.base.free,fun b o e hx=>?_,I.base.tups,I.base.frzs,I.base.tbls⟩,⟨_,hn',fun j y v' e1 e2 e3=>?_⟩,fun y c e=>?_,I.free,I.freeC,fun p hp=>?_,tracked ⟨oL,hoL,I.free⟩ hs,by simpa using I.len⟩ ⟨_,hs,.inl rfl⟩
   ·exact (hs.2 b (Nat.ne_of_lt (Nat.lt_of_lt_of_le (Heap.lt_size e) I.ok.above))).trans (I.base.keep b o e n hb hx)
   ·obtain ⟨sl,e1⟩:=I.base.slot b o e n hb hx
    exact ⟨sl,(hs.2 b (Nat.ne_of_lt (Nat.lt_of_lt_of_le (Heap.lt_size e) I.ok.above))).trans e1⟩
   ·obtain ⟨o',e1⟩:=I.base.there b o e hx
    exact ⟨o',(hs.2 b (Nat.ne_of_lt (Nat.lt_of_lt_of_le (Heap.lt_size e) I.ok.above))).trans e1⟩
   ·by_cases hj:j=i
    ·subst hj
     rw [hi] at e1;cases e1
     rw [List.getElem?_set_self hiσ] at e2
     cases e2
     exact ⟨u,r,.inl ⟨hk,by simp⟩⟩
    ·rw [List.getElem?_set_ne (Ne.symm hj)] at e2
     obtain ⟨u',r',q⟩:=hl j y v' e1 e2 e3
     refine ⟨u',r',?_⟩
     rcases q with ⟨k,e⟩|⟨k,c,e,z⟩
     ·refine .inl ⟨k,?_⟩
      have:y≠x:=fun e=>hj (qvg hN e1 (e ▸ hi))
      simp [this,e]
     ·exact .inr ⟨k,c,e,z.sameBut hs (cne y c e)⟩
   ·obtain ⟨w',z⟩:=I.cell y c e
    exact ⟨w',z.sameBut hs (cne y c e)⟩
   ·obtain ⟨e,n,ne,nf,d⟩:=I.pin p hp
    exact ⟨(hs.2 p.1 ne).trans e,n,ne,nf,d⟩
  ·have hfn:X.fn x=true:=by
    rcases hf with z|z
    ·exact z
    ·rw [z] at hk;cases hk
   obtain ⟨c,hc⟩:=I.ok.has x (.inl hk)
   obtain ⟨w',z⟩:=I.cell x c hc
   refine wpAny_storeName_cell I.ok.kind hk hc z (fun h' hc' hs=>?_)
   obtain ⟨oc,hoc,hocd⟩:=id z
   refine h { s with heap:=h' } ⟨I.ok,I.os,I.bare,⟨fun b o e n hb hx=>?_,fun b o e n hb hx=>?_,I.base.free,fun b o e hx=>?_,I.base.tups,I.base.frzs,I.base.tbls⟩,⟨m,hn.sameBut hs (Ne.symm (cne x c hc)),fun j y v' e1 e2 e3=>?_⟩,fun y c' e=>?_,I.free,I.freeC,fun p hp=>?_,tracked ⟨oc,hoc,I.freeC x c hc⟩ hs,by simpa using I.len⟩ ⟨c,hs,.inr hc⟩
   ·exact (hs.2 b (Nat.ne_of_lt (Nat.lt_of_lt_of_le (Heap.lt_size e) (I.ok.cab x c hfn hc)))).trans (I.base.keep b o e n hb hx)
   ·obtain ⟨sl,e1⟩:=I.base.slot b o e n hb hx
    exact ⟨sl,(hs.2 b (Nat.ne_of_lt (Nat.lt_of_lt_of_le (Heap.lt_size e) (I.ok.cab x c hfn hc)))).trans e1⟩
   ·obtain ⟨o',e1⟩:=I.base.there b o e hx
    exact ⟨o',(hs.2 b (Nat.ne_of_lt (Nat.lt_of_lt_of_le (Heap.lt_size e) (I.ok.cab x c hfn hc)))).trans e1⟩
   ·by_cases hj:j=i
    ·subst hj
     rw [hi] at e1;cases e1
     rw [List.getElem?_set_self hiσ] at e2
     cases e2
     exact ⟨u,r,.inr ⟨.inl hk,c,hc,hc'⟩⟩
    ·rw [List.getElem?_set_ne (Ne.symm hj)] at e2
     obtain ⟨u',r',q⟩:=hl j y v' e1 e2 e3
     refine ⟨u',r',?_⟩
     rcases q with q|⟨k,c',e,z'⟩
     ·exact .inl q
     ·refine .inr ⟨k,c',e,z'.sameBut hs ?_⟩
      rintro rfl
      exact hj (qvg hN e1 (I.ok.inj _ _ _ e hc ▸ hi))
   ·by_cases hcc:c'=c
    ·subst hcc;exact ⟨_,hc'⟩
    ·obtain ⟨w2,z2⟩:=I.cell y c' e
     exact ⟨w2,z2.sameBut hs hcc⟩
   ·obtain ⟨e,n,ne,nf,d⟩:=I.pin p hp
    refine ⟨(hs.2 p.1 ?_).trans e,n,ne,nf,d⟩
    intro q
    rw [q,hoc] at e
    have q':oc=p.2:=Option.some.inj e
    exact d w' (by rw [← q'];exact hocd)
theorem qgz {M:Model}{A:Around}{E:Value→Shared→Prop}{i:Nat}{x:Str}{v:V}{u:Value}{Q:Unit→Shared→Prop} (I:Inv X pins σ H s) (hN:X.N.Nodup) (hi:X.N[i]?=some x) (hx:Loc X.env.scope x) (r:RelV v u)
 (h : ∀ s',Inv X pins (σ.set i (some v)) H s'→Q () s') (hf:X.fn x=true∨X.env.scope.names.lookup x=some .local:=by first|exact .inl rfl|exact .inr rfl|assumption):wpAny M A (storeName X.env x u) Q E s :=
  zabd I hN hi hx r (fun s' I' _=>h s' I') hf
theorem Inv.call' {s':Shared}{ch:List Addr} (I:Inv X pins σ H s) (ho:s'.os=s.os) (u:Un (frs X.stack) ch H H' s.heap s'.heap) (hok:HOk X.prog X.w H' s'.heap) (hg:AllBare s'.gens)
 (hch : ∀ b ∈ ch,(b ∈ X.ex∨X.s₀.heap.objs.size≤b)∧b≠X.env.locals∧(∀ x c,X.env.cells.lookup x=some c→c≠b) ∧ ∀ p ∈ X.pn++pins,p.1≠b):Inv X pins σ H' s':=by
  obtain ⟨h',g',d',t',o'⟩:=s'
  have e:o'=s.os:=ho
  subst e
  exact I.call (g':=g') (t':=t') (d':=d') u hok hg hch
end
abbrev XK:=Value→Option Addr→Hp→Prop
abbrev St:=List (Option V)
abbrev VK:=V→Hp→Prop
abbrev TE:=St→Hp→VK→Prop
abbrev TT:=St→Hp→(Bool→Hp→Prop)→Prop
abbrev TA:=St→Hp→(List V→Hp→Prop)→Prop
structure Ends where
 nx:St→Hp→Prop
 rt:VK
 bk:St→Hp→Prop:=fun _ _=>False
 ct:St→Hp→Prop:=fun _ _=>False
abbrev TS:=Ends→St→Hp→Prop
def EP (X:Cx) (pins:List (Addr×Obj)) (σ:St) (Q:VK) (u:Value) (s':Shared):Prop := ∃ v H',Inv X pins σ H' s'∧RelV v u∧Q v H'
def TP (X:Cx) (pins:List (Addr×Obj)) (σ:St) (Q:Bool→Hp→Prop) (b:Bool) (s':Shared):Prop := ∃ H',Inv X pins σ H' s'∧Q b H'
def AP (X:Cx) (pins:List (Addr×Obj)) (σ:St) (Q:List V→Hp→Prop) (us:List Value) (s':Shared):Prop := ∃ vs H',Inv X pins σ H' s'∧Vals vs us∧Q vs H'
def SP (X:Cx) (pins:List (Addr×Obj)) (D:Ends) (f:Flow) (s':Shared):Prop :=
 match f with
 | .next => ∃ σ' H',Inv X pins σ' H' s'∧D.nx σ' H'
 | .brk => ∃ σ' H',Inv X pins σ' H' s'∧D.bk σ' H'
 | .cont => ∃ σ' H',Inv X pins σ' H' s'∧D.ct σ' H'
 | .ret u => ∃ v σ' H',Inv X pins σ' H' s'∧RelV v u∧D.rt v H'
def PE (X:Cx) (e:Expr) (t:TE):Prop :=
 ∀ (pins:List (Addr×Obj)) (s:Shared) (σ:St) (H:Hp) (Q:VK),Inv X pins σ H s→t σ H Q→wpAny (model X.prog X.w) X.A (eval e X.env) (EP X pins σ Q) X.xe s
def PT (X:Cx) (e:Expr) (t:TT):Prop :=
 ∀ (pins:List (Addr×Obj)) (s:Shared) (σ:St) (H:Hp) (Q:Bool→Hp→Prop),Inv X pins σ H s→t σ H Q→wpAny (model X.prog X.w) X.A (isTrue e X.env (eval e X.env)) (TP X pins σ Q) X.xe s
def PW (X:Cx) (e:Expr) (t:TT):Prop :=
 ∀ (whole:Sem Value) (pins:List (Addr×Obj)) (s:Shared) (σ:St) (H:Hp) (Q:Bool→Hp→Prop),Inv X pins σ H s→t σ H Q→wpAny (model X.prog X.w) X.A (isTrue e X.env whole) (TP X pins σ Q) X.xe s
theorem PW.pt {X:Cx}{e:Expr}{t:TT} (h:PW X e t):PT X e t:=h _
def PA (X:Cx) (es:List Expr) (t:TA):Prop :=
 ∀ (pos:Pos) (pins:List (Addr×Obj)) (s:Shared) (σ:St) (H:Hp) (Q:List V→Hp→Prop),Inv X pins σ H s→t σ H Q→wpAny (model X.prog X.w) X.A (spliced (backTo pos (starEach es X.env))) (AP X pins σ Q) X.xe s
def PS (X:Cx) (st:Stmt) (t:TS):Prop :=
 ∀ (pins:List (Addr×Obj)) (s:Shared) (σ:St) (H:Hp) (D:Ends),Inv X pins σ H s→t D σ H→wpAny (model X.prog X.w) X.A (exec st X.env) (SP X pins D) X.xe s
def PSs (X:Cx) (st:List Stmt) (t:TS):Prop :=
 ∀ (pins:List (Addr×Obj)) (s:Shared) (σ:St) (H:Hp) (D:Ends),Inv X pins σ H s→t D σ H→wpAny (model X.prog X.w) X.A (execs st X.env) (SP X pins D) X.xe s
theorem thn {α:Type}{t:Sem α}{Q Q':α→Shared→Prop}{M:Model}{A:Around}{E:Value→Shared→Prop}{s:Shared} (h:wpAny M A t Q E s) (hQ : ∀ a s,Q a s→Q' a s):wpAny M A t Q' E s:=wpAny_mono h hQ fun _ _ x=>x
end L2
namespace L2
open PySem PySem.Spec PyProof.Rows
section
variable {X:Cx}
def tVar (i:Nat):TE:=fun σ H Q => ∃ v,σ[i]?=some (some v)∧Q v H
def tC (v:V):TE:=fun _ H Q=>Q v H
theorem qbb {i:Nat}{x:Str}{pos:Pos} (hN:X.N[i]?=some x) (hv:Vis X.env.scope x) (hd:(x==("__debug__" : Str))=false:=by decide) (hcd:(x==("__classdict__" : Str))=false:=by decide):PE X (.Name x pos) (tVar i):=by
 intro pins s σ H Q I h
 obtain ⟨v,e,h⟩:=h
 obtain ⟨m,hn,hl⟩:=I.loc
 obtain ⟨u,r,l⟩:=hl i x v hN e hv
 have fin:EP X pins σ Q u s:=⟨v,H,I,r,h⟩
 rcases l with ⟨hk,hm⟩|⟨hk,c,hc,hcell⟩
 ·exact wpAny_Name (wpAny_loadName_local I.ok.kind hk hn hm fin) hd
 ·rcases hk with hk|hk
  ·exact wpAny_Name (wpAny_loadName_cell I.ok.kind hk hc hcell fin) hd
  ·exact wpAny_Name (wpAny_loadName_free I.ok.kind hk hc hcell fin hcd) hd
theorem zagq {i j pos}:PE X (.Constant (.int i) j pos) (tC (.int i)):=fun _ _ _ H _ I h=>wpAny_Constant_int ⟨.int i,H,I.tok _,⟨_,rfl⟩,h⟩
theorem zapg {b j pos}:PE X (.Constant (.bool b) j pos) (tC (.bl b)):=fun _ _ _ H _ I h=>Constant_bool ⟨.bl b,H,I,rfl,h⟩
def Gl (X:Cx) (x:Str):Prop:=X.env.kindOf x=some .globalImplicit
theorem qzl {E:Value→Shared→Prop}{pins:List (Addr×Obj)}{s:Shared}{σ:St}{H:Hp}{x:Str}{u:Value}{pos:Pos}{Q:Value→Shared→Prop} (I:Inv X pins σ H s) (hg:Gl X x) (hm:X.mg x=some u) (h:Q u s)
 (hd:(x==("__debug__" : Str))=false:=by decide):wpAny (model X.prog X.w) X.A (eval (.Name x pos) X.env) Q E s :=
  Calls.Name_function_global I.ok.kind hg (Calls.loadGlobal_global (by rw [I.ok.glob];exact I.mod.glob.keeps I.bk) hm h) hd
theorem qho {E:Value→Shared→Prop}{pins:List (Addr×Obj)}{s:Shared}{σ:St}{H:Hp}{x:Str}{u:Value}{pos:Pos}{Q:Value→Shared→Prop} (I:Inv X pins σ H s) (hg:Gl X x) (hm:X.mg x=none) (hv:bootBuiltins x=some u) (h:Q u s)
 (hn:x ≠ "__name__":=by decide) (hd:(x==("__debug__" : Str))=false:=by decide):wpAny (model X.prog X.w) X.A (eval (.Name x pos) X.env) Q E s:=by
  obtain ⟨mb,h1,h2⟩:=I.mod.blt
  exact Calls.Name_function_global I.ok.kind hg (Calls.loadGlobal_builtin (by rw [I.ok.glob];exact I.mod.glob.keeps I.bk) hm (by rw [I.ok.blt];exact h1.keeps I.bk) ((h2 x hn).trans hv) h) hd
theorem zajg {x:Str}{v:V}{u:Value}{pos:Pos} (hg:Gl X x) (hm:X.mg x=some u) (r:RelV v u) (hd:(x==("__debug__" : Str))=false:=by decide):PE X (.Name x pos) (tC v) :=
 fun _ _ _ H _ I h=>qzl I hg hm ⟨v,H,I,r,h⟩ hd
theorem qrw {x:Str}{v:V}{u:Value}{pos:Pos} (hg:Gl X x) (hm:X.mg x=none) (hv:bootBuiltins x=some u) (r:RelV v u) (hn:x ≠ "__name__":=by decide) (hd:(x==("__debug__" : Str))=false:=by decide):PE X (.Name x pos) (tC v) :=
 fun _ _ _ H _ I h=>qho I hg hm hv ⟨v,H,I,r,h⟩ hn hd
variable {a b:Expr}{ta tb:TE}{pos:Pos}
def tB (t:TE):TT:=fun σ H Q=>t σ H fun x H1 => ∃ c,x = .bl c∧Q c H1
theorem zanw {e:Expr}{t:TE} (h:PE X e t) (he : ∀ whole,isTrue e X.env whole=(do let v ← whole;standAt e.pos;holding [v] (truthy v)):=by intro _;rfl):PT X e (tB t):=by
 intro pins s σ H Q I hw
 refine isTrue_plain (thn (h pins s σ H _ I hw) fun v s1 xx2=>?_) (he _)
 obtain ⟨x,H1,I1,r1,q1⟩:=xx2
 obtain ⟨d,rfl,q⟩:=q1
 cases r1
 exact wpAny_truthy_bool ⟨H1,I1,q⟩
variable {tA tB':TT}{rest:List Expr}
def tOr (t u:TT):TT:=fun σ H Q=>t σ H fun c H1=>if c=true then Q true H1 else u σ H1 Q
def tNot (t:TT):TT:=fun σ H Q=>t σ H fun c H1=>Q (!c) H1
theorem zaou (ha:PT X a tA):PW X (.BoolOp .Or [a] pos) tA:=by
 intro wh pins s σ H Q I h
 refine isTrue_or (thn (ha pins s σ H Q I h) fun c s1 e=>?_)
 cases c with
 | false=>exact isTrue_or_nil e
 | true=>exact e
theorem zarg (ha:PT X a tA) (hb:PW X (.BoolOp .Or (b::rest) pos) tB'):PW X (.BoolOp .Or (a::b::rest) pos) (tOr tA tB'):=by
 intro wh pins s σ H Q I h
 refine isTrue_or (thn (ha pins s σ H _ I h) fun c s1 xx3=>?_)
 obtain ⟨H1,I1,q1⟩:=xx3
 cases c with
 | true=>exact ⟨H1,I1,q1⟩
 | false=>exact hb wh pins s1 σ H1 Q I1 q1
theorem zaoy (ha:PT X a tA):PT X (.UnaryOp .Not a pos) (tNot tA):=by
 intro pins s σ H Q I h
 exact isTrue_not (ha pins s σ H (fun c H1=>Q (!c) H1) I h)
def zaqi (ta tb:TE):TE:=fun σ H Q=>ta σ H fun x H1 => ∃ c,x = .bl c∧if c=true then tb σ H1 Q else Q (.bl false) H1
def zaqd (ta:TE):TE:=fun σ H Q=>ta σ H fun x H1 => ∃ c,x = .bl c∧Q (.bl (!c)) H1
theorem zaor {op}{t:TE} (h:PE X a t):PE X (.BoolOp op [a] pos) t:=fun pins s σ H Q I hw=>BoolOp_one (h pins s σ H Q I hw)
theorem zani (ha:PE X a ta) (hb:PE X (.BoolOp .And (b::rest) pos) tb):PE X (.BoolOp .And (a::b::rest) pos) (zaqi ta tb):=by
 intro pins s σ H Q I h
 refine BoolOp_and (thn (ha pins s σ H _ I h) fun v s1 xx4=>?_)
 obtain ⟨x,H1,I1,r1,q1⟩:=xx4
 obtain ⟨c,rfl,q1⟩:=q1
 cases r1
 refine wpAny_truthy_bool ?_
 cases c with
 | true=>exact hb pins s1 σ H1 Q I1 q1
 | false=>exact ⟨.bl false,H1,I1,rfl,q1⟩
theorem zaoh (ha:PE X a ta):PE X (.UnaryOp .Not a pos) (zaqd ta):=by
 intro pins s σ H Q I h
 refine UnaryOp_ (thn (ha pins s σ H _ I h) fun v s1 xx5=>?_)
 obtain ⟨x,H1,I1,r1,q1⟩:=xx5
 obtain ⟨c,rfl,q1⟩:=q1
 cases r1
 exact not_of (wpAny_truthy_bool ⟨.bl (!c),H1,I1,rfl,q1⟩)
def tIf (t:TT) (ta tb:TE):TE:=fun σ H Q=>t σ H fun c H1=>if c=true then ta σ H1 Q else tb σ H1 Q
theorem zage {c:Expr} (hc:PT X c tA) (ha:PE X a ta) (hb:PE X b tb):PE X (.IfExp c a b pos) (tIf tA ta tb):=by
 intro pins s σ H Q I h
 refine wpAny_IfExp (thn (hc pins s σ H _ I h) fun d s1 xx6=>?_)
 obtain ⟨H1,I1,q1⟩:=xx6
 cases d with
 | true=>exact ha pins s1 σ H1 Q I1 q1
 | false=>exact hb pins s1 σ H1 Q I1 q1
end
end L2
namespace L2
open PySem PySem.Spec PyProof.Rows
def SqL (K:PySem.W.Frag) (H:Hp) (a:Addr) (xs:List V):Prop :=
 Rd H a (.lst xs) ∨
  ∃ (o:Obj) (its:Array Value) (n:Nat),K.lookup a=some o∧o.cls = .type "list" ∧ o.dict=none∧o.data = .seq its n∧its.size≤sizeLine∧Vals xs its.toList
def SqT (K:PySem.W.Frag) (H:Hp) (a:Addr) (xs:List V):Prop :=
 Rd H a (.tup xs) ∨
  ∃ (o:Obj) (its:Array Value) (n:Nat),K.lookup a=some o∧o.cls = .type "tuple" ∧ o.data = .seq its n∧its.size≤sizeLine∧Vals xs its.toList
def absV:Value→Option V
 | .none=>some .non
 | .bool b=>some (.bl b)
 | .int i _=>some (.int i)
 | .str x _=>some (.str x)
 | .bytes b _=>some (.byt b)
 | .float b _=>some (.flt b)
 | .ref a=>some (.ref a)
 | .type n=>some (.ty n)
 | _=>none
theorem RelV.abs {x:V}{u:Value} (r:RelV x u):absV u=some x:=by
 cases x with
 | non=>cases r;rfl
 | bl _=>cases r;rfl
 | int _=>obtain ⟨t,rfl⟩:=r;rfl
 | str _=>obtain ⟨t,rfl⟩:=r;rfl
 | byt _=>obtain ⟨t,rfl⟩:=r;rfl
 | flt _=>obtain ⟨t,rfl⟩:=r;rfl
 | ref _=>cases r;rfl
 | ty _=>cases r;rfl
theorem RelV.inj {x y:V}{u:Value} (r:RelV x u) (q:RelV y u):x=y:=Option.some.inj (r.abs.symm.trans q.abs)
theorem Vals.inj : ∀ {xs ys:List V}{us:List Value},Vals xs us→Vals ys us→xs=ys
 | _,_,_,.nil,.nil=>rfl
 | _,_,_,.cons r t,.cons r' t'=>by rw [r.inj r',Vals.inj t t']
section
variable {X:Cx}{pins:List (Addr×Obj)}{σ:St}{H:Hp}{s:Shared}{a:Addr}{xs ys:List V}
theorem SqL.of {K:PySem.W.Frag} (h:H a=some (.lst xs)):SqL K H a xs :=.inl (.inl h)
theorem SqT.of {K:PySem.W.Frag} (h:H a=some (.tup xs)):SqT K H a xs :=.inl (.inl h)
theorem Inv.list (I:Inv X pins σ H s) (h:SqL X.K H a xs) : ∃ its:List Value,Vals xs its∧PlainL s.heap a its.toArray∧xs.length≤sizeLine:=by
 rcases h with h|⟨o,its,n,hk,hc,hd,hs,hz,r⟩
 ·obtain ⟨z,its,n,r,e⟩:=h.ok I.hok
  exact ⟨its,r,⟨_,n,e,rfl,rfl,rfl⟩,z⟩
 ·refine ⟨its.toList,r,⟨o,n,I.kIn a o hk,hc,hd,by simpa using hs⟩,?_⟩
  have e:=r.length
  simp only [Array.length_toList] at e
  omega
theorem Inv.tuple (I:Inv X pins σ H s) (h:SqT X.K H a xs) : ∃ its:List Value,Vals xs its∧IsTup s.heap a its.toArray∧xs.length≤sizeLine:=by
 rcases h with h|⟨o,its,n,hk,hc,hs,hz,r⟩
 ·obtain ⟨z,its,r,p⟩:=h.ok I.hok
  exact ⟨its,r,p,z⟩
 ·refine ⟨its.toList,r,⟨o,I.kIn a o hk,hc,n,by simpa using hs⟩,?_⟩
  have e:=r.length
  simp only [Array.length_toList] at e
  omega
theorem Inv.list_inj (I:Inv X pins σ H s) (h:SqL X.K H a xs) (h':SqL X.K H a ys):xs=ys:=by
 obtain ⟨its,r,⟨o,n,e,_,_,d⟩,_⟩:=I.list h
 obtain ⟨its',r',⟨o',n',e',_,_,d'⟩,_⟩:=I.list h'
 rw [e] at e';cases e'
 rw [d] at d'
 injection d' with d1 _
 have:its=its':=by simpa using congrArg Array.toList d1
 subst this
 exact r.inj r'
theorem Inv.tuple_inj (I:Inv X pins σ H s) (h:SqT X.K H a xs) (h':SqT X.K H a ys):xs=ys:=by
 obtain ⟨its,r,⟨o,e,_,n,d⟩,_⟩:=I.tuple h
 obtain ⟨its',r',⟨o',e',_,n',d'⟩,_⟩:=I.tuple h'
 rw [e] at e';cases e'
 rw [d] at d'
 injection d' with d1 _
 have:its=its':=by simpa using congrArg Array.toList d1
 subst this
 exact r.inj r'
end
abbrev Cx.wish (X:Cx) (E:Value→Shared→Prop):Cx:={ X with xe:=E }
abbrev Cx.nox (X:Cx):Cx:=X.wish fun _ _=>False
theorem Cx.Ok.wish {X:Cx} (ok:X.Ok) (E:Value→Shared→Prop):(X.wish E).Ok :=
 ⟨ok.mod,ok.kind,ok.glob,ok.blt,ok.above,ok.inj,ok.has,ok.cab,ok.hd,ok.frames,ok.stk,ok.exf,ok.bs,ok.bsz,ok.noex,ok.exfs,ok.funs,ok.frf⟩
theorem Cx.Ok.unwish {X:Cx}{E:Value→Shared→Prop} (ok:(X.wish E).Ok):X.Ok :=
 ⟨ok.mod,ok.kind,ok.glob,ok.blt,ok.above,ok.inj,ok.has,ok.cab,ok.hd,ok.frames,ok.stk,ok.exf,ok.bs,ok.bsz,ok.noex,ok.exfs,ok.funs,ok.frf⟩
section
variable {X:Cx}{pins:List (Addr×Obj)}{σ:St}{H:Hp}{s:Shared}{E:Value→Shared→Prop}
theorem Inv.wish (I:Inv X pins σ H s) (E:Value→Shared→Prop):Inv (X.wish E) pins σ H s:=⟨I.ok.wish E,I.os,I.bare,I.base,I.loc,I.cell,I.free,I.freeC,I.pin,I.hok,I.len⟩
theorem Inv.unwish (I:Inv (X.wish E) pins σ H s):Inv X pins σ H s:=⟨I.ok.unwish,I.os,I.bare,I.base,I.loc,I.cell,I.free,I.freeC,I.pin,I.hok,I.len⟩
theorem SP.unwish {D:Ends}{f:Flow}{s':Shared} (h:SP (X.wish E) pins D f s'):SP X pins D f s':=by
 cases f with
 | next=>obtain ⟨σ',H',I,q⟩:=h;exact ⟨σ',H',I.unwish,q⟩
 | brk=>obtain ⟨σ',H',I,q⟩:=h;exact ⟨σ',H',I.unwish,q⟩
 | cont=>obtain ⟨σ',H',I,q⟩:=h;exact ⟨σ',H',I.unwish,q⟩
 | ret u=>obtain ⟨v,σ',H',I,r,q⟩:=h;exact ⟨v,σ',H',I.unwish,r,q⟩
theorem PSs.nox {st:List Stmt}{t:TS} (h:PSs X.nox st t):PSs X st t:=fun pins s σ H D I hw =>
 wpAny_mono (h pins s σ H D (I.wish _) hw) (fun _ _ q=>q.unwish) fun _ _ z=>False.elim z
end
section
variable {X:Cx}{st:Stmt}{rest:List Stmt}{t u:TS}{e:Expr}{te:TE}{pos:Pos}
def zapp:TS:=fun D σ H=>D.nx σ H
def tSeq (t u:TS):TS:=fun D σ H=>t { D with nx:=u D } σ H
theorem qyn:PSs X [] zapp:=fun _ _ σ H _ I h=>wpAny_execs_nil ⟨σ,H,I,h⟩
theorem qej (h1:PS X st t) (h2:PSs X rest u):PSs X (st::rest) (tSeq t u):=by
 intro pins s σ H D I h
 refine wpAny_execs_cons (thn (h1 pins s σ H { D with nx:=u D } I h) fun f s1 q=>?_)
 cases f with
 | next =>
  obtain ⟨σ',H',I',q⟩:=q
  exact h2 pins s1 σ' H' D I' q
 | ret v=>exact q
 | brk=>exact q
 | cont=>exact q
theorem qkg (h1:PS X st t):PSs X [st] t:=by
 intro pins s σ H D I h
 refine wpAny_execs_cons (thn (h1 pins s σ H D I h) fun f s1 q=>?_)
 cases f with
 | next=>exact wpAny_execs_nil q
 | ret v=>exact q
 | brk=>exact q
 | cont=>exact q
theorem Inv.quiet {pins:List (Addr×Obj)}{σ:St}{H:Hp}{s:Shared} (I:Inv X pins σ H s):interactive X.env=false:=by simp [interactive,I.ok.kind]
def zalo (te:TE):TS:=fun D σ H=>te σ H fun _ H1=>D.nx σ H1
theorem qjy (he:PE X e te) (hs:swapsWith e none pos.line X.env=pure false:=by rfl):PS X (.Expr e pos) (zalo te):=by
 intro pins s σ H D I h
 exact wpAny_Expr_any (thn (he pins s σ H _ I h) fun v s1 xx9=>by obtain ⟨x,H1,I1,r1,q1⟩:=xx9;exact ⟨σ,H1,I1,q1⟩) I.quiet hs
def tRet (te:TE):TS:=fun D σ H=>te σ H D.rt
theorem qmn (he:PE X e te):PS X (.Return (some e) pos) (tRet te):=by
 intro pins s σ H D I h
 exact wpAny_Return_some (thn (he pins s σ H _ I h) fun v s1 xx10=>by obtain ⟨x,H1,I1,r1,q1⟩:=xx10;exact ⟨x,σ,H1,I1,r1,q1⟩)
def tIfS (c:TT) (t u:TS):TS:=fun D σ H=>c σ H fun b H1=>if b=true then t D σ H1 else u D σ H1
theorem zalq {c:Expr}{a b:List Stmt}{tc:TT} (hc:PT X c tc) (ha:PSs X a t) (hb:PSs X b u):PS X (.If c a b pos) (tIfS tc t u):=by
 intro pins s σ H D I h
 refine wpAny_If (thn (hc pins s σ H _ I h) fun d s1 xx11=>?_)
 obtain ⟨H1,I1,q1⟩:=xx11
 cases d with
 | true=>exact ha pins s1 σ H1 D I1 q1
 | false=>exact hb pins s1 σ H1 D I1 q1
def zaol:TS:=fun _ _ _=>False
theorem zach {sts:List Stmt}:PSs X sts zaol:=fun _ _ _ _ _ _ h=>h.elim
end
abbrev TG:=V→St→Hp→(St→Hp→Prop)→Prop
abbrev TGs:=List V→St→Hp→(St→Hp→Prop)→Prop
def PG (X:Cx) (target:Expr) (t:TG):Prop :=
 ∀ (pins:List (Addr×Obj)) (s:Shared) (σ:St) (H:Hp) (v:V) (u:Value) (Q:St→Hp→Prop),Inv X pins σ H s→RelV v u→t v σ H Q →
  wpAny (model X.prog X.w) X.A (assign target X.env u) (fun _ s' => ∃ σ' H',Inv X pins σ' H' s'∧Q σ' H') X.xe s
def PGs (X:Cx) (ts:List Expr) (t:TGs):Prop :=
 ∀ (pins:List (Addr×Obj)) (s:Shared) (σ:St) (H:Hp) (vs:List V) (us:List Value) (Q:St→Hp→Prop),Inv X pins σ H s→Vals vs us→t vs σ H Q →
  wpAny (model X.prog X.w) X.A (assignInOrder ((assignEach ts X.env).map (·.2)) us) (fun _ s' => ∃ σ' H',Inv X pins σ' H' s'∧Q σ' H') X.xe s
abbrev TSet:=V→V→V→Hp→(Hp→Prop)→Prop
def PSet (X:Cx) (t:TSet):Prop :=
 ∀ (pins:List (Addr×Obj)) (s:Shared) (σ:St) (H:Hp) (o i v:V) (ov iv u:Value) (Q:Hp→Prop),Inv X pins σ H s→RelV o ov→RelV i iv→RelV v u→t o i v H Q →
  wpAny (model X.prog X.w) X.A (setItem ov iv u) (fun _ s' => ∃ H',Inv X pins σ H' s'∧Q H') X.xe s
section
variable {X:Cx}{pos:Pos}
def zahy (i:Nat):TG:=fun v σ H Q=>Q (σ.set i (some v)) H
theorem qzc {i:Nat}{x:Str} (hN:X.N.Nodup) (hi:X.N[i]?=some x) (hx:Loc X.env.scope x) (hf:X.fn x=true∨X.env.scope.names.lookup x=some .local:=by first|exact .inl rfl|exact .inr rfl|assumption):PG X (.Name x pos) (zahy i):=by
 intro pins s σ H v u Q I r h
 exact wpAny_assign_Name (qgz I hN hi hx r (fun s' I'=>⟨_,H,I',h⟩) hf)
def gNil:TGs:=fun vs σ H Q=>vs=[]∧Q σ H
def zaqy (t:TG) (u:TGs):TGs:=fun vs σ H Q => ∃ v r,vs=v::r∧t v σ H fun σ' H'=>u r σ' H' Q
theorem zajt:PGs X [] gNil:=by
 intro pins s σ H vs us Q I r h
 obtain ⟨e,h⟩:=h
 subst e
 cases r
 exact assignInOrder_nil ⟨σ,H,I,h⟩
theorem zafz {e:Expr}{es:List Expr}{t:TG}{u:TGs} (h1:PG X e t) (h2:PGs X es u)
 (hs:(assignEach (e::es) X.env).map (·.2)=assign e X.env::(assignEach es X.env).map (·.2):=by rfl):PGs X (e::es) (zaqy t u):=by
  intro pins s σ H vs us Q I r h
  obtain ⟨v,vr,e1,h⟩:=h
  subst e1
  cases r with
  | cons r rr =>
   rw [hs]
   refine assignInOrder_cons (thn (h1 pins s σ H _ _ _ I r h) fun _ s1 xx12=>?_)
   obtain ⟨σ1,H1,I1,q1⟩:=xx12
   exact h2 pins s1 σ1 H1 _ _ Q I1 rr q1
def gTup (K:PySem.W.Frag) (n:Nat) (t:TGs):TG:=fun v σ H Q => ∃ a xs,v = .ref a∧SqT K H a xs∧xs.length=n∧t xs σ H Q
theorem zanb {es:List Expr}{k:Nat}{t:TGs}{n:Nat} (hc:X.calm=true) (h:PGs X es t)
 (hn:(assignEach es X.env).length=n:=by rfl) (hst:(assignEach es X.env).findIdx? (·.1)=none:=by rfl):PG X (.Tuple es k pos) (gTup X.K n t):=by
  intro pins s σ H v u Q I r hw
  obtain ⟨a,xs,e1,hq,hl,hw⟩:=hw
  subst e1
  cases r
  obtain ⟨its,rv,ht,hz⟩:=I.tuple hq
  refine assign_Tuple_tuple (I.ok.hd hc) ht (by simp [hn,← hl,rv.length]) hst fun h' hx=>?_
  have I1:Inv X pins σ H { s with heap:=h' }:=I.kept (t':=s.toks) fun b o e=>hx b o (Nat.ne_of_lt (Heap.lt_size e)) e
  exact h pins _ σ H xs _ Q I1 (by simpa using rv) hw
def gSub (to ti:TE) (t:TSet):TG:=fun v σ H Q=>to σ H fun o H1=>ti σ H1 fun i H2=>t o i v H2 fun H3=>Q σ H3
theorem zamy {o i:Expr}{to ti:TE}{t:TSet} (ho:PE X o to) (hi:PE X i ti) (hs:PSet X t)
 (ha : ∀ v,assign (.Subscript o i pos) X.env v=(do
 let ov ← holding [v] (eval o X.env)
 let iv ← holding [v,ov] (eval i X.env)
 standAt pos
 holding [v,ov,iv] (setItem ov iv v)
 release [v,ov,iv] []):=by intro _;rfl):PG X (.Subscript o i pos) (gSub to ti t):=by
  intro pins s σ H v u Q I r h
  rw [ha]
  refine wpAny_bind (wpAny_holding (thn (ho pins s σ H _ I h) fun ov s1 xx15=>?_))
  obtain ⟨x,H1,I1,r1,q1⟩:=xx15
  refine wpAny_bind (wpAny_holding (thn (hi pins s1 σ H1 _ I1 q1) fun iv s2 xx14=>?_))
  obtain ⟨y,H2,I2,r2,q2⟩:=xx14
  refine wpAny_bind (wpAny_standAt (wpAny_bind (wpAny_holding (thn (hs pins s2 σ H2 x y v ov iv u _ I2 r1 r2 r q2) fun _ s3 xx13=>?_))))
  obtain ⟨H3,I3,q3⟩:=xx13
  exact wpAny_release ⟨σ,H3,I3,q3⟩
def tAsg (te:TE) (g:TG):TS:=fun D σ H=>te σ H fun x H1=>g x σ H1 D.nx
theorem zaow {tg e:Expr}{te:TE}{g:TG} (he:PE X e te) (hg:PG X tg g) (hs:swapsWithSole [tg] e pos.line X.env=pure false:=by rfl) (hw:swappedStores [tg] e X.env=pure none:=by rfl)
 (h1:(assignEach [tg] X.env).map (·.2)=[assign tg X.env]:=by rfl):PS X (.Assign [tg] e pos) (tAsg te g):=by
 intro pins s σ H D I h
 refine wpAny_Assign_stores (thn (he pins s σ H _ I h) fun v s1 xx16=>?_) hs hw
 obtain ⟨x,H1,I1,r1,q1⟩:=xx16
 rw [h1]
 exact thn (hg pins s1 σ H1 x v _ I1 r1 q1) fun _ s2 q=>q
theorem qmj {i:Nat}{x:Str}{e:Expr}{te:TE}{pos':Pos} (hN:X.N.Nodup) (hi:X.N[i]?=some x) (hx:Loc X.env.scope x) (he:PE X e te) (hs:swapsWith e (some (.Name x pos')) pos.line X.env=pure false:=by rfl) (hf:X.fn x=true∨X.env.scope.names.lookup x=some .local:=by first|exact .inl rfl|exact .inr rfl|assumption) :
 PS X (.Assign [.Name x pos'] e pos) (tAsg te (zahy i)):=by
 intro pins s σ H D I h
 refine wpAny_Assign_Name (thn (he pins s σ H _ I h) fun v s1 xx17=>?_) hs
 obtain ⟨y,H1,I1,r1,q1⟩:=xx17
 exact qgz I1 hN hi hx r1 (fun s2 I2=>⟨_,H1,I2,q1⟩) hf
def tPar (i j:Nat) (ta:TA):TS:=fun D σ H=>ta σ H fun vs H1 => ∃ v w,vs=[v,w]∧D.nx ((σ.set i (some v)).set j (some w)) H1
theorem zank {i j:Nat}{x y:Str}{a b:Expr}{ta:TA}{px py pt:Pos}{kt k2 pt2} (hc:X.calm=true) (hN:X.N.Nodup) (hi:X.N[i]?=some x) (hj:X.N[j]?=some y) (hij:i≠j)
 (hx:X.env.scope.names.lookup x=some .local) (hy:X.env.scope.names.lookup y=some .local) (ha:PA X [a,b] ta)
 (hw:swappedStores [.Tuple [.Name x px,.Name y py] kt pt] (.Tuple [a,b] k2 pt2) X.env=pure (some [x,y]))
 (hs:swapsWithSole [.Tuple [.Name x px,.Name y py] kt pt] (.Tuple [a,b] k2 pt2) pos.line X.env=pure false:=by rfl) :
  PS X (.Assign [.Tuple [.Name x px,.Name y py] kt pt] (.Tuple [a,b] k2 pt2) pos) (tPar i j ta):=by
  intro pins s σ H D I h
  rw [exec_Assign_arm]
  refine wpAny_bind (wpAny_standAt ?_)
  rw [hs]
  refine wpAny_bind (wpAny_pure ?_)
  rw [if_neg (by decide)]
  refine wpAny_bind (Tuple_ (thn (ha _ pins s σ H _ I h) fun us s1 xx18=>?_))
  obtain ⟨vs,H1,I1,r1,q1⟩:=xx18
  obtain ⟨v,w,e1,q1⟩:=q1
  subst e1
  obtain ⟨u1,u2,rfl,rv,rw'⟩ : ∃ u1 u2,us=[u1,u2]∧RelV v u1∧RelV w u2:=by
   cases r1 with
   | cons p q =>
    cases q with
    | cons p' q' =>
     cases q'
     exact ⟨_,_,rfl,p,p'⟩
  refine wpAny_newObj_type ?_ (by show 2≤sizeLine;decide)
  have I2:Inv X pins σ H1 { s1 with heap:=s1.heap.push { cls :=.type "tuple",data :=.seq [u1,u2].toArray } }:=I1.kept (t':=s1.toks) fun b o e=>Heap.get?_push_of_some _ e
  rw [hw]
  refine wpAny_bind (wpAny_pure ?_)
  show wpAny (model X.prog X.w) X.A (do rule "assign.swapped-stores";let items ← unpackItems (.ref s1.heap.objs.size) 2 none;assignInOrder [fun v=>bindName X.env y v,fun v=>bindName X.env x v] items.reverse;pure Flow.next) _ _ _
  refine wpAny_bind (wpAny_rule (wpAny_bind (unpackItems_tuple (items := #[u1,u2]) (I.ok.hd hc) (IsTup.new s1.heap _) fun h' hx'=>?_)))
  have I3:=I2.kept (h':=h') (t':=s1.toks) fun b o e=>hx' b o (Nat.ne_of_lt (Heap.lt_size e)) e
  show wpAny _ _ (assignInOrder [fun v=>bindName X.env y v,fun v=>bindName X.env x v] [u2,u1] >>= fun _=>pure Flow.next) _ _ _
  refine wpAny_bind (assignInOrder_cons (wpAny_bindName (qgz I3 hN hj (.inl hy) rw' (fun s2 I4=>?_) (.inr hy))))
  refine assignInOrder_cons (wpAny_bindName (qgz I4 hN hi (.inl hx) rv (fun s3 I5=>assignInOrder_nil (wpAny_pure ?_)) (.inr hx)))
  rw [List.set_comm _ _ (Ne.symm hij)] at I5
  exact ⟨_,H1,I5,q1⟩
end
section
variable {X:Cx}{pos:Pos}
def zamx (c:TT) (tb:TS):TS:=fun D σ H => ∃ W:Nat→St→Hp→Prop,(∃ m,W m σ H) ∧ ∀ m σ H,W m σ H →
 c σ H fun b H1=>if b=true then ∃ N:St→Hp→Prop,(∀ σ' H',N σ' H' → ∃ m',m'<m∧W m' σ' H')∧tb { D with nx:=N,ct:=N,bk:=D.nx } σ H1 else D.nx σ H1
theorem zafv {c:Expr}{body:List Stmt}{tc:TT}{tb:TS} (hp:PassesOwn (model X.prog X.w) X.A X.env X.xe) (hc:PT X c tc) (hb:PSs X body tb):PS X (.While c body [] pos) (zamx tc tb):=by
 intro pins s σ H D I h
 obtain ⟨W,⟨m0,w0⟩,turn⟩:=h
 refine wpAny_While (codeAny_whileLoop (fun n s' => ∃ σ' H',Inv X pins σ' H' s'∧W n σ' H') ?_ m0 ⟨σ,H,I,w0⟩)
 rintro n s1 ⟨σ1,H1,I1,w1⟩
 refine wpAny_passesOwn hp (thn (hc pins s1 σ1 H1 _ I1 (turn n σ1 H1 w1)) fun b s2 xx19=>?_)
 obtain ⟨H2,I2,q2⟩:=xx19
 cases b with
 | true =>
  obtain ⟨N,hN,q2⟩:=q2
  rw [if_pos rfl]
  refine wpAny_passesOwn hp (thn (hb pins s2 σ1 H2 _ I2 q2) fun f s3 q3=>?_)
  cases f with
  | next =>
   obtain ⟨σ3,H3,I3,n3⟩:=q3
   obtain ⟨m',hm,w3⟩:=hN σ3 H3 n3
   exact ⟨m',hm,σ3,H3,I3,w3⟩
  | cont =>
   obtain ⟨σ3,H3,I3,n3⟩:=q3
   obtain ⟨m',hm,w3⟩:=hN σ3 H3 n3
   exact ⟨m',hm,σ3,H3,I3,w3⟩
  | brk=>exact q3
  | ret v=>exact q3
 | false =>
  rw [if_neg Bool.false_ne_true]
  exact wpAny_execs_nil ⟨σ1,H2,I2,q2⟩
end
structure It where
 go:Nat→Hp→Prop
 yld:Nat→Hp→V→Hp→Prop
 stop:Nat→Hp→Prop
def FpOk (X:Cx) (pins:List (Addr×Obj)) (H:Hp) (b:Addr):Prop :=
 H b=none∧b≠X.env.locals∧b ∉ X.fs∧(b ∈ X.ex∨X.s₀.heap.objs.size≤b)∧(∀ x c,X.env.cells.lookup x=some c→c≠b) ∧ ∀ p ∈ X.pn++pins,p.1≠b
theorem Inv.fpOk {X:Cx}{pins:List (Addr×Obj)}{σ:St}{H H':Hp}{s:Shared}{b:Addr} (I:Inv X pins σ H s) (hb:s.heap.objs.size≤b) (hn:H' b=none):FpOk X pins H' b:=by
 refine ⟨hn,Nat.ne_of_gt (Nat.lt_of_lt_of_le I.lt hb),I.nofs hb,.inr (Nat.le_trans I.sz hb),fun x c e z=>?_,fun p hp z=>?_⟩
 ·obtain ⟨v,q⟩:=I.cell x c e
  exact absurd (Nat.lt_of_lt_of_le q.lt (by rw [z];exact hb)) (Nat.lt_irrefl _)
 ·exact absurd (Nat.lt_of_lt_of_le (Heap.lt_size (I.pin p hp).1) (by rw [z];exact hb)) (Nat.lt_irrefl _)
structure Turn (P:Program) (w:World) (K:PySem.W.Frag) (tg:Expr) (J:It) (fp:List Addr) (it:Addr) (tn:Nat→Heap→Prop):Prop where
 mem:it ∈ fp
 obj : ∀ i h,tn i h → ∀ b ∈ fp,∃ o,h.get? b=some o ∧ ∀ v,o.data ≠ .cell v
 keep : ∀ i h h',tn i h→(∀ b ∈ fp,∀ o,h.get? b=some o→h'.get? b=some o)→tn i h'
 item : ∀ (X:Cx),X.prog=P→X.w=w→X.K=K→X.calm=true → ∀ (i:Nat) (pins:List (Addr×Obj)) (s:Shared) (σ:St) (H:Hp) (E:Value→Shared→Prop),Inv X pins σ H s→(∀ b ∈ fp,FpOk X pins H b)→tn i s.heap→J.go i H →
  wpAny (model P w) X.A (pyNext (.ref it)) (fun r s1 => ∃ u,r=some u ∧
   wpAny (model P w) X.A (letOwnedTupleGo tg (.ref it) u) (fun _ s2 => ∃ x H',Inv X pins σ H' s2∧RelV x u∧J.yld i H x H'∧tn (i+1) s2.heap ∧ ∀ b ∈ fp,H' b=none) E s1) E s
 done : ∀ (X:Cx),X.prog=P→X.w=w→X.K=K→X.calm=true → ∀ (i:Nat) (pins:List (Addr×Obj)) (s:Shared) (σ:St) (H:Hp) (E:Value→Shared→Prop),Inv X pins σ H s→(∀ b ∈ fp,FpOk X pins H b)→tn i s.heap→J.stop i H →
  wpAny (model P w) X.A (pyNext (.ref it)) (fun r s1=>r=none∧Inv X pins σ H s1) E s
 self : ∀ (A:Around) (i:Nat) (s:Shared) (Q:Value→Shared→Prop) (E:Value→Shared→Prop),tn i s.heap→Q (.ref it) s→wpAny (model P w) A (pyIter (.ref it)) Q E s
abbrev TI:=St→Hp→(It→Hp→Prop)→Prop
def PIE (X:Cx) (pins:List (Addr×Obj)) (σ:St) (tg:Expr) (R:It→Hp→Prop) (itv:Value) (s2:Shared):Prop :=
 ∃ (it:Addr) (fp:List Addr) (tn:Nat→Heap→Prop) (J:It) (H':Hp),itv = .ref it∧Inv X pins σ H' s2∧Turn X.prog X.w X.K tg J fp it tn∧tn 0 s2.heap∧(∀ b ∈ fp,FpOk X pins H' b)∧R J H'
def PI (X:Cx) (tg iter:Expr) (wi:TI):Prop :=
 ∀ (pins:List (Addr×Obj)) (s:Shared) (σ:St) (H:Hp) (R:It→Hp→Prop),Inv X pins σ H s→wi σ H R →
  wpAny (model X.prog X.w) X.A (eval iter X.env) (fun v s1=>wpAny (model X.prog X.w) X.A (pyIter v) (PIE X pins σ tg R) X.xe s1) X.xe s
theorem zaht {M:Model}{A:Around}{E:Value→Shared→Prop}{s:Shared}{tg:Expr}{it:Addr}{u:Value}{o:Obj}{n:String}{vs:Array Value}{Q:Unit→Shared→Prop} (ho:s.heap.get? it=some o) (hc:o.cls = .type n) (hd:o.data = .fields vs)
 (hn:["enumerate","zip","dict_itemiterator","dict_reverseitemiterator","odict_iterator","itertools.zip_longest","itertools.pairwise"].contains n=false) (hQ:Q () s):wpAny M A (letOwnedTupleGo tg (.ref it) u) Q E s:=by
  unfold letOwnedTupleGo
  cases tg <;> first
   | exact wpAny_pure hQ
   | (cases u <;> first
    | exact wpAny_pure hQ
    | (refine wpAny_bind (wpAny_load ho ?_)
       rw [hc,hd]
       show wpAny M A (if (["enumerate","zip","dict_itemiterator","dict_reverseitemiterator","odict_iterator","itertools.zip_longest","itertools.pairwise"].contains n&&vs[0]?==some (rawInt _))=true then _ else _) Q E s
       rw [if_neg (by intro h;rw [hn,Bool.false_and] at h;cases h)]
       exact wpAny_pure hQ))
def Itl (K:PySem.W.Frag) (a:Addr):It :=
 ⟨fun i H => ∃ xs x,SqL K H a xs∧xs[i]?=some x,fun i H x H'=>H'=H ∧ ∀ xs,SqL K H a xs→xs[i]?=some x,fun i H => ∃ xs,SqL K H a xs∧xs.length≤i⟩
def Itt (K:PySem.W.Frag) (a:Addr):It :=
 ⟨fun i H => ∃ xs x,SqT K H a xs∧xs[i]?=some x,fun i H x H'=>H'=H ∧ ∀ xs,SqT K H a xs→xs[i]?=some x,fun i H => ∃ xs,SqT K H a xs∧xs.length≤i⟩
def Itr (lo:Int) (n:Nat):It:=⟨fun i _=>i<n,fun i H x H'=>H'=H∧x = .int (lo+i),fun i _=>n≤i⟩
theorem zaby {P:Program}{w:World}{K:PySem.W.Frag}{tg:Expr} (a it:Addr):Turn P w K tg (Itl K a) [it] it (fun i h=>h.IsListIter it a i) where
 mem:=by simp
 obj:=fun i h st b hb=>by
  have e:b=it:=by simpa using hb
  subst e
  obtain ⟨o,e,c,d⟩:=st
  exact ⟨o,e,fun v z=>by rw [d] at z;cases z⟩
 keep:=fun i h h' st k=>st.at fun o e=>k it (by simp) o e
 item:=by
  intro X hP hw hK hc i pins s σ H E I hf st hg
  subst hP hw hK
  obtain ⟨xs,x,hq,hx⟩:=hg
  obtain ⟨its,rv,p,hz⟩:=I.list hq
  obtain ⟨u,hu,ru⟩:=rv.get hx
  obtain ⟨f0,f1,f2,f3,f4,f5⟩:=hf it (by simp)
  refine wpAny_pyNext_list_item st p.isList (x:=u) (by simpa using hu) fun h' st' sb=>?_
  have I1:Inv X pins σ H { s with heap:=h' }:=I.turned (t':=s.toks) (fun b o hb e=>(sb.2 b hb).trans e) f0 f1 f3 f4 f5
  obtain ⟨o,e,c,d⟩:=id st'
  exact ⟨u,rfl,zaht (s:={ s with heap:=h' }) e c d (by decide) ⟨x,H,I1,ru,⟨rfl,fun ys hy=>by rw [I.list_inj hy hq];exact hx⟩,st',fun b hb=>(hf b hb).1⟩⟩
 done:=by
  intro X hP hw hK hc i pins s σ H E I hf st hg
  subst hP hw hK
  obtain ⟨xs,hq,hx⟩:=hg
  obtain ⟨its,rv,p,hz⟩:=I.list hq
  obtain ⟨f0,f1,f2,f3,f4,f5⟩:=hf it (by simp)
  have hl:=rv.length
  exact wpAny_pyNext_list_end (I.ok.hd hc) st p.isList (by simp;omega) fun h' eb=>⟨rfl,I.turned (t':=s.toks) (fun b o hb e=>eb b o hb e) f0 f1 f3 f4 f5⟩
 self:=fun _ _ _ _ _ st h=>wpAny_pyIter_listiter st h
theorem qwo {P:Program}{w:World}{K:PySem.W.Frag}{tg:Expr} (a it:Addr):Turn P w K tg (Itt K a) [it] it (fun i h=>h.IsTupleIter it a i) where
 mem:=by simp
 obj:=fun i h st b hb=>by
  have e:b=it:=by simpa using hb
  subst e
  obtain ⟨o,e,c,d⟩:=st
  exact ⟨o,e,fun v z=>by rw [d] at z;cases z⟩
 keep:=fun i h h' st k=>st.at fun o e=>k it (by simp) o e
 item:=by
  intro X hP hw hK hc i pins s σ H E I hf st hg
  subst hP hw hK
  obtain ⟨xs,x,hq,hx⟩:=hg
  obtain ⟨its,rv,p,hz⟩:=I.tuple hq
  obtain ⟨u,hu,ru⟩:=rv.get hx
  obtain ⟨f0,f1,f2,f3,f4,f5⟩:=hf it (by simp)
  refine wpAny_pyNext_tuple_item st (show s.heap.IsTuple a its.toArray from p) (x:=u) (by simpa using hu) fun h' st' sb=>?_
  have I1:Inv X pins σ H { s with heap:=h' }:=I.turned (t':=s.toks) (fun b o hb e=>(sb.2 b hb).trans e) f0 f1 f3 f4 f5
  obtain ⟨o,e,c,d⟩:=id st'
  exact ⟨u,rfl,zaht (s:={ s with heap:=h' }) e c d (by decide) ⟨x,H,I1,ru,⟨rfl,fun ys hy=>by rw [I.tuple_inj hy hq];exact hx⟩,st',fun b hb=>(hf b hb).1⟩⟩
 done:=by
  intro X hP hw hK hc i pins s σ H E I hf st hg
  subst hP hw hK
  obtain ⟨xs,hq,hx⟩:=hg
  obtain ⟨its,rv,p,hz⟩:=I.tuple hq
  obtain ⟨f0,f1,f2,f3,f4,f5⟩:=hf it (by simp)
  have hl:=rv.length
  exact wpAny_pyNext_tuple_end (I.ok.hd hc) st (show s.heap.IsTuple a its.toArray from p) (by simp;omega) fun h' eb=>⟨rfl,I.turned (t':=s.toks) (fun b o hb e=>eb b o hb e) f0 f1 f3 f4 f5⟩
 self:=fun _ _ _ _ _ st h=>wpAny_pyIter_tupleiter st h
theorem qvy {P:Program}{w:World}{K:PySem.W.Frag}{tg:Expr} (it:Addr) (lo:Int) (n:Nat):Turn P w K tg (Itr lo n) [it] it (fun i h=>IsRangeIter h it (lo+(i:Nat)*1) ((n:Int)-(i:Nat)) 1) where
 mem:=by simp
 obj:=fun i h st b hb=>by
  have e:b=it:=by simpa using hb
  subst e
  exact ⟨_,st,fun v z=>by
   have z':Data.fields _=Data.cell v:=z
   cases z'⟩
 keep:=fun i h h' st k=>k it (by simp) _ st
 item:=by
  intro X hP hw hK hc i pins s σ H E I hf st hg
  subst hP hw hK
  obtain ⟨f0,f1,f2,f3,f4,f5⟩:=hf it (by simp)
  have W:=Walks.range (prog:=X.prog) (w:=X.w) (I.ok.hd hc) it lo 1 n
  refine W.item i s _ _ hg st fun v h' tk hv st' kk=>?_
  obtain ⟨t,rfl⟩:=hv
  have I1:Inv X pins σ H { s with heap:=h',toks:=tk }:=I.turned (fun b o hb e=>kk b o (by simpa using hb) e) f0 f1 f3 f4 f5
  refine ⟨_,rfl,zaht (s:={ s with heap:=h',toks:=tk }) (n := "range_iterator") st' rfl rfl (by decide) ⟨.int (lo+i),H,I1,⟨t,?_⟩,⟨rfl,rfl⟩,st',fun b hb=>(hf b hb).1⟩⟩
  rw [Int.mul_one]
 done:=by
  intro X hP hw hK hc i pins s σ H E I hf st hg
  subst hP hw hK
  obtain ⟨f0,f1,f2,f3,f4,f5⟩:=hf it (by simp)
  exact wpAny_pyNext_range_end (I.ok.hd hc) st (by have:n≤i:=hg;omega) fun h' eb=>⟨rfl,I.turned (t':=s.toks) (fun b o hb e=>eb b o hb e) f0 f1 f3 f4 f5⟩
 self:=fun _ _ _ _ _ st h=>wpAny_pyIter_rangeiter st h
end L2
namespace L2
open PySem PySem.Spec PyProof.Rows
section
variable {X:Cx}{tg:Expr}
theorem zagj {pins:List (Addr×Obj)}{σ:St}{H:Hp}{s:Shared}{R:It→Hp→Prop}{E:Value→Shared→Prop}{lo hi:Int}{t u v:Tok}{tk:Nat} (I:Inv X pins σ H s) (h1 : -(2^62)≤lo) (h2:lo<2^62) (h3 : -(2^62)≤hi) (h4:hi<2^62)
 (q:R (Itr lo (hi-lo).toNat) H):wpAny (model X.prog X.w) X.A (pyIter (.ref s.heap.objs.size)) (PIE X pins σ tg R) E { s with heap:=s.heap.push { cls :=.type "range",data :=.fields #[.int lo t,.int hi u,.int 1 v] },toks:=tk }:=by
  refine wpAny_pyIter_range (IsRange.new ..) (small_one h1 h2 h3 h4) ?_
  have I1:Inv X pins σ H { s with heap:=s.heap.push { cls :=.type "range",data :=.fields #[.int lo t,.int hi u,.int 1 v] },toks:=tk }:=I.kept fun b o e=>Heap.get?_push_of_some _ e
  refine ⟨(s.heap.push { cls :=.type "range",data :=.fields #[.int lo t,.int hi u,.int 1 v] }).objs.size,[(s.heap.push { cls :=.type "range",data :=.fields #[.int lo t,.int hi u,.int 1 v] }).objs.size],_,_,H,rfl,
   I1.kept (t':=tk) fun b o e=>Heap.get?_push_of_some _ e,qvy _ lo (hi-lo).toNat,?_,fun b hb=>?_,q⟩
  ·have e1:lo+((0:Nat):Int)*1=lo:=by simp
   have e2:(((hi-lo).toNat:Nat):Int)-((0:Nat):Int)=Builtin.Range.rangeSize lo hi 1:=by rw [rangeSize_one];split <;> omega
   show IsRangeIter _ _ (lo+((0:Nat):Int)*1) ((((hi-lo).toNat:Nat):Int)-((0:Nat):Int)) 1
   rw [e1,e2]
   exact Heap.get?_push_size _ rfl
  ·have e:b=(s.heap.push { cls :=.type "range",data :=.fields #[.int lo t,.int hi u,.int 1 v] }).objs.size:=by simpa using hb
   subst e
   exact I1.fpOk (Nat.le_refl _) (I1.hok.fresh (Nat.le_refl _))
def zapn (ta:TA):TI:=fun σ H R=>ta σ H fun vs H1 => ∃ j:Int,vs=[.int j] ∧ -(2^62)≤j∧j<2^62∧R (Itr 0 j.toNat) H1
theorem zaaf {a:Expr}{ta:TA}{p pos:Pos} (hg:Gl X "range") (hm:X.mg "range" = none) (ha:PA X [a] ta) (hs:starEach [a] X.env=[(false,eval a X.env)]:=by rfl):PI X tg (.Call (.Name "range" p) [a] [] pos) (zapn ta):=by
 intro pins s σ H R I h
 refine Call_ (qho I hg hm boot_range (PyProof.Rows.callWith_type1 (thn (ha pos pins s σ H _ I h) fun us s1 xx20=>?_) hs rfl))
 obtain ⟨vs,H1,I1,r1,q1⟩:=xx20
 obtain ⟨j,e,q1,q2,q⟩:=q1
 subst e
 cases r1 with
 | cons r rr =>
  cases rr
  obtain ⟨t,rfl⟩:=r
  exact call_range_1 (zagj I1 (by omega) (by omega) q1 q2 (by simpa using q))
def tFor (wi:TI) (g:TG) (tb:TS):TS:=fun D σ H=>wi σ H fun J H1 => ∃ W:Nat→Nat→St→Hp→Prop,(∃ m,W 0 m σ H1) ∧ ∀ i m σ H,W i m σ H →
 (J.stop i H∧D.nx σ H)∨(J.go i H ∧ ∃ N:St→Hp→Prop,(∀ σ' H',N σ' H' → ∃ m',m'<m∧W (i+1) m' σ' H') ∧ ∀ x H',J.yld i H x H'→g x σ H' fun σ2 H2=>tb { D with nx:=N,ct:=N,bk:=D.nx } σ2 H2)
def qth (fp:List Addr) (h:Heap):List (Addr×Obj):=fp.filterMap fun b=>(h.get? b).map fun o=>(b,o)
theorem qfy {fp:List Addr}{h:Heap}{b:Addr}{o:Obj} (hb:b ∈ fp) (e:h.get? b=some o):(b,o) ∈ qth fp h:=List.mem_filterMap.mpr ⟨b,hb,by rw [e];rfl⟩
theorem zaaz {fp:List Addr}{h:Heap}{p:Addr×Obj} (hp:p ∈ qth fp h):p.1 ∈ fp∧h.get? p.1=some p.2:=by
 obtain ⟨b,hb,e⟩:=List.mem_filterMap.mp hp
 cases q:h.get? b with
 | none=>rw [q] at e;cases e
 | some o =>
  rw [q] at e
  have e':(b,o)=p:=Option.some.inj e
  subst e'
  exact ⟨hb,q⟩
theorem Inv.pinned {pins:List (Addr×Obj)}{σ:St}{H:Hp}{s:Shared}{fp:List Addr} (I:Inv X pins σ H s) (hf : ∀ b ∈ fp,FpOk X pins H b) (ho : ∀ b ∈ fp,∃ o,s.heap.get? b=some o ∧ ∀ v,o.data ≠ .cell v):Inv X (pins++qth fp s.heap) σ H s :=
 I.pins_of fun p hp=>(List.mem_append.mp hp).elim (fun z=>I.pin p (List.mem_append_right _ z)) fun z=>by
  obtain ⟨hb,e⟩:=zaaz z
  obtain ⟨f0,f1,f2,_⟩:=hf p.1 hb
  obtain ⟨o,e',d⟩:=ho p.1 hb
  rw [e] at e';cases e'
  exact ⟨e,f0,f1,f2,d⟩
theorem Inv.unpinned {pins pl:List (Addr×Obj)}{σ:St}{H:Hp}{s:Shared} (I:Inv X (pins++pl) σ H s):Inv X pins σ H s:=I.pins_of fun p hp=>I.pin p (List.mem_append_right _ (List.mem_append_left _ hp))
theorem zaho {iter:Expr}{body:List Stmt}{wi:TI}{g:TG}{tb:TS}{pos:Pos} (hp:PassesOwn (model X.prog X.w) X.A X.env X.xe) (hc:X.calm=true) (hi:PI X tg iter wi) (hg:PG X tg g) (hb:PSs X body tb)
 (hs : ∀ x,foldedSetIterable iter X.env x=pure x:=by intro _;rfl):PS X (.For tg iter body [] pos) (tFor wi g tb):=by
  intro pins s σ H D I h
  refine wpAny_For (thn (hi pins s σ H _ I h) fun v s1 h1=>thn h1 fun itv s2 h2=>?_) hs
  obtain ⟨it,fp,tn,J,H2,e,I2,T,st2,f2,W,⟨m0,w0⟩,turn⟩:=h2
  subst e
  have stat : ∀ {H':Hp},(∀ b ∈ fp,H' b=none) → ∀ b ∈ fp,FpOk X pins H' b:=fun hn b hb=>⟨hn b hb,(f2 b hb).2⟩
  refine codeAny_forLoop_any (fun n s' => ∃ i σ' H',Inv X pins σ' H' s'∧tn i s'.heap∧(∀ b ∈ fp,H' b=none)∧W i n σ' H') ?_ m0 ⟨0,σ,H2,I2,st2,fun b hb=>(f2 b hb).1,w0⟩
  rintro n s3 ⟨i,σ3,H3,I3,st3,fr3,w3⟩
  rcases turn i n σ3 H3 w3 with ⟨stop,qn⟩|⟨go,N,hN,step⟩
  ·refine wpAny_passesOwn hp (thn (T.done X rfl rfl rfl hc i pins s3 σ3 H3 X.xe I3 (stat fr3) st3 stop) fun r s4 xx24=>?_)
   obtain ⟨hr,I4⟩:=xx24
   subst hr
   exact wpAny_execs_nil ⟨σ3,H3,I4,qn⟩
  ·refine wpAny_passesOwn hp (thn (T.item X rfl rfl rfl hc i pins s3 σ3 H3 X.xe I3 (stat fr3) st3 go) fun r s4 xx23=>?_)
   obtain ⟨u,hr,h4⟩:=xx23
   subst hr
   refine wpAny_passesOwn hp (thn h4 fun _ s5 xx22=>?_)
   obtain ⟨x,H5,I5,r5,y5,st5,fr5⟩:=xx22
   have I5':=I5.pinned (stat fr5) (T.obj _ _ st5)
   refine wpAny_passesOwn hp (thn (hg _ s5 σ3 H5 x u _ I5' r5 (step x H5 y5)) fun _ s6 xx21=>?_)
   obtain ⟨σ6,H6,I6,q6⟩:=xx21
   refine wpAny_passesOwn hp (thn (hb _ s6 σ6 H6 _ I6 q6) fun f s7 q7=>?_)
   have again : ∀ {σ7:St}{H7:Hp},Inv X (pins++qth fp s5.heap) σ7 H7 s7→N σ7 H7 → ∃ m,m<n ∧ ∃ i σ' H',Inv X pins σ' H' s7∧tn i s7.heap∧(∀ b ∈ fp,H' b=none)∧W i m σ' H':=fun {σ7 H7} I7 n7=>by
    obtain ⟨m',hm,w7⟩:=hN σ7 H7 n7
    refine ⟨m',hm,i+1,σ7,H7,I7.unpinned,T.keep _ _ _ st5 fun b hb o e=>(I7.pin (b,o) (List.mem_append_right _ (List.mem_append_right _ (qfy hb e)))).1,fun b hb=>?_,w7⟩
    obtain ⟨o,e,d⟩:=T.obj _ _ st5 b hb
    exact (I7.pin (b,o) (List.mem_append_right _ (List.mem_append_right _ (qfy hb e)))).2.1
   cases f with
   | next=>obtain ⟨σ7,H7,I7,n7⟩:=q7;exact again I7 n7
   | cont=>obtain ⟨σ7,H7,I7,n7⟩:=q7;exact again I7 n7
   | brk=>obtain ⟨σ7,H7,I7,q7⟩:=q7;exact ⟨σ7,H7,I7.unpinned,q7⟩
   | ret v=>obtain ⟨x7,σ7,H7,I7,r7,q7⟩:=q7;exact ⟨x7,σ7,H7,I7.unpinned,r7,q7⟩
end
end L2
namespace L2
open PySem PySem.Spec PyProof.Rows
abbrev R2:=V→V→Hp→VK→Prop
def OpR (X:Cx) (f:Value→Value→Sem Value) (r:R2):Prop :=
 ∀ (pins:List (Addr×Obj)) (s:Shared) (σ:St) (H:Hp) (x y:V) (v u:Value) (Q:VK),Inv X pins σ H s→RelV x v→RelV y u→r x y H Q →
  wpAny (model X.prog X.w) X.A (f v u) (EP X pins σ Q) X.xe s
def UnR (X:Cx) (f:Value→Sem Value) (r:V→Hp→VK→Prop):Prop :=
 ∀ (pins:List (Addr×Obj)) (s:Shared) (σ:St) (H:Hp) (x:V) (v:Value) (Q:VK),Inv X pins σ H s→RelV x v→r x H Q →
  wpAny (model X.prog X.w) X.A (f v) (EP X pins σ Q) X.xe s
def CallR (X:Cx) (f:Value) (r:List V→Hp→VK→Prop):Prop :=
 ∀ (pins:List (Addr×Obj)) (s:Shared) (σ:St) (H:Hp) (xs:List V) (us:List Value) (Q:VK),Inv X pins σ H s→Vals xs us→r xs H Q →
  wpAny (model X.prog X.w) X.A (call f us) (EP X pins σ Q) X.xe s
def tOp (r:R2) (ta tb:TE):TE:=fun σ H Q=>ta σ H fun x H1=>tb σ H1 fun y H2=>r x y H2 Q
def tUn (r:V→Hp→VK→Prop) (ta:TE):TE:=fun σ H Q=>ta σ H fun x H1=>r x H1 Q
def rI (C:Int→Int→Prop) (g:Int→Int→V):R2:=fun x y H Q => ∃ i j,x = .int i∧y = .int j∧C i j∧Q (g i j) H
def rI0 (g:Int→Int→V):R2:=fun x y H Q => ∃ i j,x = .int i∧y = .int j∧Q (g i j) H
def rU (g:Int→V):V→Hp→VK→Prop:=fun x H Q => ∃ i,x = .int i∧Q (g i) H
section
variable {X:Cx}{a b c:Expr}{ta tb tc:TE}{pos:Pos}
theorem binT (ha:PE X a ta) (hb:PE X b tb) {pins:List (Addr×Obj)}{s:Shared}{σ:St}{H:Hp}{R:V→V→Hp→Prop} (I:Inv X pins σ H s)
 (h:ta σ H fun x H1=>tb σ H1 fun y H2=>R x y H2) {Q:Value→Shared→Prop}{f:Value→Value→Sem Value}
 (hf : ∀ v u s2 x y H2,Inv X pins σ H2 s2→RelV x v→RelV y u→R x y H2→wpAny (model X.prog X.w) X.A (f v u) Q X.xe s2) :
 wpAny (model X.prog X.w) X.A (eval a X.env) (fun v s₁=>wpAny (model X.prog X.w) X.A (eval b X.env) (fun u s₂=>wpAny (model X.prog X.w) X.A (f v u) Q X.xe s₂) X.xe s₁) X.xe s:=by
  refine thn (ha pins s σ H _ I h) fun v s1 xx26=>?_
  obtain ⟨x,H1,I1,r1,q1⟩:=xx26
  refine thn (hb pins s1 σ H1 _ I1 q1) fun u s2 xx25=>?_
  obtain ⟨y,H2,I2,r2,q2⟩:=xx25
  exact hf v u s2 x y H2 I2 r1 r2 q2
theorem zalg {op:Operator}{r:R2} (ho:OpR X (binaryOp op) r) (ha:PE X a ta) (hb:PE X b tb):PE X (.BinOp a op b pos) (tOp r ta tb):=by
 intro pins s σ H Q I h
 exact wpAny_BinOp (binT ha hb I h fun v u s2 x y H2 I2 rx ry q=>ho pins s2 σ H2 x y v u Q I2 rx ry q)
theorem zari {op:UnaryOp}{r:V→Hp→VK→Prop} (ho:UnR X (unaryOp op) r) (ha:PE X a ta):PE X (.UnaryOp op a pos) (tUn r ta):=by
 intro pins s σ H Q I h
 exact UnaryOp_ (thn (ha pins s σ H _ I h) fun v s1 xx27=>by obtain ⟨x,H1,I1,r1,q1⟩:=xx27;exact ho pins s1 σ H1 x v Q I1 r1 q1)
theorem opI {f:Value→Value→Sem Value}{C:Int→Int→Prop}{g:Int→Int→Int}
 (rule : ∀ (i j:Int) (t u:Tok) (s:Shared) (Q:Value→Shared→Prop) (E:Value→Shared→Prop),C i j→Q (.int (g i j) s.toks) { s with toks:=s.toks+1 }→wpAny (model X.prog X.w) X.A (f (.int i t) (.int j u)) Q E s) :
  OpR X f (rI C fun i j => .int (g i j)):=by
  intro pins s σ H x y v u Q I rx ry h
  obtain ⟨i,j,rfl,rfl,hc,q⟩:=h
  obtain ⟨t,rfl⟩:=rx
  obtain ⟨t',rfl⟩:=ry
  exact rule i j t t' s _ _ hc ⟨.int (g i j),H,I.tok _,⟨_,rfl⟩,q⟩
theorem opI0 {f:Value→Value→Sem Value}{g:Int→Int→Int}
 (rule : ∀ (i j:Int) (t u:Tok) (s:Shared) (Q:Value→Shared→Prop) (E:Value→Shared→Prop),Q (.int (g i j) s.toks) { s with toks:=s.toks+1 }→wpAny (model X.prog X.w) X.A (f (.int i t) (.int j u)) Q E s) :
  OpR X f (rI0 fun i j => .int (g i j)):=by
  intro pins s σ H x y v u Q I rx ry h
  obtain ⟨i,j,rfl,rfl,q⟩:=h
  obtain ⟨t,rfl⟩:=rx
  obtain ⟨t',rfl⟩:=ry
  exact rule i j t t' s _ _ ⟨.int (g i j),H,I.tok _,⟨_,rfl⟩,q⟩
theorem opB0 {f:Value→Value→Sem Value}{g:Int→Int→Bool}
 (rule : ∀ (i j:Int) (t u:Tok) (s:Shared) (Q:Value→Shared→Prop) (E:Value→Shared→Prop),Q (.bool (g i j)) s→wpAny (model X.prog X.w) X.A (f (.int i t) (.int j u)) Q E s) :
 OpR X f (rI0 fun i j => .bl (g i j)):=by
  intro pins s σ H x y v u Q I rx ry h
  obtain ⟨i,j,rfl,rfl,q⟩:=h
  obtain ⟨t,rfl⟩:=rx
  obtain ⟨t',rfl⟩:=ry
  exact rule i j t t' s _ _ ⟨.bl (g i j),H,I,rfl,q⟩
theorem zann:OpR X (binaryOp .Add) (rI0 fun i j => .int (i+j)):=opI0 fun _ _ _ _ _ _ _ q=>add_int q
theorem zamw:OpR X (binaryOp .Sub) (rI0 fun i j => .int (i-j)):=opI0 fun _ _ _ _ _ _ _ q=>sub_int q
theorem zamh:OpR X (binaryOp .Mod) (rI (fun _ j=>0<j) fun i j => .int (i%j)):=opI fun i j _ _ _ _ _ hc q=>by
 have h1:(0:Int)<j:=hc
 exact mod_int' (by omega) (by rw [Int.fmod_eq_emod_of_nonneg i (by omega)];exact q)
theorem unI {f:Value→Sem Value}{g:Int→Int}
 (rule : ∀ (i:Int) (t:Tok) (s:Shared) (Q:Value→Shared→Prop) (E:Value→Shared→Prop),Q (.int (g i) s.toks) { s with toks:=s.toks+1 }→wpAny (model X.prog X.w) X.A (f (.int i t)) Q E s) :
  UnR X f (rU fun i => .int (g i)):=by
  intro pins s σ H x v Q I rx h
  obtain ⟨i,rfl,q⟩:=h
  obtain ⟨t,rfl⟩:=rx
  exact rule i t s _ _ ⟨.int (g i),H,I.tok _,⟨_,rfl⟩,q⟩
theorem zamt:UnR X (unaryOp .USub) (rU fun i => .int (-i)):=unI fun _ _ _ _ _ q=>neg_int q
end
section
variable {X:Cx}{a b c:Expr}{ta tb tc:TE}{pos:Pos}
theorem zapo:OpR X (compareOp .Lt) (rI0 fun i j => .bl (decide (i<j))):=opB0 fun _ _ _ _ _ _ _ q=>lt_int q
theorem zarb:OpR X (compareOp .LtE) (rI0 fun i j => .bl (decide (i≤j))):=opB0 fun _ _ _ _ _ _ _ q=>le_int q
theorem zapw:OpR X (compareOp .Gt) (rI0 fun i j => .bl (decide (j<i))):=opB0 fun _ _ _ _ _ _ _ q=>gt_int q
theorem zarh:OpR X (compareOp .GtE) (rI0 fun i j => .bl (decide (j≤i))):=opB0 fun _ _ _ _ _ _ _ q=>ge_int q
theorem zahp (b:Expr) {op:CmpOp} (h:op ≠ .In:=by decide) (h2:op ≠ .NotIn:=by decide):behindInMarks op b=false:=by
 have e1:(op==CmpOp.In)=false:=by cases op <;> first|rfl|exact absurd rfl h
 have e2:(op==CmpOp.NotIn)=false:=by cases op <;> first|rfl|exact absurd rfl h2
 cases b <;> simp [behindInMarks,e1,e2]
theorem qyz {op:CmpOp}{r:R2} (ho:OpR X (compareOp op) r) (ha:PE X a ta) (hb:PE X b tb) (hm:behindInMarks op b=false):PE X (.Compare a [op] [b] pos) (tOp r ta tb):=by
 intro pins s σ H Q I h
 exact wpAny_Compare1 (binT ha hb I h fun v u s2 x y H2 I2 rx ry q=>ho pins s2 σ H2 x y v u Q I2 rx ry q) hm
def zalp (t:TE):TT:=fun σ H Q=>t σ H fun x H' => ∃ k,x = .bl k∧Q k H'
theorem zakz {op:CmpOp}{r:R2} (ho:OpR X (compareOp op) r) (ha:PE X a ta) (hb:PE X b tb) (hm:behindInMarks op b=false):PT X (.Compare a [op] [b] pos) (zalp (tOp r ta tb)):=by
 intro pins s σ H Q I h
 refine wpAny_isTrue_Compare1 (thn (ha pins s σ H _ I h) fun v s1 ⟨x,H1,I1,r1,q1⟩=>thn (hb pins s1 σ H1 _ I1 q1) fun u s2 ⟨y,H2,I2,r2,q2⟩ =>
  thn (ho pins s2 σ H2 x y v u _ I2 r1 r2 q2) fun c s3 ⟨z,H3,I3,r3,k,e,q3⟩=>?_) hm
 subst e
 cases r3
 exact wpAny_truthy_bool ⟨H3,I3,q3⟩
def qxv (r r':R2) (ta tb tc:TE):TE:=fun σ H Q=>ta σ H fun x H1=>tb σ H1 fun y H2=>r x y H2 fun z H3 => ∃ k,z = .bl k ∧
 (if k=true then tc σ H3 fun w' H4=>r' y w' H4 Q else Q (.bl false) H3)
theorem zagf {op op':CmpOp}{r r':R2} (ho:OpR X (compareOp op) r) (ho':OpR X (compareOp op') r') (ha:PE X a ta) (hb:PE X b tb) (hc:PE X c tc)
 (hm:lastMarks [op,op'] [b,c]=false:=by with_unfolding_all rfl):PE X (.Compare a [op,op'] [b,c] pos) (qxv r r' ta tb tc):=by
  intro pins s σ H Q I h
  refine Compare_chain (thn (ha pins s σ H _ I h) fun v s1 ⟨x,H1,I1,r1,q1⟩=>chain_link (thn (hb pins s1 σ H1 _ I1 q1) fun u s2 ⟨y,H2,I2,r2,q2⟩ =>
   thn (ho pins s2 σ H2 x y v u _ I2 r1 r2 q2) fun d s3 ⟨z,H3,I3,r3,k,e,q3⟩=>?_)) hm
  subst e
  cases r3
  refine wpAny_truthy_bool ?_
  cases k with
  | false=>exact ite_ff ⟨.bl false,H3,I3,rfl,q3⟩
  | true=>exact ite_tt (chain_last (thn (hc pins s3 σ H3 _ I3 q3) fun w' s4 xx31=>by obtain ⟨z',H4,I4,r4,q4⟩:=xx31;exact ho' pins s4 σ H4 y z' u w' Q I4 r2 r4 q4))
theorem zaeg {op op':CmpOp}{r r':R2} (ho:OpR X (compareOp op) r) (ho':OpR X (compareOp op') r') (ha:PE X a ta) (hb:PE X b tb) (hc:PE X c tc)
 (hm:lastMarks [op,op'] [b,c]=false:=by with_unfolding_all rfl):PT X (.Compare a [op,op'] [b,c] pos) (zalp (qxv r r' ta tb tc)):=by
  intro pins s σ H Q I h
  refine isTrue_chain (thn (ha pins s σ H _ I h) fun v s1 ⟨x,H1,I1,r1,q1⟩=>test_link (thn (hb pins s1 σ H1 _ I1 q1) fun u s2 ⟨y,H2,I2,r2,q2⟩ =>
   thn (ho pins s2 σ H2 x y v u _ I2 r1 r2 q2) fun d s3 ⟨z,H3,I3,r3,k,e,q3⟩=>?_)) hm
  subst e
  cases r3
  refine wpAny_truthy_bool ?_
  cases k with
  | false =>
   obtain ⟨k',e',q'⟩:=q3
   cases e'
   exact ite_ff ⟨H3,I3,q'⟩
  | true =>
   refine ite_tt (test_last (thn (hc pins s3 σ H3 _ I3 q3) fun w' s4 ⟨z',H4,I4,r4,q4⟩=>thn (ho' pins s4 σ H4 y z' u w' _ I4 r2 r4 q4) fun d' s5 xx35=>?_))
   obtain ⟨z2,H5,I5,r5,k2,e2,q5⟩:=xx35
   subst e2
   cases r5
   exact wpAny_truthy_bool ⟨H5,I5,q5⟩
theorem qmi:(sizeLine:Nat)<2^63:=by rw [sizeLine_eq];decide
theorem qwf:OpR X (binaryOp .Add) (fun x y H Q => ∃ i j,x = .str i∧y = .str j∧i.length+j.length≤sizeLine∧Q (.str (i++j)) H):=by
 intro pins s σ H x y v u Q I rx ry h
 obtain ⟨i,j,rfl,rfl,hz,q⟩:=h
 obtain ⟨t,rfl⟩:=rx
 obtain ⟨t',rfl⟩:=ry
 exact add_str (fun t' tk=>⟨.str (i++j),H,I.tok _,⟨_,rfl⟩,q⟩) hz
theorem qju {x:V}{us:List Value} (r:Vals [x] us) : ∃ u,us=[u]∧RelV x u:=by
 cases r with
 | cons r1 r2=>cases r2;exact ⟨_,rfl,r1⟩
theorem zalh {x y:V}{us:List Value} (r:Vals [x,y] us) : ∃ u w',us=[u,w']∧RelV x u∧RelV y w':=by
 cases r with
 | cons r1 r2 =>
  cases r2 with
  | cons r3 r4=>cases r4;exact ⟨_,_,rfl,r1,r3⟩
theorem zafm:CallR X (.builtin "abs") (fun xs H Q => ∃ i,xs=[.int i]∧Q (.int (if i<0 then -i else i)) H):=by
 intro pins s σ H xs us Q I r h
 obtain ⟨i,rfl,q⟩:=h
 obtain ⟨u,rfl,t,rfl⟩:=qju r
 exact call_abs_int fun u tk=>⟨.int (if i<0 then -i else i),H,I.tok _,⟨_,rfl⟩,q⟩
end
end L2
namespace L2
open PySem PySem.Spec PyProof.Rows
section
variable {prog:Program}{w:World}{A:Around}{E:Value→Shared→Prop}{s:Shared}{K:PySem.W.Frag}{x dx C f:Addr}{mA:Str→Option Value}{name:Str}{v:Value}
end
section
variable {P:Program}{w:World}{H H':Hp}{h h':Heap}{a C dx:Addr}{fs fs':List (Str×V)}
end
section
variable {X:Cx}{pins:List (Addr×Obj)}{σ:St}{H:Hp}{s:Shared}{a C dx:Addr}{fs:List (Str×V)}{f:Str}{v:V}{A:Around}{E:Value→Shared→Prop}
end
section
variable {X:Cx}{o e value:Expr}{f:Str}{pos pos' tpos:Pos}{ta tv:TE}
end
section
variable {X:Cx}{pins:List (Addr×Obj)}{σ:St}{H:Hp}{s:Shared}{A:Around}{E:Value→Shared→Prop}{Q:Value→Shared→Prop}{c:Value}{b:Bool}
end
end L2
namespace L2
open PySem PySem.Spec PyProof.Rows
structure Room (k:Nat) (A:Around):Prop where
 hd:A.handled=none
 dp:A.depth+3*k+5<recursionLimit
 un:A.units+16*k+200<cLine
theorem Room.mono {j k:Nat}{A:Around} (r:Room k A) (h:j≤k):Room j A:=⟨r.hd,by have:=r.dp;omega,by have:=r.un;omega⟩
theorem Room.deeper {k:Nat}{A:Around} (r:Room (k+1) A) (env:Env):Room k (A.deeper env) :=
 ⟨r.hd,by have:=r.dp;show A.depth+1+3*k+5<_;omega,by have:=r.un;show A.units+3+16*k+200<_;omega⟩
theorem Room.depth {k:Nat}{A:Around} (r:Room k A):A.depth<recursionLimit:=by have:=r.dp;omega
theorem Room.units {k:Nat}{A:Around} (r:Room k A):A.units+64<cLine:=by have:=r.un;omega
def tNil:TA:=fun _ H Q=>Q [] H
def qwd (ta:TE) (tr:TA):TA:=fun σ H Q=>ta σ H fun x H1=>tr σ H1 fun xs H2=>Q (x::xs) H2
section
variable {X:Cx}{e:Expr}{es:List Expr}{te:TE}{t:TA}{pos:Pos}
theorem qbj:PA X [] tNil:=fun _ _ _ _ H Q I h=>Calls.spliced_nil ⟨[],H,I,.nil,h⟩
theorem qN (ha:PE X e te) (hr:PA X es t) (hs:starEach (e::es) X.env=(false,eval e X.env)::starEach es X.env:=by rfl):PA X (e::es) (qwd te t):=by
 intro pos pins s σ H Q I h
 rw [hs]
 show wpAny _ _ (spliced ((false,eval e X.env)::backTo pos (starEach es X.env))) _ _ s
 refine Calls.spliced_cons (thn (ha pins s σ H _ I h) fun u s1 xx41=>?_)
 obtain ⟨x,H1,I1,r1,q1⟩:=xx41
 exact thn (hr pos pins s1 σ H1 _ I1 q1) fun us s2 xx40=>by obtain ⟨xs,H2,I2,r2,q2⟩:=xx40;exact ⟨x::xs,H2,I2,.cons r1 r2,q2⟩
def tTup (t:TA):TE:=fun σ H Q=>t σ H fun xs H1=>xs.length≤sizeLine ∧ ∀ p,H1 p=none→Q (.ref p) (upd H1 p (.tup xs))
def tLst (t:TA):TE:=fun σ H Q=>t σ H fun xs H1=>xs.length≤sizeLine ∧ ∀ p,H1 p=none→Q (.ref p) (upd H1 p (.lst xs))
theorem zagr {x1} (h:PA X es t):PE X (.Tuple es x1 pos) (tTup t):=by
 intro pins s σ H Q I hq
 refine wpAny_Tuple_spliced (thn (h pos pins s σ H _ I hq) fun us s1 ⟨xs,H1,I1,r,z,q⟩=>⟨by rw [← r.length];exact z,?_⟩)
 have hf:H1 s1.heap.objs.size=none:=I1.hok.fresh (Nat.le_refl _)
 refine ⟨.ref s1.heap.objs.size,upd H1 s1.heap.objs.size (.tup xs),I1.laid (t':=s1.toks) (fun b u e=>Heap.get?_push_of_some _ e) (Nat.le_refl _) ?_,rfl,q _ hf⟩
 exact ⟨z,us,r,⟨_,Heap.get?_push_size _ rfl,rfl,_,rfl⟩⟩
theorem zahr (h:PA X es t):PE X (.List es pos) (tLst t):=by
 intro pins s σ H Q I hq
 refine wpAny_List_spliced (thn (h pos pins s σ H _ I hq) fun us s1 ⟨xs,H1,I1,r,z,q⟩=>⟨by rw [← r.length];exact z,?_⟩)
 have hf:H1 s1.heap.objs.size=none:=I1.hok.fresh (Nat.le_refl _)
 refine ⟨.ref s1.heap.objs.size,upd H1 s1.heap.objs.size (.lst xs),I1.laid (t':=s1.toks) (fun b u e=>Heap.get?_push_of_some _ e) (Nat.le_refl _) ?_,rfl,q _ hf⟩
 exact ⟨z,us,0,r,Heap.get?_push_size _ rfl⟩
end
abbrev Sp:=List V→Hp→VK→XK→Prop
abbrev CXT:=List Env→Hp→Shared→XK→Value→Shared→Prop
structure Env0 (P:Program) (w:World) (K:PySem.W.Frag) (mg:Str→Option Value) (base:Heap) (A:Around) (outer:List Env) (s:Shared) (H:Hp):Prop where
 frames:A.frames=some outer
 mod:Mod K mg base
 bs : ∀ b o,base.get? b=some o→s.heap.get? b=some o∧H b=none
 bsz:base.objs.size≤s.heap.objs.size
 funs:s.heap.FunFrames base outer
 frf : ∀ b ∈ frs outer,H b=none
 hok:HOk P w H s.heap
 bare:AllBare s.gens
def CE (outer:List Env) (P:Program) (w:World) (H:Hp) (s:Shared) (Q:VK) (u:Value) (s':Shared):Prop :=
 ∃ v H',s'.os=s.os∧AllBare s'.gens∧Un (frs outer) [] H H' s.heap s'.heap∧HOk P w H' s'.heap∧RelV v u∧Q v H'
def CR (CX:CXT) (outer:List Env) (P:Program) (w:World) (H:Hp) (s:Shared) (Q:VK) (E:XK) (r:Result) (s':Shared):Prop :=
 match r with
 | .ok (.ret u)=>CE outer P w H s Q u s'
 | .ok _=>False
 | .error e=>CX outer H s E e s'
structure FnOk (P:Program) (w:World) (K:PySem.W.Frag) (mg:Str→Option Value) (base:Heap) (CX:CXT) (k:Nat) (f:Addr) (fd:FuncData) (ps:List Str) (sp:Sp):Prop where
 len : ∀ vs H Q E,sp vs H Q E→vs.length=ps.length
 run : ∀ (A:Around) (outer:List Env) (s:Shared) (H:Hp) (args:Args) (us:List Value) (vs:List V) (Q:VK) (E:XK),Room k A→Env0 P w K mg base A outer s H→BindsTo s fd args (ps.zip us)→Vals vs us→sp vs H Q E →
  codeAny (model P w) A (.call (.ref f) args) (CR CX outer P w H s Q E) s
section
variable {X:Cx}{pins:List (Addr×Obj)}{σ:St}{H:Hp}{s s':Shared}
theorem Inv.env0 (I:Inv X pins σ H s):Env0 X.prog X.w X.K X.mg X.base X.A X.stack s H :=
 ⟨I.ok.frames,I.ok.mod,I.bs,Nat.le_trans I.ok.bsz I.sz,I.stack,I.stkFree,I.hok,I.bare⟩
theorem Inv.after {Q:VK}{u:Value} (I:Inv X pins σ H s) (h:CE X.stack X.prog X.w H s Q u s'):EP X pins σ Q u s':=by
 obtain ⟨v,H',os,bare,un,hok,r,q⟩:=h
 obtain ⟨hh,g,d,t,os'⟩:=s'
 obtain rfl:os'=s.os:=os
 exact ⟨v,H',I.call (h':=hh) (g':=g) (d':=d) (t':=t) (ch:=[]) un hok bare (fun b z=>absurd z (by simp)),r,q⟩
end
def qjb (sp:Sp) (dvs:List V) (E:XK) (t:TA):TE:=fun σ H Q=>t σ H fun vs H1=>sp (vs++dvs) H1 Q E
def Binds (K:PySem.W.Frag) (fd:FuncData) (ps:List Str) (ds:List Value):Prop :=
 ∀ (s:Shared) (us:List Value),K.In s.heap→(us++ds).length=ps.length→BindsTo s fd ⟨us,[]⟩ (ps.zip (us++ds))
theorem Binds.all {K:PySem.W.Frag}{fd:FuncData}{ps:List Str} (h : ∀ us:List Value,us.length=ps.length→bindArgs fd ⟨us,[]⟩=pure (ps.zip us)):Binds K fd ps []:=fun s us _ hl=>by
 rw [List.append_nil] at hl ⊢
 exact .of_eq (h us hl)
def qxq (CX:CXT) (X:Cx) (E:XK):Prop := ∀ (pins:List (Addr×Obj)) (σ:St) (H:Hp) (s:Shared) (e:Value) (s':Shared),Inv X pins σ H s→CX X.stack H s E e s'→X.xe e s'
section
variable {X:Cx}{CX:CXT}{k:Nat}{f C:Addr}{fd:FuncData}{ps:List Str}{sp:Sp}{dvs:List V}{ds:List Value}{E:XK}{x m:Str}{p pos apos:Pos}{e o:Expr}{es:List Expr}{ta:TE}{t:TA}
theorem zaoe {pins:List (Addr×Obj)}{σ:St}{H:Hp}{s:Shared}{Q:VK}{us:List Value}{vs:List V} (F:FnOk X.prog X.w X.K X.mg X.base CX k f fd ps sp) (hr:Room k X.A) (hb:Binds X.K fd ps ds) (hd:Vals dvs ds) (hx:qxq CX X E)
 (I:Inv X pins σ H s) (r:Vals vs us) (h:sp (vs++dvs) H Q E):wpAny (model X.prog X.w) X.A (call (.ref f) us) (EP X pins σ Q) X.xe s:=by
  have r2:Vals (vs++dvs) (us++ds):=r.append hd
  have hl:(us++ds).length=ps.length:=by rw [← r2.length];exact F.len _ _ _ _ h
  refine wpAny_call (codeAny_mono (F.run X.A X.stack s H ⟨us,[]⟩ (us++ds) (vs++dvs) Q E hr I.env0 (hb s us I.kIn hl) r2 h) fun r s' hq=>?_)
  cases r with
  | error e=>exact hx pins σ H s e s' I hq
  | ok fl =>
   cases fl with
   | ret u=>exact I.after hq
   | next=>exact False.elim hq
   | brk=>exact False.elim hq
   | cont=>exact False.elim hq
theorem zakj (F:FnOk X.prog X.w X.K X.mg X.base CX k f fd ps sp) (hr:Room k X.A) (hg:Gl X x) (hm:X.mg x=some (.ref f)) (hk:PySem.W.keepIn X.K (.ref f)=true) (hb:Binds X.K fd ps ds) (hd:Vals dvs ds) (hx:qxq CX X E)
 (ha:PA X (e::es) t) (hdb:(x==("__debug__" : Str))=false:=by decide) (he:starEach (e::es) X.env=(false,eval e X.env)::starEach es X.env:=by rfl) (hpl:(backTo pos (starEach es X.env)).any (·.1)=false:=by rfl) :
  PE X (.Call (.Name x p) (e::es) [] pos) (qjb sp dvs E t):=by
  intro pins s σ H Q I h
  refine wpAny_Call_Name_kw (qzl I hg hm ?_ hdb)
  refine PySem.W.callWith_K (h₀:=X.base) I.ok.mod.kin hk (thn (ha pos pins s σ H _ I h) fun us s1 ⟨vs,H1,I1,r,q⟩=>⟨I1.kIn,?_⟩) he hpl
  exact zaoe F hr hb hd hx I1 r q
end
section
variable {X:Cx}{CX:CXT}{k:Nat}{f C:Addr}{fd:FuncData}{ps ks:List Str}{sp:Sp}{E:XK}{x m:Str}{p pos apos kpos:Pos}{e o:Expr}{es:List Expr}{kws:List Keyword}{te ta:TE}{t tk:TA}{nm:Option Str}
variable {g:List Value→List Value→List Value}{gV:List V→List V→List V}
end
structure FnScope (N P:List Str) (sc:Scope):Prop where
 kind:sc.kind = .function
 co:sc.isCoroutine=false
 gen:sc.isGenerator=false
 nd:N.Nodup
 pre:N.take P.length=P
 par : ∀ x ∈ P,sc.names.lookup x=some .local∨sc.names.lookup x=some .cell
 nofree : ∀ y ∈ sc.names,y.2 ≠ .free
theorem qri {kindOf:Str→Option NameKind}{x:Str} : ∀ {binds:List (Str×Value)}{m:Str→Option Value},(∀ v,(x,v) ∉ binds)→bindL kindOf binds m x=m x
 | [],_,_=>rfl
 | (n,v)::r,m,h=>by
  unfold bindL
  rw [qri fun w hw=>h w (List.mem_cons_of_mem _ hw)]
  split
  ·have:x≠n:=by rintro rfl;exact h v List.mem_cons_self
   simp [this]
  ·rfl
theorem qrc {kindOf:Str→Option NameKind}{x:Str} : ∀ {binds:List (Str×Value)}{m:Str→Option Value},(∀ v,(x,v) ∉ binds)→bindC kindOf binds m x=m x
 | [],_,_=>rfl
 | (n,v)::r,m,h=>by
  unfold bindC
  rw [qrc fun w hw=>h w (List.mem_cons_of_mem _ hw)]
  split
  ·rfl
  ·have:x≠n:=by rintro rfl;exact h v List.mem_cons_self
   simp [this]
theorem qre {kindOf:Str→Option NameKind}{x:Str}{v:Value} : ∀ {P:List Str}{vs:List Value}{i:Nat}{m:Str→Option Value},P.Nodup→P[i]?=some x→vs[i]?=some v→kindOf x=some .local →
 bindL kindOf (P.zip vs) m x=some v
  | [],_,_,_,_,h,_,_=>by simp at h
  | _::_,[],_,_,_,_,h,_=>by simp at h
  | p::P,w::vs,0,m,nd,h1,h2,hk=>by
   simp at h1 h2;subst h1;subst h2
   show bindL kindOf ((p,w)::P.zip vs) m p=_
   unfold bindL
   rw [qri fun v hv=>(List.nodup_cons.mp nd).1 (List.of_mem_zip hv).1,if_pos hk]
   simp
  | p::P,w::vs,i+1,m,nd,h1,h2,hk=>by
   show bindL kindOf ((p,w)::P.zip vs) m x=_
   unfold bindL
   exact qre (i:=i) (List.nodup_cons.mp nd).2 (by simpa using h1) (by simpa using h2) hk
theorem qqr {kindOf:Str→Option NameKind}{x:Str}{v:Value} : ∀ {P:List Str}{vs:List Value}{i:Nat}{m:Str→Option Value},P.Nodup→P[i]?=some x→vs[i]?=some v→kindOf x≠some .local →
 bindC kindOf (P.zip vs) m x=some v
  | [],_,_,_,_,h,_,_=>by simp at h
  | _::_,[],_,_,_,_,h,_=>by simp at h
  | p::P,w::vs,0,m,nd,h1,h2,hk=>by
   simp at h1 h2;subst h1;subst h2
   show bindC kindOf ((p,w)::P.zip vs) m p=_
   unfold bindC
   rw [qrc fun v hv=>(List.nodup_cons.mp nd).1 (List.of_mem_zip hv).1,if_neg hk]
   simp
  | p::P,w::vs,i+1,m,nd,h1,h2,hk=>by
   show bindC kindOf ((p,w)::P.zip vs) m x=_
   unfold bindC
   exact qqr (i:=i) (List.nodup_cons.mp nd).2 (by simpa using h1) (by simpa using h2) hk
def start (N:List Str) (vs:List V):St:=vs.map some++List.replicate (N.length-vs.length) none
def qpv (CX:CXT) (P:Program) (w:World) (K:PySem.W.Frag) (mg:Str→Option Value) (base:Heap) (N:List Str) (qual:Str) (scope:Scope) (f:Addr) (cd:Value) (A:Around) (outer:List Env) (s:Shared) (H:Hp) (E:XK):Cx where
 prog:=P
 w:=w
 K:=K
 mg:=mg
 base:=base
 A:=A.deeper (envOfC qual scope s.heap.objs.size f cd)
 N:=N
 s₀:=s
 H₀:=H
 env:=envOfC qual scope s.heap.objs.size f cd
 outer:=outer
 stack:=envOfC qual scope s.heap.objs.size f cd::outer
 ex:=[]
 calm:=true
 fn:=fun _=>true
 pn:=[]
 xe:=fun e s'=>wpAny (model P w) (A.deeper (envOfC qual scope s.heap.objs.size f cd)) (leaving (envOfC qual scope s.heap.objs.size f cd) e) (fun _ s''=>CX outer H s E e s'') (fun e' s''=>CX outer H s E e' s'') s'
theorem qux {sc:Scope}{n:Nat}{x:Str} (h:sc.names.lookup x=some .cell) : ∃ c,(cellsFrom n sc.names []).lookup x=some c:=by
 have q:=PySem.W.cellsFrom_some sc.names n [] (.inl h)
 exact Option.isSome_iff_exists.mp q
theorem zaav {CX:CXT}{P:Program}{w:World}{K:PySem.W.Frag}{mg:Str→Option Value}{base:Heap}{N ps:List Str}{qual:Str}{scope:Scope}{f:Addr}{cd:Value}{A:Around}{outer:List Env}{s s1:Shared}{H:Hp}{E:XK}{us:List Value}{vs:List V}
 (S:FnScope N ps scope) (hd:A.handled=none) (e0:Env0 P w K mg base A outer s H) (hl:vs.length=ps.length) (r:Vals vs us)
 (x:InCallC s s.heap.objs.size (bindL (envOfC qual scope s.heap.objs.size f cd).kindOf (ps.zip us) fun _=>none) (cellsFrom (s.heap.objs.size+1) scope.names []) (bindC (envOfC qual scope s.heap.objs.size f cd).kindOf (ps.zip us) fun _=>none) s1) :
 Inv (qpv CX P w K mg base N qual scope f cd A outer s H E) [] (start N vs) H s1:=by
  have hpl:ps.length≤N.length:=by have:=congrArg List.length S.pre;rw [List.length_take] at this;omega
  obtain ⟨h1,tk,rfl,hk⟩:=x.done
  have noA : ∀ b:Addr,b ∉ (qpv CX P w K mg base N qual scope f cd A outer s H E).ex:=fun b z=>absurd (show b ∈ ([]:List Addr) from z) (by simp)
  refine ⟨⟨e0.mod,S.kind,rfl,rfl,Nat.le_refl _,fun y z c h1 h2=>?_,fun y hy=>?_,fun y c _ h=>?_,fun _=>hd,Around.frames_deeper e0.frames,.inr ⟨rfl,rfl⟩,fun b z=>absurd z (noA b),e0.bs,e0.bsz,fun b _ _=>noA b,fun b z=>absurd z (noA b),e0.funs,e0.frf⟩,
   rfl,e0.bare,Un.kept hk,⟨_,x.toInCall.ns,fun i y v h1 h2 h3=>?_⟩,fun y c h=>⟨_,x.cell y c h⟩,e0.hok.fresh (Nat.le_refl _),fun y c h=>?_,fun p hp=>absurd (show p ∈ ([]:List (Addr×Obj)) from hp) (by simp),e0.hok.kept hk,?_⟩
  ·exact name_of_addr x.apart (PySem.mem_of_lookup h1) (PySem.mem_of_lookup h2)
  ·have hy:scope.names.lookup y=some .cell∨scope.names.lookup y=some .free:=hy
   rcases hy with hy|hy
   ·exact qux hy
   ·exact absurd rfl (S.nofree _ (PySem.mem_of_lookup hy))
  ·exact Nat.le_of_lt (x.above y c (PySem.mem_of_lookup h))
  ·have hi:i<vs.length:=by
    unfold start at h2
    by_cases hi:i<vs.length
    ·exact hi
    ·rw [List.getElem?_append_right (by simpa using hi)] at h2
     rw [List.getElem?_replicate] at h2
     split at h2 <;> cases h2
   have ha:vs[i]?=some v:=by
    unfold start at h2
    rw [List.getElem?_append_left (by simpa using hi),List.getElem?_map] at h2
    cases e:vs[i]? with
    | none=>rw [e] at h2;cases h2
    | some a=>rw [e] at h2;cases h2;rfl
   obtain ⟨u,hu,rv⟩:=r.get ha
   have hp:ps[i]?=some y:=by
    rw [← S.pre,List.getElem?_take_of_lt (by omega)];exact h1
   have ndP:ps.Nodup:=by rw [← S.pre];exact S.nd.sublist (List.take_sublist _ _)
   refine ⟨u,rv,?_⟩
   rcases S.par y (List.mem_of_getElem? hp) with k|k
   ·exact .inl ⟨k,qre ndP hp hu k⟩
   ·obtain ⟨c,e⟩:=qux (n:=s.heap.objs.size+1) k
    refine .inr ⟨.inl k,c,e,?_⟩
    have q:=x.cell y c e
    rw [qqr ndP hp hu (by show scope.names.lookup y≠_;rw [k];decide)] at q
    exact q
  ·exact e0.hok.fresh (Nat.le_of_lt (x.above y c (PySem.mem_of_lookup h)))
  ·unfold start
   show _=N.length
   rw [List.length_append,List.length_map,List.length_replicate]
   omega
theorem zalt {CX:CXT}{P:Program}{w:World}{K:PySem.W.Frag}{mg:Str→Option Value}{base:Heap}{k:Nat}{f:Addr}{name qual:Str}{params:Arguments}{body:List Stmt}{scope:Scope}{dV kV doc pm cdv ct oc:Value}{an od:Option Addr}
 {osl:Array (Option Value)}{N ps:List Str}{sp:Sp} (lk:K.lookup f=some ⟨oc,od,.func (PySem.W.fnOf name qual params body scope dV kV doc pm an cdv ct),osl⟩) (hcd:PySem.W.codeIn K cdv qual=true) (S:FnScope N ps scope)
 (len : ∀ vs H Q E,sp vs H Q E→vs.length=ps.length)
 (hbody : ∀ (A:Around) (outer:List Env) (s:Shared) (H:Hp) (vs:List V) (Q:VK) (E:XK),Room k (A.deeper (envOfC qual scope s.heap.objs.size f cdv))→sp vs H Q E →
 ∃ t,PSs (qpv CX P w K mg base N qual scope f cdv A outer s H E) body t∧t { nx:=fun _ H'=>Q .non H',rt:=Q } (start N vs) H) :
  FnOk P w K mg base CX (k+1) f (PySem.W.fnOf name qual params body scope dV kV doc pm an cdv ct) ps sp:=by
  refine ⟨len,fun A outer s H args us vs Q E hr e0 hb r hsp=>?_⟩
  have hl:=len _ _ _ _ hsp
  have KX:K.In s.heap:=e0.mod.kin.keeps fun b o e=>(e0.bs b o e).1
  have lim:s.heap.NoLimit:=e0.mod.nolimit.keeps fun b o e=>(e0.bs b o e).1
  have hkind : ∀ y ∈ ps.zip us,scope.names.lookup y.1=some .local∨(scope.names.lookup y.1=some .cell∧((cellsFrom (s.heap.objs.size+1) scope.names []).lookup y.1).isSome=true):=fun xx45 hy=>by
   obtain ⟨n,v⟩:=xx45
   rcases S.par n (List.of_mem_zip hy).1 with q|q
   ·exact .inl q
   ·exact .inr ⟨q,PySem.W.cellsFrom_some _ _ _ (.inl q)⟩
  refine codeAny_call_function hr.depth (KX _ _ lk) rfl S.co S.gen rfl (PySem.W.codeRec_of KX hcd) (hb _ _ _ _ ?_)
  refine wpAny_newFunctionEnv_cells S.kind hkind fun env he s1 x=>?_
  subst he
  refine ⟨lim.keeps x.toInCall.keep,codeAny_func ?_⟩
  obtain ⟨t,ht,hq⟩:=hbody A outer s H vs Q E (hr.deeper _) hsp
  have I:Inv (qpv CX P w K mg base N qual scope f cdv A outer s H E) [] (start N vs) H s1:=zaav S hr.hd e0 hl r x
  refine wpAny_mono (ht [] s1 (start N vs) H _ I hq) (fun fl s' hs=>?_) fun e s' hs=>hs
  have fin : ∀ {σ':St}{H':Hp}{v:V}{u:Value},Inv (qpv CX P w K mg base N qual scope f cdv A outer s H E) [] σ' H' s'→RelV v u→Q v H'→CE outer P w H s Q u s' :=
   fun {σ' H' v u} J rv q=>⟨v,H',J.os,J.bare,J.base,J.hok,rv,q⟩
  cases fl with
  | ret u =>
   obtain ⟨v,σ',H',J,rv,q⟩:=hs
   exact fin J rv q
  | next =>
   obtain ⟨σ',H',J,q⟩:=hs
   exact fin (v:=V.non) (u:=Value.none) J rfl q
  | brk =>
   obtain ⟨_,_,_,q⟩:=hs
   exact False.elim q
  | cont =>
   obtain ⟨_,_,_,q⟩:=hs
   exact False.elim q
end L2
namespace L2
open PySem PySem.Spec PyProof.Rows
section
variable {X:Cx}{x:Str}{p pos:Pos}{e:Expr}{es:List Expr}{t:TA}{id T:String}{r:List V→Hp→VK→Prop}
def tCB (r:List V→Hp→VK→Prop) (t:TA):TE:=fun σ H Q=>t σ H fun vs H1=>r vs H1 Q
theorem qjj (hc:CallR X (.builtin id) r) (hg:Gl X x) (hm:X.mg x=none) (hv:bootBuiltins x=some (.builtin id)) (ha:PA X (e::es) t) (hn:x ≠ "__name__":=by decide) (hdb:(x==("__debug__" : Str))=false:=by decide)
 (he:starEach (e::es) X.env=(false,eval e X.env)::starEach es X.env:=by rfl) (hpl:(backTo pos (starEach es X.env)).any (·.1)=false:=by rfl):PE X (.Call (.Name x p) (e::es) [] pos) (tCB r t):=by
 intro pins s σ H Q I h
 refine wpAny_Call_Name_kw (qho I hg hm hv ?_ hn hdb)
 exact PyProof.Rows.callWith_builtin1 (thn (ha pos pins s σ H _ I h) fun us s1 xx46=>by obtain ⟨vs,H1,I1,r1,q1⟩:=xx46;exact hc pins s1 σ H1 vs us Q I1 r1 q1) he hpl
theorem qkz (hc:CallR X (.type T) r) (hg:Gl X x) (hm:X.mg x=none) (hv:bootBuiltins x=some (.type T)) (ha:PA X (e::es) t) (hn:x ≠ "__name__":=by decide) (hdb:(x==("__debug__" : Str))=false:=by decide)
 (he:starEach (e::es) X.env=(false,eval e X.env)::starEach es X.env:=by rfl) (hpl:(backTo pos (starEach es X.env)).any (·.1)=false:=by rfl):PE X (.Call (.Name x p) (e::es) [] pos) (tCB r t):=by
 intro pins s σ H Q I h
 refine wpAny_Call_Name_kw (qho I hg hm hv ?_ hn hdb)
 exact PyProof.Rows.callWith_type1 (thn (ha pos pins s σ H _ I h) fun us s1 xx47=>by obtain ⟨vs,H1,I1,r1,q1⟩:=xx47;exact hc pins s1 σ H1 vs us Q I1 r1 q1) he hpl
end
end L2
namespace HT
open PySem PyProof.Rows
section
open PySem.SeqAt
open PySem.AutoSeq1 (wpAny_loadPart')
open PySem.MeetsSeq PySem.MeetsSeq2 PySem.MeetsSeq3
end
section
variable {prog:Program}{w:World}{A:Around}{E:Value→Shared→Prop}{s:Shared}
theorem cat_tup {t b:Addr}{vs ws:List Value}{Q:Value→Shared→Prop} (ht:IsTup s.heap t vs.toArray) (hb:IsTup s.heap b ws.toArray) (hv:vs≠[])
 (h1:ws=[]→Q (.ref t) s) (h2:ws≠[]→Q (.ref s.heap.objs.size) { s with heap:=s.heap.push { cls :=.type "tuple",data :=.seq (vs++ws).toArray } })
  (hsz:vs.length+ws.length≤sizeLine):wpAny (model prog w) A (binaryOp .Add (.ref t) (.ref b)) Q E s:=by
  obtain ⟨⟨cls,dd,data,sl⟩,ho,hc,n,hd⟩:=id ht
  obtain ⟨⟨cls2,dd2,data2,sl2⟩,ho2,hc2,n2,hd2⟩:=id hb
  simp only at hc hd hc2 hd2
  subst hc hd hc2 hd2
  have e:vs.toArray++ws.toArray=(vs++ws).toArray:=by simp
  by_cases hw:ws=[]
  ·exact concat_meets ⟨_,ho,rfl⟩ ⟨_,ho2,rfl⟩ noFill_tuple_add seq_tuple_add PySem.F.slot_tuple_add PySem.F.entry_tuple_add (PySem.F.args_tuple_add_2 _ _)
    (tuple_addW1 t b vs.toArray ws.toArray n n2 dd dd2 sl sl2 (by simpa using hv) (by simp [hw])) ⟨ho,ho2,h1 hw⟩
  ·refine concat_meets ⟨_,ho,rfl⟩ ⟨_,ho2,rfl⟩ noFill_tuple_add seq_tuple_add PySem.F.slot_tuple_add PySem.F.entry_tuple_add (PySem.F.args_tuple_add_2 _ _)
    (tuple_addW2 t b vs.toArray ws.toArray n n2 dd dd2 sl sl2 (by simpa using hv) (by simpa using hw) (by rw [List.size_toArray,List.size_toArray];exact hsz)) ⟨ho,ho2,?_⟩
   rw [e]
   exact h2 hw
end
end HT
namespace L2
open PySem PySem.Spec PyProof.Rows
abbrev TO:=St→Hp→(Option Int→Hp→Prop)→Prop
def PO (X:Cx) (e:Option Expr) (t:TO):Prop :=
 ∀ (pins:List (Addr×Obj)) (s:Shared) (σ:St) (H:Hp) (Q:Option Int→Hp→Prop),Inv X pins σ H s→t σ H Q →
  wpAny (model X.prog X.w) X.A (evalPart e X.env) (fun u s' => ∃ o H',Inv X pins σ H' s'∧IsPart u o∧Q o H') X.xe s
theorem qim {ns:List Int} : ∀ {us:List Value},Vals (ns.map V.int) us→IntsAre us ns:=by
 induction ns with
 | nil=>intro us r;rw [List.map_nil] at r;cases r;exact .nil
 | cons n ns ih =>
  intro us r
  rw [List.map_cons] at r
  cases r with
  | cons r1 r2 =>
   obtain ⟨t,e⟩:=r1
   subst e
   exact .cons n t (ih r2)
section
variable {X:Cx}{e:Expr}{te:TE}{lo hi:Option Expr}{tl th:TO}{pos p2:Pos}
def zaqh (K:PySem.W.Frag):R2:=fun x y H Q => ∃ a b xs ys,x = .ref a∧y = .ref b∧SqT K H a xs∧SqT K H b ys∧xs≠[]∧xs.length+ys.length≤sizeLine ∧
 (ys=[]→Q (.ref a) H)∧(ys≠[] → ∀ p,H p=none→Q (.ref p) (upd H p (.tup (xs++ys))))
theorem Vals.nil_iff {xs:List V}{us:List Value} (r:Vals xs us):us=[]↔xs=[]:=by
 cases r with
 | nil=>simp
 | cons _ _=>simp
theorem zakv:OpR X (binaryOp .Add) (zaqh X.K):=by
 intro pins s σ H x y v u Q I rx ry h
 obtain ⟨a,b,xs,ys,rfl,rfl,ha,hb,hx,hz,q1,q2⟩:=h
 cases rx
 cases ry
 obtain ⟨its,r1,p1,_⟩:=I.tuple ha
 obtain ⟨its2,r2,p2,_⟩:=I.tuple hb
 refine HT.cat_tup p1 p2 (fun z=>hx (r1.nil_iff.mp z)) (fun z=>⟨.ref a,H,I,rfl,q1 (r2.nil_iff.mp z)⟩) (fun z=>?_) (by rw [← r1.length,← r2.length];exact hz)
 refine ⟨.ref s.heap.objs.size,_,I.laid (t':=s.toks) (o :=.tup (xs++ys)) (fun b ob q=>Heap.get?_push_of_some _ q) (Nat.le_refl _) ?_,rfl,q2 (fun w=>z (r2.nil_iff.mpr w)) _ (I.hok.fresh (Nat.le_refl _))⟩
 exact ⟨by rw [List.length_append];exact hz,_,r1.append r2,IsTup.new _ _⟩
end
end L2
namespace L2
open PySem PySem.Spec PyProof.Rows
def ixN (n:Nat) (i:Int):Option Nat:=if 0≤i then (if i<n then some i.toNat else none) else if -(n:Int)≤i then some (i+n).toNat else none
def atI {α:Type} (xs:List α) (i:Int):Option α:=(ixN xs.length i).bind fun j=>xs[j]?
theorem qze {n:Nat}{i:Int}{j:Nat} (h:ixN n i=some j):seqIndex? i n=some j∧j<n ∧ -(n:Int)≤i∧i<n:=by
 unfold ixN at h
 by_cases h0:0≤i
 ·rw [if_pos h0] at h
  by_cases h1:i<n
  ·rw [if_pos h1] at h
   have e:i.toNat=j:=Option.some.inj h
   exact ⟨by rw [seqIndex_of h0 h1,e],by omega,by omega,h1⟩
  ·rw [if_neg h1] at h;cases h
 ·rw [if_neg h0] at h
  by_cases h1 : -(n:Int)≤i
  ·rw [if_pos h1] at h
   have e:(i+n).toNat=j:=Option.some.inj h
   exact ⟨by rw [seqIndex_neg (by omega) h1,e],by omega,h1,by omega⟩
  ·rw [if_neg h1] at h;cases h
theorem qsa {α:Type}{xs:List α}{i:Int}{v:α} (h:atI xs i=some v) : ∃ j,seqIndex? i xs.length=some j∧xs[j]?=some v∧j<xs.length ∧ -(xs.length:Int)≤i∧i<xs.length:=by
 unfold atI at h
 cases e:ixN xs.length i with
 | none=>rw [e] at h;cases h
 | some j =>
  rw [e] at h
  obtain ⟨h1,h2,h3,h4⟩:=qze e
  exact ⟨j,h1,h,h2,h3,h4⟩
theorem qgh {α:Type}{xs:List α}{j:Nat}{v:α} (h:xs[j]?=some v):atI xs (j:Int)=some v:=by
 have hj:j<xs.length:=(List.getElem?_eq_some_iff.mp h).1
 have e:ixN xs.length (j:Int)=some j:=by
  unfold ixN
  rw [if_pos (by omega),if_pos (by omega)];simp
 unfold atI;rw [e];exact h
def qsh (b:Expr):Prop := ∀ o i,subscripted b false o i=operate [o,i] (getItem o i)
def IxR (X:Cx) (r:R2):Prop :=
 ∀ (value slice:Expr) (pins:List (Addr×Obj)) (s:Shared) (σ:St) (H:Hp) (x y:V) (v u:Value) (Q:VK),Inv X pins σ H s→RelV x v→RelV y u→r x y H Q →
  subscripted slice false v u=operate [v,u] (getItem v u)→wpAny (model X.prog X.w) X.A (subscriptTail value slice v u) (EP X pins σ Q) X.xe s
def MtR (X:Cx) (id:String) (r:V→List V→Hp→VK→Prop):Prop :=
 ∀ (pins:List (Addr×Obj)) (s:Shared) (σ:St) (H:Hp) (x:V) (xs:List V) (v:Value) (us:List Value) (Q:VK),Inv X pins σ H s→RelV x v→Vals xs us→r x xs H Q →
  wpAny (model X.prog X.w) X.A (call (.builtin id) (v::us)) (EP X pins σ Q) X.xe s
section
variable {X:Cx}{a b:Expr}{ta tb:TE}{pos:Pos}
theorem IxR.or {r r':R2} (h:IxR X r) (h':IxR X r'):IxR X (fun x y H Q=>r x y H Q∨r' x y H Q):=by
 intro value slice pins s σ H x y v u Q I rx ry q hs
 rcases q with q|q
 ·exact h value slice pins s σ H x y v u Q I rx ry q hs
 ·exact h' value slice pins s σ H x y v u Q I rx ry q hs
theorem zaia {r:R2} (hr:IxR X r) (ha:PE X a ta) (hb:PE X b tb) (hs:qsh b):PE X (.Subscript a b pos) (tOp r ta tb):=by
 intro pins s σ H Q I h
 exact Subscript_ (binT ha hb I h fun v u s2 x y H2 I2 rx ry q=>hr a b pins s2 σ H2 x y v u Q I2 rx ry q (hs _ _))
def rIxL (K:PySem.W.Frag):R2:=fun x y H Q => ∃ p xs i v,x = .ref p∧y = .int i∧SqL K H p xs∧atI xs i=some v∧Q v H
def rIxT (K:PySem.W.Frag):R2:=fun x y H Q => ∃ p xs i v,x = .ref p∧y = .int i∧SqT K H p xs∧atI xs i=some v∧Q v H
def rIxS:R2:=fun x y H Q => ∃ z i c,x = .str z∧y = .int i∧z.length≤sizeLine∧atI z.cps.toList i=some c∧Q (.str ⟨#[c]⟩) H
theorem qzn:IxR X (rIxL X.K):=by
 intro value slice pins s σ H x y v u Q I rx ry h hs
 obtain ⟨p,xs,i,z,rfl,rfl,hq,he,q⟩:=h
 cases rx
 obtain ⟨t,rfl⟩:=ry
 obtain ⟨its,r,pl,hz⟩:=I.list hq
 obtain ⟨j,h1,h2,h3,h4,h5⟩:=qsa he
 obtain ⟨w,ew,rw'⟩:=r.get h2
 have hl:=r.length
 have hn:=qmi
 have fin:EP X pins σ Q w s:=⟨z,H,I,rw',q⟩
 by_cases h0:0≤i
 ·have hj:i.toNat=j:=by
   rw [seqIndex_of h0 h5] at h1
   exact Option.some.inj h1
  exact item_listR pl.isList h0 (by omega) (by rw [hj];simpa using ew) fin hs
 ·have hj:(i+(its.toArray.size:Int)).toNat=j:=by
   rw [seqIndex_neg (by omega) h4] at h1
   rw [List.size_toArray,← hl]
   exact Option.some.inj h1
  exact subscriptTail_builtinR (x:=w) pl.isList.typeIs slot_list_getitem.lookup
   (wpAny_getItem_list_neg (Q:=fun r s'=>r=w∧EP X pins σ Q r s') pl.isList (by omega) (by rw [List.size_toArray] <;> omega) (by omega) (by rw [hj];simpa using ew) ⟨rfl,fin⟩) hs
theorem zaom:IxR X (rIxT X.K):=by
 intro value slice pins s σ H x y v u Q I rx ry h hs
 obtain ⟨p,xs,i,z,rfl,rfl,hq,he,q⟩:=h
 cases rx
 obtain ⟨t,rfl⟩:=ry
 obtain ⟨its,r,pl,hz⟩:=I.tuple hq
 obtain ⟨j,h1,h2,h3,h4,h5⟩:=qsa he
 obtain ⟨w,ew,rw'⟩:=r.get h2
 have hl:=r.length
 have hn:=qmi
 have fin:EP X pins σ Q w s:=⟨z,H,I,rw',q⟩
 exact subscriptTail_builtinR (x:=w) pl.typeIs slot_tuple_getitem.lookup
  (getItem_tuple (j:=j) (Q:=fun r s'=>r=w∧EP X pins σ Q r s') pl (by omega) (by omega) (by rw [List.size_toArray,← hl];exact h1) (by simpa using ew) ⟨rfl,fin⟩) hs
theorem zaox:IxR X rIxS:=by
 intro value slice pins s σ H x y v u Q I rx ry h hs
 obtain ⟨z,i,c,rfl,rfl,hz,he,q⟩:=h
 obtain ⟨t,rfl⟩:=rx
 obtain ⟨t',rfl⟩:=ry
 obtain ⟨j,h1,h2,h3,h4,h5⟩:=qsa he
 have hl:z.cps.toList.length=z.length:=by simp [Str.length]
 rw [hl] at h1 h4 h5
 have hn:=qmi
 exact tail_any (typeIs_str s z t) slot_str_getitem.lookup (getItem_str (c:=c) (by
  have e1:decide (i < -(2^63:Int))=false:=decide_eq_false (by omega)
  have e2:decide (i≥2^63)=false:=decide_eq_false (by omega)
  rw [e1,e2,Bool.or_false]) (by rw [h1];simpa using h2) ⟨.str ⟨#[c]⟩,H,I.tok _,⟨_,rfl⟩,q⟩) hs
def rIx (K:PySem.W.Frag):R2:=fun x y H Q=>rIxL K x y H Q∨rIxT K x y H Q∨rIxS x y H Q
theorem zanf:IxR X (rIx X.K):=qzn.or (zaom.or zaox)
theorem qwq (its:List Value) (n j:Nat) (u:Value):Obj.mapSeq (·.setIfInBounds j u) { cls :=.type "list",data :=.seq its.toArray n }={ cls :=.type "list",data :=.seq (its.set j u).toArray n }:=by
 simp [Obj.mapSeq]
theorem Inv.lst {pins:List (Addr×Obj)}{σ:St}{H:Hp}{s:Shared}{p:Addr}{xs:List V} (I:Inv X pins σ H s) (h:H p=some (.lst xs)) :
 ∃ (its:List Value) (n:Nat),Vals xs its∧s.heap.get? p=some { cls :=.type "list",data :=.seq its.toArray n }∧xs.length≤sizeLine:=by
  obtain ⟨z,its,n,r,e⟩:=I.hok p _ h
  exact ⟨its,n,r,e,z⟩
theorem Inv.lstUpd {pins:List (Addr×Obj)}{σ:St}{H:Hp}{s:Shared}{p:Addr}{xs ys:List V}{its its':List Value}{n n':Nat}{f:Obj→Obj} (I:Inv X pins σ H s) (h:H p=some (.lst xs))
 (ho:s.heap.get? p=some { cls :=.type "list",data :=.seq its.toArray n }) (hf:f { cls :=.type "list",data :=.seq its.toArray n }={ cls :=.type "list",data :=.seq its'.toArray n' }) (r:Vals ys its') (hz:ys.length≤sizeLine) (t:Nat) :
  Inv X pins σ (upd H p (.lst ys)) { s with heap:=s.heap.update p f,toks:=t }:=by
  have e:(s.heap.update p f).get? p=some { cls :=.type "list",data :=.seq its'.toArray n' }:=by
   rw [Heap.get?_update_self f ho (by rw [hf] <;> rfl),hf]
  refine I.write (x:=p) (e:=p) (by rw [h];trivial) (.inl rfl) (fun b u hb q=>(Heap.get?_update_other _ _ (Ne.symm hb)).trans q) ⟨_,e⟩ ?_
  exact ⟨hz,its',n',r,e⟩
def zaqp:V→V→V→Hp→(Hp→Prop)→Prop:=fun o i v H Q => ∃ p xs k j,o = .ref p∧i = .int k∧H p=some (.lst xs)∧ixN xs.length k=some j∧Q (upd H p (.lst (xs.set j v)))
theorem zafa:PSet X zaqp:=by
 intro pins s σ H o i v ov iv u Q I ro ri rv h
 obtain ⟨p,xs,k,j,rfl,rfl,hp,hj,q⟩:=h
 cases ro
 obtain ⟨t,rfl⟩:=ri
 obtain ⟨its,n,r,ho,hz⟩:=I.lst hp
 obtain ⟨h1,h2,h3,h4⟩:=qze hj
 have hl:=r.length
 have hn:=qmi
 have I':Inv X pins σ (upd H p (.lst (xs.set j v))) { s with heap:=s.heap.update p (Obj.mapSeq (·.setIfInBounds j u)) } :=
  I.lstUpd hp ho (qwq its n j u) (r.set rv j) (by rw [List.length_set];exact hz) s.toks
 by_cases h0:0≤k
 ·have hk:k.toNat=j:=by
   rw [seqIndex_of h0 h4] at h1
   exact Option.some.inj h1
  exact PySem.W.ki_setAt ho h0 (by omega) (by rw [List.size_toArray,← hl];exact h4) (by rw [hk];exact ⟨_,I',q⟩)
 ·have hk:(k+(its.toArray.size:Int)).toNat=j:=by
   rw [seqIndex_neg (by omega) h3] at h1
   rw [List.size_toArray,← hl]
   exact Option.some.inj h1
  exact PySem.W.ki_setBack ho (by omega) (by rw [List.size_toArray,← hl];exact h3) (by omega) (by rw [hk];exact ⟨_,I',q⟩)
def qly:V→Bool
 | .non=>true
 | .bl _=>true
 | .int _=>true
 | .str _=>true
 | _=>false
def eqV:V→V→Bool
 | .non,.non=>true
 | .bl a,.bl b=>a==b
 | .bl a,.int b=>(if a then 1 else 0)==b
 | .int a,.bl b=>a==(if b then 1 else 0)
 | .int a,.int b=>a==b
 | .str a,.str b=>a==b
 | _,_=>false
theorem zaos {A:Around}{s:Shared}{y x:V}{u v:Value} (ry:RelV y u) (rx:RelV x v) (fy:qly y=true) (fx:qly x=true):SeqAt.EqAt A s u v (eqV y x):=by
 cases y with
 | non =>
  cases ry
  cases x with
  | non=>cases rx;exact SeqAt.EqAt.same _
  | bl b=>cases rx;exact SeqAt.EqAt.none_bool b
  | int b=>obtain ⟨t,rfl⟩:=rx;exact SeqAt.EqAt.none_int b t
  | str b=>obtain ⟨t,rfl⟩:=rx;exact SeqAt.EqAt.none_str b t
  | _=>exact absurd (show false=true from fx) Bool.false_ne_true
 | bl a =>
  cases ry
  cases x with
  | non=>cases rx;exact SeqAt.EqAt.bool_none a
  | bl b=>cases rx;exact SeqAt.EqAt.bool_bool a b
  | int b=>obtain ⟨t,rfl⟩:=rx;exact SeqAt.EqAt.bool_int a b t
  | str b=>obtain ⟨t,rfl⟩:=rx;exact SeqAt.EqAt.bool_str a b t
  | _=>exact absurd (show false=true from fx) Bool.false_ne_true
 | int a =>
  obtain ⟨t',rfl⟩:=ry
  cases x with
  | non=>cases rx;exact SeqAt.EqAt.int_none a t'
  | bl b=>cases rx;exact SeqAt.EqAt.int_bool a t' b
  | int b=>obtain ⟨t,rfl⟩:=rx;exact SeqAt.EqAt.int_int a t' b t
  | str b=>obtain ⟨t,rfl⟩:=rx;exact SeqAt.EqAt.int_str a t' b t
  | _=>exact absurd (show false=true from fx) Bool.false_ne_true
 | str a =>
  obtain ⟨t',rfl⟩:=ry
  cases x with
  | non=>cases rx;exact SeqAt.EqAt.str_none a t'
  | bl b=>cases rx;exact SeqAt.EqAt.str_bool a t' b
  | int b=>obtain ⟨t,rfl⟩:=rx;exact SeqAt.EqAt.str_int a t' b t
  | str b=>obtain ⟨t,rfl⟩:=rx;exact SeqAt.EqAt.str_str a t' b t
  | _=>exact absurd (show false=true from fx) Bool.false_ne_true
 | _=>exact absurd (show false=true from fy) Bool.false_ne_true
def eqU (x:V) (u:Value):Bool:=match u with
 | .none=>eqV .non x
 | .bool b=>eqV (.bl b) x
 | .int i _=>eqV (.int i) x
 | .str z _=>eqV (.str z) x
 | _=>false
theorem zagl {x y:V}{u:Value} (r:RelV y u) (f:qly y=true):eqU x u=eqV y x:=by
 cases y with
 | non=>cases r;rfl
 | bl b=>cases r;rfl
 | int i=>obtain ⟨t,rfl⟩:=r;rfl
 | str z=>obtain ⟨t,rfl⟩:=r;rfl
 | _=>exact absurd (show false=true from f) Bool.false_ne_true
theorem qry {x:V} : ∀ {xs:List V}{us:List Value},Vals xs us→xs.all qly=true→us.any (eqU x)=xs.any fun y=>eqV y x
 | _,_,.nil,_=>rfl
 | y::xs,u::us,.cons r t,f=>by
  rw [List.all_cons,Bool.and_eq_true] at f
  rw [List.any_cons,List.any_cons,zagl r f.1,qry t f.2]
theorem qow {A:Around}{s:Shared}{x:V}{v:Value} (rx:RelV x v) (fx:qly x=true) : ∀ {xs:List V}{us:List Value},Vals xs us→xs.all qly=true → ∀ u ∈ us,SeqAt.EqAt A s u v (eqU x u)
 | _,_,.nil,_=>fun u hu=>by cases hu
 | y::xs,u::us,.cons r t,f=>fun u' hu=>by
  rw [List.all_cons,Bool.and_eq_true] at f
  rcases List.mem_cons.mp hu with rfl|hu
  ·rw [zagl r f.1];exact zaos r rx f.1 fx
  ·exact qow rx fx t f.2 u' hu
def inV (x:V) (xs:List V):Bool:=xs.any fun y=>eqV y x
def rIn (K:PySem.W.Frag) (neg:Bool):R2:=fun x y H Q => ∃ p xs,y = .ref p∧(SqL K H p xs∨SqT K H p xs)∧qly x=true∧xs.all qly=true∧Q (.bl (if neg then !inV x xs else inV x xs)) H
theorem zabp:OpR X (compareOp .In) (rIn X.K false):=by
 intro pins s σ H x y v u Q I rx ry h
 obtain ⟨p,xs,rfl,hq,fx,fs,q⟩:=h
 cases ry
 rcases hq with hq|hq
 ·obtain ⟨its,r,pl,hz⟩:=I.list hq
  refine SeqAt.in_listAt (eqU x) pl.isList (fun w hw=>qow rx fx r fs w (by simpa using hw)) ⟨.bl _,H,I,rfl,?_⟩
  rw [show its.toArray.any (eqU x)=its.any (eqU x) by simp,qry r fs]
  exact q
 ·obtain ⟨its,r,pl,hz⟩:=I.tuple hq
  refine SeqAt.in_tupleAt (eqU x) pl (fun w hw=>qow rx fx r fs w (by simpa using hw)) ⟨.bl _,H,I,rfl,?_⟩
  rw [show its.toArray.any (eqU x)=its.any (eqU x) by simp,qry r fs]
  exact q
theorem qrn:CallR X (.builtin "len") (fun xs H Q => ∃ p ys,xs=[.ref p]∧(SqL X.K H p ys∨SqT X.K H p ys)∧Q (.int ys.length) H):=by
 intro pins s σ H xs us Q I r h
 obtain ⟨p,ys,rfl,hq,q⟩:=h
 obtain ⟨u,rfl,rx⟩:=qju r
 cases rx
 have hn:=qmi
 rcases hq with hq|hq
 ·obtain ⟨its,r',pl,hz⟩:=I.list hq
  have hlen:=r'.length
  exact Calls.call_len_list pl.isList (by simp only [List.size_toArray] <;> omega) ⟨.int ys.length,H,I.tok _,⟨s.toks+1,by rw [List.size_toArray,hlen]⟩,q⟩
 ·obtain ⟨its,r',pl,hz⟩:=I.tuple hq
  have hlen:=r'.length
  exact len_tuple pl (by simp only [List.size_toArray] <;> omega) ⟨.int ys.length,H,I.tok _,⟨s.toks+1,by rw [List.size_toArray,hlen]⟩,q⟩
theorem qrj:CallR X (.builtin "len") (fun xs H Q => ∃ z,xs=[.str z]∧z.length≤sizeLine∧Q (.int z.length) H):=by
 intro pins s σ H xs us Q I r h
 obtain ⟨z,rfl,hz,q⟩:=h
 obtain ⟨u,rfl,t,rfl⟩:=qju r
 have hn:=qmi
 exact len_str (by omega) ⟨.int z.length,H,I.tok _,⟨_,rfl⟩,q⟩
theorem CallR.or {f:Value}{r r':List V→Hp→VK→Prop} (h:CallR X f r) (h':CallR X f r'):CallR X f (fun xs H Q=>r xs H Q∨r' xs H Q):=by
 intro pins s σ H xs us Q I rs q
 rcases q with q|q
 ·exact h pins s σ H xs us Q I rs q
 ·exact h' pins s σ H xs us Q I rs q
theorem qrr:CallR X (.type "list") (fun xs H Q => ∃ p ys,xs=[.ref p]∧(SqL X.K H p ys∨SqT X.K H p ys) ∧ ∀ l,H l=none→Q (.ref l) (upd H l (.lst ys))):=by
 intro pins s σ H xs us Q I r h
 obtain ⟨p,ys,rfl,hq,q⟩:=h
 obtain ⟨u,rfl,rx⟩:=qju r
 cases rx
 have fin : ∀ (its:List Value),Vals ys its→ys.length≤sizeLine → ∀ (h':Heap) (c':Nat),(∀ b o',s.heap.get? b=some o'→h'.get? b=some o') →
  h'.get? s.heap.objs.size=some { cls :=.type "list",dict:=none,data :=.seq its.toArray c',slots := #[] }→EP X pins σ Q (.ref s.heap.objs.size) { s with heap:=h' }:=fun its r' hz h' c' kp e =>
  ⟨.ref s.heap.objs.size,_,I.laid (t':=s.toks) kp (Nat.le_refl _) (show ObjOk X.prog X.w _ h' _ (.lst ys) from ⟨hz,its,c',r',e⟩),rfl,q _ (I.hok.fresh (Nat.le_refl _))⟩
 rcases hq with hq|hq
 ·obtain ⟨its,r',pl,hz⟩:=I.list hq
  have hlen:=r'.length
  obtain ⟨o,ho,hc,n,hd⟩:=pl.isList
  exact call_list_seq p (.inl rfl) ho hc hd (fun h' c' kp e=>fin its r' hz h' c' kp e) (by simp only [List.size_toArray] <;> omega)
 ·obtain ⟨its,r',pl,hz⟩:=I.tuple hq
  have hlen:=r'.length
  obtain ⟨o,ho,hc,n,hd⟩:=pl
  exact call_list_seq p (.inr rfl) ho hc hd (fun h' c' kp e=>fin its r' hz h' c' kp e) (by simp only [List.size_toArray] <;> omega)
theorem qia:CallR X (.type "tuple") (fun xs H Q => ∃ p ys,xs=[.ref p]∧((SqL X.K H p ys ∧ ∀ l,H l=none→Q (.ref l) (upd H l (.tup ys)))∨(SqT X.K H p ys∧Q (.ref p) H))):=by
 intro pins s σ H xs us Q I r h
 obtain ⟨p,ys,rfl,h⟩:=h
 obtain ⟨u,rfl,rx⟩:=qju r
 cases rx
 rcases h with ⟨hq,q⟩|⟨hq,q⟩
 ·obtain ⟨its,r',pl,hz⟩:=I.list hq
  have hlen:=r'.length
  refine call_tuple_list pl.isList (fun h' kp=>?_) (by simp only [List.size_toArray] <;> omega)
  have I1:Inv X pins σ H { s with heap:=h' }:=I.kept (t':=s.toks) kp
  have I2:Inv X pins σ (upd H h'.objs.size (.tup ys)) { s with heap:=h'.push { cls :=.type "tuple",data :=.seq its.toArray } } :=
   I1.laid (t':=s.toks) (fun b o e=>Heap.get?_push_of_some _ e) (Nat.le_refl _) (show ObjOk X.prog X.w _ _ _ (.tup ys) from ⟨hz,its,r',IsTup.new _ _⟩)
  exact ⟨.ref h'.objs.size,_,I2,rfl,q _ (I1.hok.fresh (Nat.le_refl _))⟩
 ·obtain ⟨its,r',pl,hz⟩:=I.tuple hq
  exact call_tuple_same pl ⟨.ref p,H,I,rfl,q⟩
def tyV (K:PySem.W.Frag) (T:String) (x:V) (H:Hp):Prop:=match x with
 | .str _=>T = "str"
 | .int _=>T = "int"
 | .ref p=>(T = "list" ∧ ∃ xs,SqL K H p xs)∨(T = "tuple" ∧ ∃ o,K.lookup p=some o∧o.cls = .type "tuple" ∧ o.dict=none) ∨
  (T = "dict" ∧ ((∃ kvs,H p=some (.dK kvs)) ∨ ∃ kvs,H p=some (.dT kvs)))∨(T = "set" ∧ ∃ S n,H p=some (.set S n))
 | _=>False
theorem zanh {pins:List (Addr×Obj)}{σ:St}{H:Hp}{s:Shared}{T:String}{x:V}{v:Value} (I:Inv X pins σ H s) (r:RelV x v) (ty:tyV X.K T x H) :
 s.TypeIs v T ∧ ∀ a,v = .ref a → ∃ ob,s.heap.get? a=some ob∧ob.dict=none:=by
  cases x with
  | str z =>
   obtain ⟨t,rfl⟩:=r
   cases (show T = "str" from ty)
   exact ⟨typeIs_str s z t,fun _ e=>nomatch e⟩
  | int i =>
   obtain ⟨t,rfl⟩:=r
   cases (show T = "int" from ty)
   exact ⟨typeIs_int s i t,fun _ e=>nomatch e⟩
  | ref p =>
   cases r
   rcases ty with ⟨rfl,xs,hq⟩|⟨rfl,o,hk,hc,hd⟩|⟨rfl,hk⟩|⟨rfl,S,n,hk⟩
   ·obtain ⟨its,_,pl,_⟩:=I.list hq
    refine ⟨pl.isList.typeIs,fun a e=>?_⟩
    cases e
    obtain ⟨o,n,e,c,hd,_⟩:=pl
    exact ⟨o,e,hd⟩
   ·refine ⟨⟨o,I.kIn p o hk,hc⟩,fun a e=>?_⟩
    cases e
    exact ⟨o,I.kIn _ o hk,hd⟩
   ·have z : ∃ o,s.heap.get? p=some o∧o.ExactDict:=by
     rcases hk with ⟨kvs,hk⟩|⟨kvs,hk⟩
     ·obtain ⟨_,_,_,_,o,_,_,e,ex,_⟩:=I.hok p _ hk
      exact ⟨o,e,ex⟩
     ·obtain ⟨_,_,_,_,o,_,_,e,ex,_⟩:=I.hok p _ hk
      exact ⟨o,e,ex⟩
    obtain ⟨o,e,ex⟩:=z
    refine ⟨⟨o,e,ex.1⟩,fun a e2=>?_⟩
    cases e2
    exact ⟨o,e,ex.2.1⟩
   ·obtain ⟨o,_,_,_,e,ex,_⟩:=I.hok p _ hk
    refine ⟨⟨o,e,ex.1⟩,fun a e2=>?_⟩
    cases e2
    exact ⟨o,e,ex.2.1⟩
  | _=>exact False.elim ty
def tBM (K:PySem.W.Frag) (T:String) (r:V→List V→Hp→VK→Prop) (to:TE) (t:TA):TE:=fun σ H Q=>to σ H fun x H1=>tyV K T x H1∧t σ H1 fun xs H2=>r x xs H2 Q
variable {o e:Expr}{es:List Expr}{to:TE}{t:TA}{name:Str}{apos cpos:Pos}{T id:String}{r:V→List V→Hp→VK→Prop}
theorem qwi (pa:PlainAttrs T) (slot:Slot T name id) (hty:typeOf (.builtin id)=pure (.type "method_descriptor")) (hm:MtR X id r) (ho:PE X o to) (ha:PA X (e::es) t)
 (hbase:attributeBase o name X.env (eval o X.env)=eval o X.env:=by rfl)
  (hfew:((backTo cpos (starEach (e::es) X.env)).all (fun x => !x.1)&&(backToKw cpos (keywordEach [] X.env)).all (fun x=>x.1.isSome)
   && decide ((e::es).length+([]:List Keyword).length+(if ([]:List Keyword).isEmpty then 0 else 1)<30))=true:=by rfl)
  (hline:(apos.endLine==cpos.line)=true:=by rfl) (hs:starEach (e::es) X.env=(false,eval e X.env)::starEach es X.env:=by rfl) (hplain:(backTo cpos (starEach es X.env)).any (·.1)=false:=by rfl) :
  PE X (.Call (.Attribute o name apos) (e::es) [] cpos) (tBM X.K T r to t):=by
  intro pins s σ H Q I h
  refine wpAny_Call_method_late hbase hfew hline rfl (thn (ho pins s σ H _ I h) fun v s1 xx49=>?_)
  obtain ⟨x,H1,I1,r1,ty,q1⟩:=xx49
  obtain ⟨h1,h2⟩:=zanh I1 r1 ty
  refine ⟨T,id,pa,slot,hty,h1,h2,?_⟩
  have hA:=ha cpos pins s1 σ H1 _ I1 q1
  rw [hs] at hA ⊢
  refine Calls.callWith_builtin (by show (false||(backTo cpos (starEach es X.env)).any (·.1))=false;rw [hplain] <;> rfl) (Calls.evalArgs_plain ?_)
  exact thn hA fun us s2 xx48=>by obtain ⟨vs,H2,I2,r2,q2⟩:=xx48;exact hm pins s2 σ H2 x vs v us Q I2 r1 r2 q2
/- xs.append(e),list.index on a module's tuple .. are MtR facts of 06m -/
end
end L2
namespace L2
open PySem PySem.Spec PyProof.Rows
def MtM (X:Cx) (id:String) (r:V→List V→Hp→VK→Prop):Prop :=
 ∀ (pins:List (Addr×Obj)) (s:Shared) (σ:St) (H:Hp) (x:V) (xs:List V) (v:Value) (us:List Value) (Q:VK),Inv X pins σ H s→RelV x v→Vals xs us→r x xs H Q →
  wpAny (model X.prog X.w) X.A (call (.builtin id) (v::us)) (EP X pins σ Q) X.xe s
theorem Vals.one : ∀ {x:V}{us:List Value},Vals [x] us → ∃ u,us=[u]∧RelV x u
 | _,_,.cons r .nil=>⟨_,rfl,r⟩
theorem Vals.two : ∀ {x y:V}{us:List Value},Vals [x,y] us → ∃ u v,us=[u,v]∧RelV x u∧RelV y v
 | _,_,_,.cons r (.cons q .nil)=>⟨_,_,rfl,r,q⟩
theorem Vals.eraseIdx : ∀ {xs:List V}{us:List Value} (i:Nat),Vals xs us→Vals (xs.eraseIdx i) (us.eraseIdx i)
 | _,_,_,.nil => .nil
 | _,_,0,.cons _ t=>t
 | _,_,i+1,.cons r t => .cons r (Vals.eraseIdx i t)
theorem Vals.rep {xs:List V}{us:List Value} (h:Vals xs us) : ∀ k:Nat,Vals (List.replicate k xs).flatten (List.replicate k us).flatten
 | 0 => .nil
 | k+1=>by
  rw [List.replicate_succ,List.replicate_succ,List.flatten_cons,List.flatten_cons]
  exact Vals.append h (Vals.rep h k)
theorem qqs {α:Type} : ∀ (l:List α) (i:Nat),(l.eraseIdx i).length≤l.length
 | [],_=>Nat.le_refl _
 | _::_,0=>Nat.le_succ _
 | _::r,i+1=>Nat.succ_le_succ (qqs r i)
section
variable {X:Cx}{pins:List (Addr×Obj)}{σ:St}{H:Hp}{s:Shared}{l b:Addr}{xs ys zs:List V}
theorem Inv.lset {its its':List Value}{n:Nat}{f:Array Value→Array Value}{t':Nat} (I:Inv X pins σ H s) (hH:H l=some (.lst xs))
 (e:s.heap.get? l=some { cls :=.type "list",data :=.seq its.toArray n }) (hf:f its.toArray=its'.toArray) (hv:Vals ys its') (hz:ys.length≤sizeLine) :
  Inv X pins σ (upd H l (.lst ys)) { s with heap:=s.heap.update l (Obj.mapSeq f),toks:=t' }:=by
  have q:=PySem.IsL.update e f
  rw [hf] at q
  refine I.write (x:=l) (e:=l) (by rw [hH];exact trivial) (.inl rfl) (fun b' u hb hu=>(Heap.get?_update_other s.heap (Obj.mapSeq f) (Ne.symm hb)).trans hu) ⟨_,q⟩ ?_
  exact ⟨hz,its',_,hv,q⟩
theorem Inv.lnew {its:List Value}{t':Nat} (I:Inv X pins σ H s) (hv:Vals ys its) (hz:ys.length≤sizeLine) :
 Inv X pins σ (upd H s.heap.objs.size (.lst ys)) { s with heap:=s.heap.push { cls :=.type "list",data :=.seq its.toArray },toks:=t' } :=
  I.laid (fun _ _ q=>Heap.get?_push_of_some _ q) (Nat.le_refl _) ⟨hz,its,0,hv,Heap.get?_push_size _ rfl⟩
theorem Inv.fresh (I:Inv X pins σ H s):H s.heap.objs.size=none:=I.hok.fresh (Nat.le_refl _)
theorem Inv.lstM (I:Inv X pins σ H s) (hH:H l=some (.lst xs)):xs.length≤sizeLine ∧ ∃ (its:List Value) (n:Nat),Vals xs its∧xs.length=its.length∧s.heap.get? l=some { cls :=.type "list",data :=.seq its.toArray n }:=by
 obtain ⟨z,its,n,r,e⟩:=I.hok l _ hH
 exact ⟨z,its,n,r,r.length,e⟩
theorem zafp {n:Nat} (h:n≤sizeLine):Builtin.List.listTooLong n=false:=by
 unfold Builtin.List.listTooLong
 exact decide_eq_false (by omega)
end
section
variable {X:Cx}
def qru:V→List V→Hp→VK→Prop:=fun x vs H Q => ∃ l xs y,x = .ref l∧vs=[y]∧H l=some (.lst xs)∧xs.length<sizeLine∧Q .non (upd H l (.lst (xs++[y])))
theorem zaar:MtM X "list.append" qru:=by
 intro pins s σ H x vs v us Q I rx rv h
 obtain ⟨l,xs,y,rfl,rfl,hH,hz,q⟩:=h
 cases rx
 obtain ⟨u,rfl,ru⟩:=rv.one
 obtain ⟨z,its,n,r,hl,e⟩:=I.lstM hH
 refine call_meets F.slot_list_append ⟨_,e,rfl⟩ F.entry_list_append (F.args_list_append_2 _ _) (PySem.list_append l its.toArray n u (by rw [List.size_toArray];omega)) ⟨e,?_⟩
 refine ⟨.non,_,I.lset (its':=its++[u]) hH e (by simp) (r.append (.cons ru .nil)) ?_,rfl,q⟩
 rw [List.length_append,List.length_singleton]
 omega
def zaix:V→List V→Hp→VK→Prop:=fun x vs H Q => ∃ l b xs zs,x = .ref l∧vs=[.ref b]∧H l=some (.lst xs)∧H b=some (.lst zs)∧xs.length+zs.length≤sizeLine∧Q .non (upd H l (.lst (xs++zs)))
theorem zabw:MtM X "list.extend" zaix:=by
 intro pins s σ H x vs v us Q I rx rv h
 obtain ⟨l,b,xs,zs,rfl,rfl,hH,hB,hz,q⟩:=h
 cases rx
 obtain ⟨u,rfl,ru⟩:=rv.one
 cases ru
 obtain ⟨z,its,n,r,hl,e⟩:=I.lstM hH
 obtain ⟨z2,its2,n2,r2,hl2,e2⟩:=I.lstM hB
 have hsz:its.toArray.size+its2.toArray.size≤sizeLine:=by rw [List.size_toArray,List.size_toArray];omega
 have hlong : ¬ (!its.toArray.isEmpty&&Builtin.List.listTooLong (its.toArray.size+its2.toArray.size))=true:=by
  rw [zafp hsz,Bool.and_false]
  exact Bool.false_ne_true
 refine call_meets F.slot_list_extend ⟨_,e,rfl⟩ F.entry_list_extend (F.args_list_extend_2 _ _)
  (AutoSeq1.list_extend_list_list_0 l its.toArray n b its2.toArray n2 hlong (by rw [List.size_toArray];omega) (by omega)) ⟨e,e2,?_⟩
 refine ⟨.non,_,I.lset (its':=its++its2) hH e (by simp) (r.append r2) ?_,rfl,q⟩
 rw [List.length_append]
 omega
def zanc:V→List V→Hp→VK→Prop:=fun x vs H Q => ∃ l xs i k y,x = .ref l∧vs=[.int i]∧H l=some (.lst xs) ∧ -(2^63)≤i∧i<2^63∧seqIndex? i xs.length=some k∧xs[k]?=some y∧Q y (upd H l (.lst (xs.eraseIdx k)))
theorem zafn:MtM X "list.pop" zanc:=by
 intro pins s σ H x vs v us Q I rx rv h
 obtain ⟨l,xs,i,k,y,rfl,rfl,hH,h1,h2,hk,hy,q⟩:=h
 cases rx
 obtain ⟨u,rfl,ru⟩:=rv.one
 obtain ⟨t,rfl⟩:=ru
 obtain ⟨z,its,n,r,hl,e⟩:=I.lstM hH
 obtain ⟨w,hw,rw'⟩:=r.get hy
 refine call_meets F.slot_list_pop ⟨_,e,rfl⟩ F.entry_list_pop (F.args_list_pop_2 _ _)
  (MeetsSeq.list_pop_at l its.toArray n i t k w (fitsIndex_both h1 h2) (by rw [List.size_toArray,← hl];exact hk) (by rw [← Array.getElem?_toList];exact hw) (by rw [List.size_toArray];omega)) ⟨e,?_⟩
 refine ⟨y,_,I.lset (its':=its.eraseIdx k) hH e ?_ (r.eraseIdx k) ?_,rw',q⟩
 ·show its.toArray.eraseIdxIfInBounds k=(its.eraseIdx k).toArray
  rw [List.eraseIdxIfInBounds_toArray]
 ·have:=qqs xs k
  omega
end
section
variable {prog:Program}{w:World}{A:Around}{E:Value→Shared→Prop}{s:Shared}
set_option maxRecDepth 100000 in
end
section
variable {X:Cx}
end
end L2
namespace Att
open PySem PySem.W PySem.Calls PyProof.Rows
theorem qma {P:Params}{h:Heap} : ∀ (ns:List Int) (vs:List Value),WellAll P h vs (ns.map WData.int)→IntsAre vs ns:=by
 intro ns
 induction ns with
 | nil =>
  intro vs w
  rw [List.map_nil] at w
  cases w
  exact .nil
 | cons n ns ih =>
  intro vs w
  rw [List.map_cons] at w
  cases w with
  | cons a b =>
   cases a
   exact .cons _ _ (ih _ b)
theorem zabt {l:OpenLaw}{n:Nat} (hn:l.most=some n) {P:Params}{h:Heap}{args:List WData}{vals:List Value}
 (hpre:l.row.toRowW.claim.pre args=true) (hwl:WellAll P h vals args) :
 ∃ a vs ns,vals=[Value.ref a]∧args=[WData.list (ns.map WData.int)]∧h.get? a=some { cls :=.type "list",data :=.seq vs.toArray }∧IntsAre vs ns∧ns.length≤n:=by
  have hsh:WShape.hasAll [] args [.list .int]=true:=(pre_splitW hpre).1
  have hc:l.pre.holds [] { args:=args }=true:=(pre_splitW hpre).2
  obtain ⟨d,r,rfl,h1,h2⟩:=hasAllW_cons hsh
  obtain rfl:=hasAllW_nil h2
  obtain ⟨xs,rfl,h3⟩:=hasW_list h1
  obtain ⟨ns,rfl⟩:=items_int h3
  have hlen:ns.length≤n:=by
   unfold OpenLaw.pre at hc
   have h4:(WTm.not (.lt (.lit (.int (n:Int))) (.len (.arg 0)))).holds [] { args:=[.list (ns.map .int)] }=true:=by
    have h4:=(holds_andW hc).1
    rw [hn] at h4
    exact h4
   have h5:=condW_of h4 (w_not (w_lt w_lit (w_len_list (w_arg rfl))))
   rw [List.length_map] at h5
   refine Nat.le_of_not_lt fun q=>?_
   have q':(n:Int)<((ns.length:Nat):Int):=by omega
   first
    | (rw [decide_eq_true q'] at h5;exact absurd h5 (by decide))
    | (simp at h5;omega)
  cases hwl with
  | cons w1 w2 =>
   cases w2
   cases w1 with
   | list ho hall=>exact ⟨_,_,ns,rfl,rfl,ho,qma ns _ hall,hlen⟩
theorem zaaw (l:OpenLaw) (args:List WData):l.row.toRowW.claim.post args (.bool true) args=true :=
 postW_of (r:=l.row.toRowW) (X:=(true==true))
  (show WShape.has [] (.bool true) .bool=true by first|rfl|decide|simp [WShape.has,WShape.arms,WShape.armsAll])
  (show (WTm.eq .res (.lit (.bool true))).value [] { args:=args,res:=some (.bool true),after:=args }=some (.bool (true==true)) from w_eq_bool (w_res rfl) w_lit) rfl
theorem attach_call {l:OpenLaw}{n:Nat}{q:Program}{loose:List Str}{XP:(Str→Option Value)→Heap→Prop}{YP:World→Heap→Prop}{d:DefRec}
 (hn:l.most=some n) (hdf:d.params.defaults=[])
 (call : ∀ (w:World) (s₀ s₁:Shared) (mg mb:Str→Option Value) (fa:Addr) (o:Obj) (pm cd doc:Value) (a:Addr) (vs:List Value) (ns:List Int),
 Ground q loose [] XP w s₀ mg mb s₁.heap→YP w s₁.heap →
 s₁.heap.get? fa=some o→o.data = .func (docDef d.name d.params d.body d.scope pm cd doc)→s₁.heap.CodeRec cd d.name→mg d.name=some (.ref fa) →
 s₁.heap.get? a=some { cls :=.type "list",data :=.seq vs.toArray }→IntsAre vs ns→ns.length≤n→s₁.gens = #[] →
  codeAny (model l.prog w) callerA (.call (.ref fa) ⟨[.ref a],[]⟩) (fun r s'=>r = .ok (.ret (.bool true))∧OldK s₁.heap s'.heap∧s'.os=s₁.os∧AllBare s'.gens) s₁) :
  WalkO q loose XP YP l.row.toRowW d [] (fun f vs=>PySem.call f vs):=by
  intro w s₀ s₁ mg mb G Y fa o pm cd doc dV kV ho hd hcd hD hmg hg args vals as hpre hlay hrd hwl hlo
  obtain rfl:dV = .none:=Dflts.none hD hdf
  obtain rfl:kV = .none:=Dflts.noKw hD
  obtain ⟨a,vs,ns,rfl,rfl,hobj,hints,hlen⟩:=zabt hn hpre hwl
  refine enter_call (codeAny_mono (call w s₀ s₁ mg mb fa o pm cd doc a vs ns G Y ho (fd_plain hd) hcd hmg hobj hints hlen hg) fun r s' hq=>?_)
  obtain ⟨rfl,h2,h3,h4⟩:=hq
  exact ⟨.inl ⟨.bool true,.bool true,[],rfl,fun _=>rfl,.bool true,zaaw l _,fun _=>⟨List.Pairwise.nil,fun _ hm=>(nomatch hm)⟩⟩,h2,h3,h4⟩
section
variable {prog:Program}{w:World}{A:Around}{E:Value→Shared→Prop}{s:Shared}{K:Frag}
end
end Att
namespace L2
open PySem PySem.Spec PyProof.Rows
theorem qko : ∀ {vs:List Value}{ns:List Int},IntsAre vs ns→Vals (ns.map V.int) vs
 | _,_,.nil => .nil
 | _,_,.cons n t h => .cons ⟨t,rfl⟩ (qko h)
end L2
namespace L2
open PySem PySem.Spec PyProof.Rows
end L2
namespace L2
open PySem PySem.Spec PyProof.Rows
def defArgs (s:Stmt):Arguments:=match s with
 | .FunctionDef _ a _ _ _ _ _ _ _ _=>a
 | _=>{ posonlyargs:=[],args:=[],vararg:=none,kwonlyargs:=[],kw_defaults:=[],kwarg:=none,defaults:=[] }
def defBody (s:Stmt):List Stmt:=match s with
 | .FunctionDef _ _ b _ _ _ _ _ _ _=>b
 | _=>[]
def defScope (s:Stmt):Scope:=match s with
 | .FunctionDef _ _ _ _ _ _ sc _ _ _=>sc
 | _=>{ kind :=.function,names:=[],isGenerator:=false,isCoroutine:=false }
abbrev CX0:CXT:=fun _ _ _ _ _ _=>False
abbrev E0:XK:=fun _ _ _=>False
theorem zaqq {X:Cx}:qxq CX0 X E0:=fun _ _ _ _ _ _ _ h=>h.elim
structure Fun (K:PySem.W.Frag) (x qual:Str) (st:Stmt) (f:Addr) (fd:FuncData):Prop where
 ex : ∃ (oc:Value) (od:Option Addr) (kV doc pm:Value) (an:Option Addr) (cdv ct:Value) (osl:Array (Option Value)),
  fd=PySem.W.fnOf x qual (defArgs st) (defBody st) (defScope st) .none kV doc pm an cdv ct∧K.lookup f=some ⟨oc,od,.func fd,osl⟩∧PySem.W.codeIn K cdv qual=true
 kp:PySem.W.keepIn K (.ref f)=true
section
variable {P:Program}{w:World}{K:PySem.W.Frag}{mg:Str→Option Value}{base:Heap}
theorem Fun.ok {x qual:Str}{st:Stmt}{f:Addr}{fd:FuncData}{N ps:List Str}{k:Nat}{sp:Sp} (F:Fun K x qual st f fd) (S:FnScope N ps (defScope st)) (len : ∀ vs H Q E,sp vs H Q E→vs.length=ps.length)
 (hbody : ∀ (cdv:Value) (A:Around) (outer:List Env) (s:Shared) (H:Hp) (vs:List V) (Q:VK) (E:XK),Room k (A.deeper (envOfC qual (defScope st) s.heap.objs.size f cdv))→sp vs H Q E →
 ∃ t,PSs (qpv CX0 P w K mg base N qual (defScope st) f cdv A outer s H E).nox (defBody st) t∧t { nx:=fun _ H'=>Q .non H',rt:=Q } (start N vs) H):FnOk P w K mg base CX0 (k+1) f fd ps sp:=by
  obtain ⟨oc,od,kV,doc,pm,an,cdv,ct,osl,rfl,lk,hcd⟩:=F.ex
  refine zalt lk hcd S len fun A outer s H vs Q E hr hsp=>?_
  obtain ⟨t,h,q⟩:=hbody cdv A outer s H vs Q E hr hsp
  exact ⟨t,h.nox,q⟩
theorem Fun.binds {x qual:Str}{st:Stmt}{f:Addr}{fd:FuncData}{ps:List Str} (F:Fun K x qual st f fd)
 (h : ∀ (kV doc pm:Value) (an:Option Addr) (cdv ct:Value) (us:List Value),us.length=ps.length→bindArgs (PySem.W.fnOf x qual (defArgs st) (defBody st) (defScope st) .none kV doc pm an cdv ct) ⟨us,[]⟩=pure (ps.zip us)):Binds K fd ps []:=by
  obtain ⟨oc,od,kV,doc,pm,an,cdv,ct,osl,rfl,lk,hcd⟩:=F.ex
  exact .all (h kV doc pm an cdv ct)
theorem qxl {x qual:Str}{st:Stmt}{f:Addr}{oc:Value}{od an:Option Addr}{osl:Array (Option Value)}{kV doc pm cdv ct:Value} (l:K.lookup f=some ⟨oc,od,.func (PySem.W.fnOf x qual (defArgs st) (defBody st) (defScope st) .none kV doc pm an cdv ct),osl⟩)
 (c:PySem.W.codeIn K cdv qual=true) (k:PySem.W.keepIn K (.ref f)=true):Fun K x qual st f (PySem.W.fnOf x qual (defArgs st) (defBody st) (defScope st) .none kV doc pm an cdv ct):=⟨⟨oc,od,kV,doc,pm,an,cdv,ct,osl,rfl,l,c⟩,k⟩
end
theorem qk {n:Nat} (h:n≤1000):n<sizeLine:=Nat.lt_of_le_of_lt h (by decide)
section
variable {X:Cx}
end
theorem qvr {A B:Prop} (h:B):if false=true then A else B:=by
 rw [if_neg Bool.false_ne_true]
 exact h
theorem qsc {A B:Prop} (h:A):if true=true then A else B:=by
 rw [if_pos rfl]
 exact h
def Same (H H':Hp):Prop := ∀ b o,H b=some o→H' b=some o
theorem Same.refl (H:Hp):Same H H:=fun _ _ h=>h
theorem Same.trans {H H1 H2:Hp} (a:Same H H1) (b:Same H1 H2):Same H H2:=fun c o h=>b c o (a c o h)
theorem Same.free {H H':Hp} (e:Same H H') {l:Addr} (h:H' l=Option.none):H l=Option.none:=by
 cases q:H l with
 | none=>rfl
 | some o =>
  rw [e l o q] at h
  cases h
theorem Same.seq {K:PySem.W.Frag}{H H':Hp}{a:Addr}{xs:List V} (e:Same H H') (h:SqL K H a xs):SqL K H' a xs:=by
 rcases h with (h|⟨o,h⟩)|h
 ·exact .inl (.inl (e _ _ h))
 ·exact .inl (.inr ⟨o,e _ _ h⟩)
 ·exact .inr h
end L2
namespace L2
open PySem PySem.Spec PyProof.Rows
mutual
def Is (K:PySem.W.Frag) (H:Hp):PyData→V→Prop
 | .none,v=>v = .non
 | .bool b,v=>v = .bl b
 | .int i,v=>v = .int i
 | .str x,v=>v = .str x
 | .list l,v => ∃ a xs,v = .ref a∧SqL K H a xs∧Iss K H l xs
 | .tuple l,v => ∃ a xs,v = .ref a∧SqT K H a xs∧Iss K H l xs
 | .dict l,v => ∃ a kvs,v = .ref a∧H a=some (.dK kvs)∧(!l.isEmpty) = !kvs.isEmpty
def Iss (K:PySem.W.Frag) (H:Hp):List PyData→List V→Prop
 | [],xs=>xs=[]
 | d::l,xs => ∃ x r,xs=x::r∧Is K H d x∧Iss K H l r
end
theorem zakd {H H':Hp}{a:Addr}{u:HO} (s:Same H H') (h:Rd H a u):Rd H' a u:=by
 rcases h with h|⟨o,h⟩
 ·exact .inl (s _ _ h)
 ·exact .inr ⟨o,s _ _ h⟩
theorem qK {K:PySem.W.Frag}{H H':Hp}{a:Addr}{xs:List V} (s:Same H H') (h:SqT K H a xs):SqT K H' a xs:=by
 rcases h with h|h
 ·exact .inl (zakd s h)
 ·exact .inr h
theorem qcx {H:Hp}{p:Addr}{o:HO} (h:H p=none):Same H (upd H p o):=fun b u e=>by
 rw [qj (qq e h)];exact e
mutual
theorem Is.mono {K:PySem.W.Frag}{H H':Hp} (s:Same H H') : ∀ {d:PyData}{v:V},Is K H d v→Is K H' d v
 | .none,_,h=>by unfold Is at h ⊢;exact h
 | .bool _,_,h=>by unfold Is at h ⊢;exact h
 | .int _,_,h=>by unfold Is at h ⊢;exact h
 | .str _,_,h=>by unfold Is at h ⊢;exact h
 | .list l,_,h=>by
  unfold Is at h ⊢
  obtain ⟨a,xs,e,q,r⟩:=h
  exact ⟨a,xs,e,s.seq q,Iss.mono s r⟩
 | .tuple l,_,h=>by
  unfold Is at h ⊢
  obtain ⟨a,xs,e,q,r⟩:=h
  exact ⟨a,xs,e,qK s q,Iss.mono s r⟩
 | .dict _,_,h=>by
  unfold Is at h ⊢
  obtain ⟨a,kvs,e,q,m⟩:=h
  exact ⟨a,kvs,e,s _ _ q,m⟩
theorem Iss.mono {K:PySem.W.Frag}{H H':Hp} (s:Same H H') : ∀ {l:List PyData}{xs:List V},Iss K H l xs→Iss K H' l xs
 | [],_,h=>by unfold Iss at h ⊢;exact h
 | d::l,_,h=>by
  unfold Iss at h ⊢
  obtain ⟨x,r,e,p,q⟩:=h
  exact ⟨x,r,e,Is.mono s p,Iss.mono s q⟩
end
section
variable {K:PySem.W.Frag}{H H':Hp}
theorem zagy:Is K H .none .non:=by unfold Is;rfl
theorem qfa (b:Bool):Is K H (.bool b) (.bl b):=by unfold Is;rfl
theorem qab (i:Int):Is K H (.int i) (.int i):=by unfold Is;rfl
theorem zamr (x:Str):Is K H (.str x) (.str x):=by unfold Is;rfl
theorem qfh {a:Addr}{xs:List V}{l:List PyData} (h:SqL K H a xs) (r:Iss K H l xs):Is K H (.list l) (.ref a):=by unfold Is;exact ⟨a,xs,rfl,h,r⟩
theorem qmm {a:Addr}{xs:List V}{l:List PyData} (h:SqT K H a xs) (r:Iss K H l xs):Is K H (.tuple l) (.ref a):=by unfold Is;exact ⟨a,xs,rfl,h,r⟩
theorem qS:Iss K H [] []:=by unfold Iss;rfl
theorem qB {d:PyData}{l:List PyData}{x:V}{xs:List V} (h:Is K H d x) (r:Iss K H l xs):Iss K H (d::l) (x::xs):=by unfold Iss;exact ⟨x,xs,rfl,h,r⟩
theorem Is.bl_inv {b:Bool}{v:V} (h:Is K H (.bool b) v):v = .bl b:=by unfold Is at h;exact h
theorem Is.int_inv {i:Int}{v:V} (h:Is K H (.int i) v):v = .int i:=by unfold Is at h;exact h
theorem Is.non_inv {v:V} (h:Is K H .none v):v = .non:=by unfold Is at h;exact h
theorem Is.lst_inv {l:List PyData}{v:V} (h:Is K H (.list l) v) : ∃ a xs,v = .ref a∧SqL K H a xs∧Iss K H l xs:=by unfold Is at h;exact h
theorem Is.tup_inv {l:List PyData}{v:V} (h:Is K H (.tuple l) v) : ∃ a xs,v = .ref a∧SqT K H a xs∧Iss K H l xs:=by unfold Is at h;exact h
theorem Is.dct_inv {l:List (PyData×PyData)}{v:V} (h:Is K H (.dict l) v) : ∃ a kvs,v = .ref a∧H a=some (.dK kvs)∧(!l.isEmpty) = !kvs.isEmpty:=by unfold Is at h;exact h
theorem Iss.nil_inv {xs:List V} (h:Iss K H [] xs):xs=[]:=by unfold Iss at h;exact h
theorem Iss.cons_inv {d:PyData}{l:List PyData}{xs:List V} (h:Iss K H (d::l) xs) : ∃ x r,xs=x::r∧Is K H d x∧Iss K H l r:=by unfold Iss at h;exact h
theorem Iss.len : ∀ {l:List PyData}{xs:List V},Iss K H l xs→xs.length=l.length
 | [],_,h=>by rw [h.nil_inv];rfl
 | d::l,_,h=>by
  obtain ⟨x,r,rfl,_,q⟩:=h.cons_inv
  simp [Iss.len q]
theorem Iss.get : ∀ {l:List PyData}{xs:List V}{i:Nat}{d:PyData},Iss K H l xs→l[i]?=some d → ∃ x,xs[i]?=some x∧Is K H d x
 | [],_,i,d,h,e=>by simp at e
 | d'::l,_,0,d,h,e=>by
  obtain ⟨x,r,rfl,p,q⟩:=h.cons_inv
  simp at e;subst e
  exact ⟨x,rfl,p⟩
 | d'::l,_,i+1,d,h,e=>by
  obtain ⟨x,r,rfl,p,q⟩:=h.cons_inv
  obtain ⟨y,e1,e2⟩:=Iss.get q (show l[i]?=some d by simpa using e)
  exact ⟨y,by simpa using e1,e2⟩
theorem Iss.get' : ∀ {l:List PyData}{xs:List V}{i:Nat}{x:V},Iss K H l xs→xs[i]?=some x → ∃ d,l[i]?=some d∧Is K H d x:=fun {l xs i x} h e=>by
 have hl:=h.len
 have hi:i<xs.length:=(List.getElem?_eq_some_iff.mp e).1
 obtain ⟨d,hd⟩ : ∃ d,l[i]?=some d:=⟨l[i]'(by omega),List.getElem?_eq_getElem _⟩
 obtain ⟨y,e1,e2⟩:=h.get hd
 rw [e] at e1;cases e1
 exact ⟨d,hd,e2⟩
theorem qal : ∀ {l m:List PyData}{xs ys:List V},Iss K H l xs→Iss K H m ys→Iss K H (l++m) (xs++ys)
 | [],m,_,ys,h,h'=>by rw [h.nil_inv];exact h'
 | d::l,m,_,ys,h,h'=>by
  obtain ⟨x,r,rfl,p,q⟩:=h.cons_inv
  exact qB p (qal q h')
theorem qvd : ∀ {l:List PyData}{xs:List V} (n:Nat),Iss K H l xs→Iss K H (l.take n) (xs.take n)
 | _,_,0,_=>qS
 | [],_,n+1,h=>by rw [h.nil_inv];exact qS
 | d::l,_,n+1,h=>by
  obtain ⟨x,r,rfl,p,q⟩:=h.cons_inv
  exact qB p (qvd n q)
theorem quj : ∀ {l:List PyData}{xs:List V} (n:Nat),Iss K H l xs→Iss K H (l.drop n) (xs.drop n)
 | _,_,0,h=>h
 | [],_,n+1,h=>by rw [h.nil_inv];exact qS
 | d::l,_,n+1,h=>by
  obtain ⟨x,r,rfl,p,q⟩:=h.cons_inv
  exact quj n q
theorem qjs : ∀ ns:List Int,Iss K H (ns.map .int) (ns.map V.int)
 | []=>qS
 | n::ns=>qB (qab n) (qjs ns)
theorem Iss.ints_inv : ∀ {ns:List Int}{xs:List V},Iss K H (ns.map .int) xs→xs=ns.map V.int
 | [],_,h=>h.nil_inv
 | n::ns,_,h=>by
  obtain ⟨x,r,rfl,p,q⟩:=h.cons_inv
  rw [p.int_inv,Iss.ints_inv q];rfl
end
section
variable {X:Cx}{pins:List (Addr×Obj)}{σ:St}{H:Hp}{s:Shared}
mutual
theorem Is.reads (I:Inv X pins σ H s) : ∀ {d:PyData}{x:V}{u:Value},d.canLay0=true→Is X.K H d x→RelV x u → ∃ as,Reads s.heap u d as
 | .none,_,u,_,h,r=>by
  rw [h.non_inv] at r;cases r;exact ⟨_,.none⟩
 | .bool b,_,u,_,h,r=>by
  rw [h.bl_inv] at r;cases r;exact ⟨_,.bool b⟩
 | .int i,_,u,_,h,r=>by
  rw [h.int_inv] at r;obtain ⟨t,rfl⟩:=r;exact ⟨_,.int i t⟩
 | .str x,_,u,_,h,r=>by
  unfold Is at h
  subst h
  obtain ⟨t,rfl⟩:=r;exact ⟨_,.str x t⟩
 | .list l,_,u,z,h,r=>by
  obtain ⟨a,xs,rfl,q,p⟩:=h.lst_inv
  cases r
  obtain ⟨its,rv,pl,_⟩:=I.list q
  obtain ⟨o,ho,hc,n,hd⟩:=pl.isList
  obtain ⟨as,ra⟩:=Iss.reads I (by simpa [PyData.canLay0] using z) p rv
  exact ⟨_,.list ho hc hd (by rw [List.toList_toArray];exact ra)⟩
 | .tuple l,_,u,z,h,r=>by
  obtain ⟨a,xs,rfl,q,p⟩:=h.tup_inv
  cases r
  obtain ⟨its,rv,pl,_⟩:=I.tuple q
  obtain ⟨o,ho,hc,n,hd⟩:=pl
  obtain ⟨as,ra⟩:=Iss.reads I (by simpa [PyData.canLay0] using z) p rv
  exact ⟨_,.tuple ho hc hd (by rw [List.toList_toArray];exact ra)⟩
 | .dict _,_,u,z,h,r=>by simp [PyData.canLay0] at z
theorem Iss.reads (I:Inv X pins σ H s) : ∀ {l:List PyData}{xs:List V}{us:List Value},PyData.canLayAll0 l=true→Iss X.K H l xs→Vals xs us → ∃ as,ReadsAll s.heap us l as
 | [],_,us,_,h,r=>by
  rw [h.nil_inv] at r;cases r;exact ⟨_,.nil⟩
 | d::l,_,us,z,h,r=>by
  have z':d.canLay0=true∧PyData.canLayAll0 l=true:=by simpa [PyData.canLayAll0] using z
  obtain ⟨x,y,rfl,p,q⟩:=h.cons_inv
  cases r with
  | cons r1 r2 =>
   obtain ⟨as,ra⟩:=Is.reads I z'.1 p r1
   obtain ⟨bs,rb⟩:=Iss.reads I z'.2 q r2
   exact ⟨_,.cons ra rb⟩
end
end
section
variable {X:Cx}
def rEqD (K:PySem.W.Frag):R2:=fun x y H Q => ∃ d e,Is K H d x∧Is K H e y∧SeqAt.shaped d=true∧SeqAt.shaped e=true∧Q (.bl (PyData.eqv d e)) H
def rNeD (K:PySem.W.Frag):R2:=fun x y H Q => ∃ d e,Is K H d x∧Is K H e y∧SeqAt.shaped d=true∧SeqAt.shaped e=true∧Q (.bl (!PyData.eqv d e)) H
theorem zand (hu:X.A.units+64<cLine):OpR X (compareOp .Eq) (rEqD X.K):=by
 intro pins s σ H x y v u Q I rx ry h
 obtain ⟨d,e,h1,h2,z1,z2,q⟩:=h
 obtain ⟨as,ra⟩:=Is.reads I (Bool.and_eq_true_iff.mp z1).1 h1 rx
 obtain ⟨bs,rb⟩:=Is.reads I (Bool.and_eq_true_iff.mp z2).1 h2 ry
 exact SeqAt.compareEq_shaped ra rb z1 z2 hu ⟨.bl (PyData.eqv d e),H,I,rfl,q⟩
theorem zaok (hu:X.A.units+64<cLine):OpR X (compareOp .NotEq) (rNeD X.K):=by
 intro pins s σ H x y v u Q I rx ry h
 obtain ⟨d,e,h1,h2,z1,z2,q⟩:=h
 obtain ⟨as,ra⟩:=Is.reads I (Bool.and_eq_true_iff.mp z1).1 h1 rx
 obtain ⟨bs,rb⟩:=Is.reads I (Bool.and_eq_true_iff.mp z2).1 h2 ry
 exact SeqAt.compareNe_shaped ra rb z1 z2 hu ⟨.bl (!PyData.eqv d e),H,I,rfl,q⟩
theorem zaiy:OpR X (binaryOp .Mult) (rI IntMulOk fun i j => .int (i*j)):=opI fun _ _ _ _ _ _ _ hc q=>mul_int q hc
def zamc (_ j:Int):Prop:=j≠0∧Builtin.Int.intBits j≤9000
theorem qul:OpR X (binaryOp .FloorDiv) (rI zamc fun i j => .int (i.fdiv j)):=opI fun i j _ _ _ _ _ hc q=>by
 refine floordiv_int hc.1 q (.inl (PyProof.noPylong_of_log2 ?_))
 have h:=hc.2
 unfold Builtin.Int.intBits at h
 rw [if_neg (by simpa using hc.1)] at h
 omega
def zapv (K:PySem.W.Frag):R2:=fun x y H Q => ∃ a b xs zs,x = .ref a∧y = .ref b∧SqL K H a xs∧SqL K H b zs∧xs.length+zs.length≤sizeLine ∧
 ∀ p,H p=none→Q (.ref p) (upd H p (.lst (xs++zs)))
theorem qzf:OpR X (binaryOp .Add) (zapv X.K):=by
 intro pins s σ H x y v u Q I rx ry h
 obtain ⟨a,b,xs,zs,rfl,rfl,hA,hB,hz,q⟩:=h
 cases rx
 cases ry
 obtain ⟨its,r,pl,z1⟩:=I.list hA
 obtain ⟨its2,r2,pl2,z2⟩:=I.list hB
 have l1:=r.length
 have l2:=r2.length
 obtain ⟨⟨cls,dd,data,sl⟩,ho,hc,n,hd⟩:=pl.isList
 obtain ⟨⟨cls2,dd2,data2,sl2⟩,ho2,hc2,n2,hd2⟩:=pl2.isList
 simp only at hc hd hc2 hd2
 subst hc hd hc2 hd2
 have e:its.toArray++its2.toArray=(its++its2).toArray:=by simp
 refine concat_meets ⟨_,ho,rfl⟩ ⟨_,ho2,rfl⟩ noFill_list_add seq_list_add PySem.F.slot_list_add PySem.F.entry_list_add (PySem.F.args_list_add_2 _ _) (list_addW a b its.toArray its2.toArray n n2 dd dd2 sl sl2 (by simp only [List.size_toArray];omega)) ⟨ho,ho2,?_⟩
 rw [e]
 exact ⟨.ref _,_,I.lnew (t':=s.toks) (r.append r2) (by rw [List.length_append];omega),rfl,q _ I.fresh⟩
def tyD:PyData→String
 | .none => "NoneType"
 | .bool _ => "bool"
 | .int _ => "int"
 | .str _ => "str"
 | .list _ => "list"
 | .tuple _ => "tuple"
 | .dict _ => "dict"
theorem zafq {pins:List (Addr×Obj)}{σ:St}{H:Hp}{s:Shared}{A:Around}{E:Value→Shared→Prop}{Q:Value→Shared→Prop}{c:Value}{b:Bool}{d:PyData}{x:V}{u:Value}
 (I:Inv X pins σ H s) (hd:Is X.K H d x) (rx:RelV x u) (e:PySem.W.kitOne X.K (.type (tyD d)) c=some b) (h : ∀ tk,Q (.bool b) { s with toks:=tk }) :
  wpAny (model X.prog X.w) A (call (.builtin "isinstance") [u,c]) Q E s:=by
  cases d with
  | none=>rw [hd.non_inv] at rx;cases rx;exact PySem.W.kia_one PySem.W.kitx_none I.kIn True.intro e (fun z=>nomatch z) h
  | bool y=>rw [hd.bl_inv] at rx;cases rx;exact PySem.W.kia_one PySem.W.kitx_bool I.kIn True.intro e (fun z=>nomatch z) h
  | int i=>rw [hd.int_inv] at rx;obtain ⟨t,rfl⟩:=rx;exact PySem.W.kia_one PySem.W.kitx_int I.kIn True.intro e (fun z=>nomatch z) h
  | str y =>
   unfold Is at hd
   subst hd
   obtain ⟨t,rfl⟩:=rx;exact PySem.W.kia_one PySem.W.kitx_str I.kIn True.intro e (fun z=>nomatch z) h
  | list l =>
   obtain ⟨a,xs,rfl,q,_⟩:=hd.lst_inv
   cases rx
   obtain ⟨its,_,pl,_⟩:=I.list q
   obtain ⟨o,ho,hc,_⟩:=pl.isList
   exact PySem.W.kia_one PySem.W.kitx_list I.kIn ⟨o,ho,hc⟩ e (fun z=>nomatch z) h
  | tuple l =>
   obtain ⟨a,xs,rfl,q,_⟩:=hd.tup_inv
   cases rx
   obtain ⟨its,_,pl,_⟩:=I.tuple q
   obtain ⟨o,ho,hc,_⟩:=pl
   exact PySem.W.kia_one PySem.W.kitx_tuple I.kIn ⟨o,ho,hc⟩ e (fun z=>nomatch z) h
  | dict l =>
   obtain ⟨a,kvs,rfl,q,_⟩:=hd.dct_inv
   cases rx
   obtain ⟨_,_,vs,_,p⟩:=(show ObjOk X.prog X.w H s.heap a (.dK kvs) from I.hok a _ q)
   obtain ⟨o,es,ep,h1,h2,_⟩:=p
   exact PySem.W.kia_one PySem.W.kitx_dict I.kIn ⟨o,h1,h2.1⟩ e (fun z=>nomatch z) h
def rIsD (K:PySem.W.Frag):List V→Hp→VK→Prop:=fun xs H Q => ∃ d x n b,xs=[x,.ty n]∧Is K H d x∧PySem.W.kitOne K (.type (tyD d)) (.type n)=some b∧Q (.bl b) H
theorem zaea:CallR X (.builtin "isinstance") (rIsD X.K):=by
 intro pins s σ H xs us Q I r h
 obtain ⟨d,x,n,b,rfl,hd,e,q⟩:=h
 obtain ⟨u,c,rfl,rx,rc⟩:=zalh r
 cases rc
 exact zafq I hd rx e fun tk=>⟨.bl b,H,I.tok tk,rfl,q⟩
theorem Iss.atI {K:PySem.W.Frag}{H:Hp}{l:List PyData}{xs:List V}{i:Int}{d:PyData} (h:Iss K H l xs) (e:L2.atI l i=some d) : ∃ x,L2.atI xs i=some x∧Is K H d x:=by
 unfold L2.atI at e ⊢
 rw [h.len]
 cases q:ixN l.length i with
 | none=>rw [q] at e;cases e
 | some j =>
  rw [q] at e
  exact h.get e
end
def Ite (K:PySem.W.Frag) (a:Addr):It :=
 ⟨fun i H => ∃ xs x,SqL K H a xs∧xs[i]?=some x,fun i H v H' => ∃ p x,(∀ xs,SqL K H a xs→xs[i]?=some x)∧H p=none∧v = .ref p∧H'=upd H p (.tup [.int i,x]),fun i H => ∃ xs,SqL K H a xs∧xs.length≤i⟩
theorem zabx {P:Program}{w:World}{K:PySem.W.Frag}{elts:List Expr}{x1:Nat}{tpos:Pos} (a e it:Addr) (hne:e≠it) :
 Turn P w K (.Tuple elts x1 tpos) (Ite K a) [e,it] e (fun i h=>(∃ old,IsEnum h e it (i:Nat) old)∧h.IsListIter it a i) where
  mem:=by simp
  obj:=fun i h st b hb=>by
   obtain ⟨⟨old,s1⟩,s2⟩:=st
   have hb':b=e∨b=it:=by simpa using hb
   rcases hb' with rfl|rfl
   ·exact ⟨_,s1,fun v z=>by have z':Data.fields _=Data.cell v:=z;cases z'⟩
   ·obtain ⟨o,q,c,d⟩:=s2
    exact ⟨o,q,fun v z=>by rw [d] at z;cases z⟩
  keep:=fun i h h' st k=>by
   obtain ⟨⟨old,s1⟩,s2⟩:=st
   exact ⟨⟨old,k e (by simp) _ s1⟩,s2.at fun o q=>k it (by simp) o q⟩
  item:=by
   intro X hP hw hK hc i pins s σ H E I hf st hg
   subst hP hw hK
   obtain ⟨xs,x,hq,hx⟩:=hg
   obtain ⟨its,rv,p,hz⟩:=I.list hq
   obtain ⟨u,hu,ru⟩:=rv.get hx
   obtain ⟨⟨old,s1⟩,s2⟩:=st
   obtain ⟨f0,f1,f2,f3,f4,f5⟩:=hf e (by simp)
   obtain ⟨g0,g1,g2,g3,g4,g5⟩:=hf it (by simp)
   have hel:e<s.heap.objs.size:=Heap.lt_size s1
   refine wpAny_pyNext_enum_item s1 s2 p.isList (x:=u) (by simpa using hu) hne fun h₁ ho hi ht hz₁ hk=>⟨_,rfl,?_⟩
   refine wpAny_letOwnedTupleGo_enum (s:={ s with heap:=h₁,toks:=s.toks+1 }) ho fun h₂ he₂ hs₂=>?_
   replace hs₂:Heap.SameBut e h₁ h₂:=hs₂
   have fresh:H s.heap.objs.size=none:=I.hok.fresh (Nat.le_refl _)
   have kk : ∀ b o,b≠e→b≠it→s.heap.get? b=some o→h₂.get? b=some o:=fun b o b1 b2 q=>hs₂.extBut b o b1 (hk b o b1 b2 q)
   have nb : ∀ b v,H b=some v→b≠e∧b≠it:=fun b v q=>⟨fun z=>(by rw [z,f0] at q;cases q),fun z=>(by rw [z,g0] at q;cases q)⟩
   have ht₂:h₂.get? s.heap.objs.size=some { cls :=.type "tuple",data :=.seq #[.int i s.toks,u] }:=(hs₂.2 _ (Nat.ne_of_gt hel)).trans ht
   have I1:Inv X pins σ (upd H s.heap.objs.size (.tup [.int i,x])) { s with heap:=h₂,toks:=s.toks+1 }:=by
    refine I.step (g':=s.gens) (d':=s.drawn) (ch:=[e,it]) (fun b hb=>?_) (fun b o _ _ hc q _=>kk b o (fun z=>hc (by simp [z])) (fun z=>hc (by simp [z])) q)
     (fun b o _ _ hc q _=>⟨o.slots,kk b o (fun z=>hc (by simp [z])) (fun z=>hc (by simp [z])) q⟩) (fun b o _ q n=>by rw [qj (Nat.ne_of_lt (Heap.lt_size q))];exact n)
     (fun b o hc q=>⟨o,kk b o (fun z=>hc (by simp [z])) (fun z=>hc (by simp [z])) q⟩) (fun b ys q=>by rw [qj (qq q fresh)];exact q) (fun b o v q=>by rw [qj (qq q fresh)];exact q)
     (fun b ps q=>⟨#[],by rw [qj (qq q fresh),q];simp,.nil⟩) (fun m hm=>?_) (fun b v q=>?_) I.bare
    ·have hb':b=e∨b=it:=by simpa using hb
     rcases hb' with rfl|rfl
     ·exact ⟨f3,f1,f4,f5⟩
     ·exact ⟨g3,g1,g4,g5⟩
    ·obtain ⟨o,es,ep,ho',r⟩:=hm
     exact ⟨o,es,ep,kk _ o (Ne.symm f1) (Ne.symm g1) ho',r⟩
    ·by_cases hb:b=s.heap.objs.size
     ·subst hb
      rw [qr] at q
      cases q
      exact ⟨(by show 2≤sizeLine;decide),[.int i s.toks,u],.cons ⟨s.toks,rfl⟩ (.cons ru .nil),⟨_,ht₂,rfl,_,rfl⟩⟩
     ·rw [qj hb] at q
      refine (I.hok b v q).stay (fun c ob hc z=>?_) (fun c z=>by rw [qj (qq z fresh)];exact z) fun c ys z=>by rw [qj (qq z fresh)];exact z
      rcases hc with hc|hc
      ·subst hc;exact kk _ _ (nb _ _ q).1 (nb _ _ q).2 z
      ·exact kk _ _ (nb _ _ hc).1 (nb _ _ hc).2 z
   refine ⟨.ref s.heap.objs.size,_,I1,rfl,⟨s.heap.objs.size,x,fun ys hy=>by rw [I.list_inj hy hq];exact hx,fresh,rfl,rfl⟩,⟨⟨u,?_⟩,?_⟩,fun b hb=>?_⟩
   ·have e1:((i+1:Nat):Int)=(i:Int)+1:=by push_cast;rfl
    rw [e1];exact he₂
   ·exact hi.extBut hs₂.extBut (Ne.symm hne)
   ·have hb':b=e∨b=it:=by simpa using hb
    have hlt:b<s.heap.objs.size:=by
     rcases hb' with rfl|rfl
     ·exact hel
     ·obtain ⟨o,q,_⟩:=s2;exact Heap.lt_size q
    rw [qj (Nat.ne_of_lt hlt)]
    exact (hf b hb).1
  done:=by
   intro X hP hw hK hc i pins s σ H E I hf st hg
   subst hP hw hK
   obtain ⟨xs,hq,hx⟩:=hg
   obtain ⟨its,rv,p,hz⟩:=I.list hq
   obtain ⟨⟨old,s1⟩,s2⟩:=st
   obtain ⟨g0,g1,g2,g3,g4,g5⟩:=hf it (by simp)
   have hl:=rv.length
   exact wpAny_pyNext_enum_end (I.ok.hd hc) s1 s2 p.isList (by simp;omega) fun h' eb=>⟨rfl,I.turned (t':=s.toks) (fun b o hb q=>eb b o hb q) g0 g1 g3 g4 g5⟩
  self:=fun A i s Q E st h=>by
   obtain ⟨⟨old,s1⟩,s2⟩:=st
   exact wpAny_pyIter_enum s1 h
section
variable {X:Cx}{elts:List Expr}{x1:Nat}{tpos:Pos}
def zaqv (K:PySem.W.Frag) (ta:TA):TI:=fun σ H R=>ta σ H fun vs H1 => ∃ a,vs=[.ref a]∧(∃ xs,SqL K H1 a xs)∧R (Ite K a) H1
theorem zakc {a:Expr}{ta:TA}{p pos:Pos} (hg:Gl X "enumerate") (hm:X.mg "enumerate" = none) (ha:PA X [a] ta) (hs:starEach [a] X.env=[(false,eval a X.env)]:=by rfl) :
 PI X (.Tuple elts x1 tpos) (.Call (.Name "enumerate" p) [a] [] pos) (zaqv X.K ta):=by
 intro pins s σ H R I h
 refine Call_ (qho I hg hm boot_enumerate (PyProof.Rows.callWith_type1 (thn (ha pos pins s σ H _ I h) fun us s1 xx50=>?_) hs rfl))
 obtain ⟨vs,H1,I1,r1,q1⟩:=xx50
 obtain ⟨l,e,⟨xs,hq⟩,q⟩:=q1
 subst e
 cases r1 with
 | cons r rr =>
  cases rr
  cases r
  obtain ⟨its,rv,pl,hz⟩:=I1.list hq
  refine call_enumerate_list pl.isList fun h' he hi hz' hk=>?_
  refine wpAny_pyIter_enum he ?_
  have I2:Inv X pins σ H1 { s1 with heap:=h' }:=I1.kept (t':=s1.toks) hk
  refine ⟨s1.heap.objs.size+1,[s1.heap.objs.size+1,s1.heap.objs.size],_,_,H1,rfl,I2,zabx l _ _ (Nat.succ_ne_self _),⟨⟨_,he⟩,hi⟩,fun b hb=>?_,q⟩
  have hb':b=s1.heap.objs.size+1∨b=s1.heap.objs.size:=by simpa using hb
  have hle:s1.heap.objs.size≤b:=by
   rcases hb' with rfl|rfl
   ·exact Nat.le_succ _
   ·exact Nat.le_refl _
  exact I1.fpOk hle (I1.hok.fresh hle)
end
theorem szl {α:Type}{l:List α} (h:decide (l.length≤1000)=true:=by rfl):l.length≤sizeLine:=Nat.le_of_lt (qk (of_decide_eq_true h))
theorem qnq (i j:Int):PyData.eqv (.int i) (.int j)=(i==j):=by simp only [PyData.eqv]
theorem qpr {i j:Int}{A B:Prop} (h1:i≠j→A) (h2:i=j→B):if (!PyData.eqv (.int i) (.int j))=true then A else B:=by
 rw [qnq]
 by_cases h:i=j
 ·subst h;simpa using h2 rfl
 ·have e:(i==j)=false:=by simpa using h
  rw [e];simpa using h1 h
theorem qpu {i j:Int}{A B:Prop} (h1:i=j→A) (h2:i≠j→B):if (PyData.eqv (.int i) (.int j))=true then A else B:=by
 rw [qnq]
 by_cases h:i=j
 ·subst h;simpa using h1 rfl
 ·have e:(i==j)=false:=by simpa using h
  rw [e];simpa using h2 h
theorem qgx {p A B:Prop} [Decidable p] (h1:p→A) (h2 : ¬ p→B):if decide p=true then A else B:=by
 by_cases h:p
 ·simpa [h] using h1 h
 ·simpa [h] using h2 h
theorem qom {ns:List Int}{i:Int} (h0:0≤i) (h1:i<ns.length) : ∃ n,L2.atI (ns.map PyData.int) i=some (.int n):=by
 have hi:i.toNat<ns.length:=by omega
 refine ⟨ns[i.toNat],?_⟩
 have e:(ns.map PyData.int)[i.toNat]?=some (.int ns[i.toNat]):=by simp [hi]
 have:=qgh e
 rwa [Int.toNat_of_nonneg h0] at this
theorem boot_abs:bootBuiltins "abs" = some (.builtin "abs"):=by decide +kernel
theorem boot_max:bootBuiltins "max" = some (.builtin "max"):=by decide +kernel
theorem boot_len:bootBuiltins "len" = some (.builtin "len"):=by decide +kernel
theorem qfu:bootBuiltins "isinstance" = some (.builtin "isinstance"):=by decide +kernel
theorem boot_int:bootBuiltins "int" = some (.type "int"):=by decide +kernel
theorem boot_bool:bootBuiltins "bool" = some (.type "bool"):=by decide +kernel
theorem boot_tuple:bootBuiltins "tuple" = some (.type "tuple"):=by decide +kernel
theorem boot_list:bootBuiltins "list" = some (.type "list"):=by decide +kernel
section
variable {K:PySem.W.Frag}
end
structure Def (K:PySem.W.Frag) (mg:Str→Option Value) (x:Str) (st:Stmt) (ps:List Str):Prop where
 ex : ∃ (f:Addr) (fd:FuncData),Fun K x x st f fd∧mg x=some (.ref f)∧Binds K fd ps []
structure Ok (P:Program) (w:World) (K:PySem.W.Frag) (mg:Str→Option Value) (base:Heap) (x:Str) (k:Nat) (ps:List Str) (sp:Sp):Prop where
 ex : ∃ (f:Addr) (fd:FuncData),FnOk P w K mg base CX0 k f fd ps sp∧mg x=some (.ref f)∧PySem.W.keepIn K (.ref f)=true∧Binds K fd ps []
section
variable {P:Program}{w:World}{K:PySem.W.Frag}{mg:Str→Option Value}{base:Heap}
theorem Def.ok {x:Str}{st:Stmt}{N ps:List Str}{k:Nat}{sp:Sp} (F:Def K mg x st ps) (S:FnScope N ps (defScope st)) (len : ∀ vs H Q E,sp vs H Q E→vs.length=ps.length)
 (hbody : ∀ (f:Addr) (cdv:Value) (A:Around) (outer:List Env) (s:Shared) (H:Hp) (vs:List V) (Q:VK) (E:XK),Room k (A.deeper (envOfC x (defScope st) s.heap.objs.size f cdv))→sp vs H Q E →
 ∃ t,PSs (qpv CX0 P w K mg base N x (defScope st) f cdv A outer s H E).nox (defBody st) t∧t { nx:=fun _ H'=>Q .non H',rt:=Q } (start N vs) H):Ok P w K mg base x (k+1) ps sp:=by
  obtain ⟨f,fd,Fn,hm,hb⟩:=F.ex
  exact ⟨f,fd,Fn.ok S len (hbody f),hm,Fn.kp,hb⟩
end
section
variable {X:Cx}{x:Str}{k:Nat}{ps:List Str}{sp:Sp}{p pos:Pos}{e:Expr}{es:List Expr}{t:TA}
theorem qob (O:Ok X.prog X.w X.K X.mg X.base x k ps sp) (hr:Room k X.A) (ha:PA X (e::es) t) (hg:Gl X x:=by rfl) (hdb:(x==("__debug__" : Str))=false:=by decide)
 (he:starEach (e::es) X.env=(false,eval e X.env)::starEach es X.env:=by rfl) (hpl:(backTo pos (starEach es X.env)).any (·.1)=false:=by rfl):PE X (.Call (.Name x p) (e::es) [] pos) (qjb sp [] E0 t):=by
 obtain ⟨f,fd,F,hm,hk,hb⟩:=O.ex
 exact zakj F hr hg hm hk hb .nil zaqq ha hdb he hpl
theorem qqn {o:Expr}{to:TE}{te:TE}{apos cpos:Pos} (ho:PE X o to) (he:PE X e te) (hbase:attributeBase o "append" X.env (eval o X.env)=eval o X.env:=by rfl)
 (hfew:((backTo cpos (starEach [e] X.env)).all (fun x => !x.1)&&(backToKw cpos (keywordEach [] X.env)).all (fun x=>x.1.isSome)
  && decide ([e].length+([]:List Keyword).length+(if ([]:List Keyword).isEmpty then 0 else 1)<30))=true:=by rfl)
 (hline:(apos.endLine==cpos.line)=true:=by rfl) (hs:starEach [e] X.env=(false,eval e X.env)::starEach [] X.env:=by rfl) (hplain:(backTo cpos (starEach [] X.env)).any (·.1)=false:=by rfl) :
 PE X (.Call (.Attribute o "append" apos) [e] [] cpos) (tBM X.K "list" qru to (qwd te tNil)) :=
 qwi PySem.F.plainAttrs_list PySem.F.slot_list_append PySem.F.type_list_append zaar ho (qN he qbj hs) hbase hfew hline hs hplain
end
end L2
namespace L2
open PySem PySem.Spec PyProof.Rows
def qlw (cells:List (Str×Addr)):List (Str×NameKind)→List (Str×Addr)→List (Str×Addr)
 | [],acc=>acc
 | (n,k)::r,acc=>if (k == .free)=true then (match cells.lookup n with|some c=>qlw cells r ((n,c)::acc)|none=>qlw cells r acc) else qlw cells r acc
theorem qhl {cells:List (Str×Addr)} : ∀ {names:List (Str×NameKind)}{acc:List (Str×Addr)}{p:Str×Addr},p ∈ qlw cells names acc→p ∈ acc∨cells.lookup p.1=some p.2
 | [],acc,p,h => .inl h
 | (n,k)::r,acc,p,h=>by
  unfold qlw at h
  split at h
  ·split at h
   ·rename_i c hc
    rcases qhl h with h|h
    ·rcases List.mem_cons.mp h with h|h
     ·subst h;exact .inr hc
     ·exact .inl h
    ·exact .inr h
   ·exact qhl h
  ·exact qhl h
theorem qhd {cells:List (Str×Addr)} : ∀ {names:List (Str×NameKind)}{acc:List (Str×Addr)}{x:Str},((∃ c,(x,c) ∈ acc)∨((x,NameKind.free) ∈ names ∧ ∃ c,cells.lookup x=some c)) → ∃ c,(x,c) ∈ qlw cells names acc
 | [],acc,x,h=>by
  rcases h with h|h
  ·exact h
  ·exact absurd h.1 (by simp)
 | (n,k)::r,acc,x,h=>by
  unfold qlw
  split
  ·rename_i hk
   split
   ·rename_i c hc
    refine qhd ?_
    rcases h with ⟨d,h⟩|⟨h,d,hd⟩
    ·exact .inl ⟨d,List.mem_cons_of_mem _ h⟩
    ·rcases List.mem_cons.mp h with h|h
     ·cases h;exact .inl ⟨c,by simp⟩
     ·exact .inr ⟨h,d,hd⟩
   ·rename_i hc
    refine qhd ?_
    rcases h with h|⟨h,d,hd⟩
    ·exact .inl h
    ·rcases List.mem_cons.mp h with h|h
     ·cases h;rw [hd] at hc;cases hc
     ·exact .inr ⟨h,d,hd⟩
  ·rename_i hk
   refine qhd ?_
   rcases h with h|⟨h,d,hd⟩
   ·exact .inl h
   ·rcases List.mem_cons.mp h with h|h
    ·cases h;exact absurd rfl hk
    ·exact .inr ⟨h,d,hd⟩
theorem qpc {x:Str}{c:Addr} : ∀ {names:List (Str×NameKind)}{n:Nat}{acc:List (Str×Addr)},(cellsFrom n names acc).lookup x=some c→(n≤c∧(x,NameKind.cell) ∈ names)∨acc.lookup x=some c
 | [],_,_,h => .inr h
 | (y,k)::r,n,acc,h=>by
  unfold cellsFrom at h
  split at h
  ·rename_i hk
   rcases qpc h with ⟨h1,h2⟩|h1
   ·exact .inl ⟨by omega,List.mem_cons_of_mem _ h2⟩
   ·by_cases e:x=y
    ·subst e
     have hb:(x==x)=true:=by simp
     rw [List.lookup_cons,hb] at h1
     have hk':k = .cell:=by simpa using hk
     subst hk'
     cases h1
     exact .inl ⟨Nat.le_refl _,by simp⟩
    ·have hb:(x==y)=false:=by simpa using e
     rw [List.lookup_cons,hb] at h1
     exact .inr h1
  ·rcases qpc h with ⟨h1,h2⟩|h1
   ·exact .inl ⟨h1,List.mem_cons_of_mem _ h2⟩
   ·exact .inr h1
theorem qxu {x:Str} : ∀ {names:List (Str×NameKind)}{n:Nat}{acc:List (Str×Addr)},(x,NameKind.cell) ∉ names→(cellsFrom n names acc).lookup x=acc.lookup x
 | [],_,_,_=>rfl
 | (y,k)::r,n,acc,h=>by
  have hr:(x,NameKind.cell) ∉ r:=fun z=>h (List.mem_cons_of_mem _ z)
  unfold cellsFrom
  split
  ·rename_i hk
   have hk':k = .cell:=by simpa using hk
   subst hk'
   have e:x≠y:=fun z=>h (by rw [z];simp)
   have hb:(x==y)=false:=by simpa using e
   rw [qxu hr,List.lookup_cons,hb]
  ·exact qxu hr
theorem qol {x:Str}{c lo:Nat} : ∀ {names:List (Str×NameKind)}{n:Nat}{acc:List (Str×Addr)},lo≤n→((x,NameKind.cell) ∈ names ∨ ∃ a,acc.lookup x=some a∧lo≤a)→(cellsFrom n names acc).lookup x=some c→lo≤c
 | [],_,acc,_,h,e=>by
  rcases h with h|⟨a,h1,h2⟩
  ·simp at h
  ·have e:acc.lookup x=some c:=e
   rw [h1] at e
   cases e
   exact h2
 | (y,k)::r,n,acc,hn,h,e=>by
  unfold cellsFrom at e
  split at e
  ·rename_i hk
   refine qol (lo:=lo) (by omega) ?_ e
   by_cases z:x=y
   ·subst z
    have hb:(x==x)=true:=by simp
    exact .inr ⟨n,by rw [List.lookup_cons,hb],hn⟩
   ·have hb:(x==y)=false:=by simpa using z
    rcases h with h|⟨a,h1,h2⟩
    ·rcases List.mem_cons.mp h with h|h
     ·cases h;exact absurd rfl z
     ·exact .inl h
    ·exact .inr ⟨a,by rw [List.lookup_cons,hb];exact h1,h2⟩
  ·rename_i hk
   refine qol hn ?_ e
   rcases h with h|h
   ·rcases List.mem_cons.mp h with h|h
    ·cases h;exact absurd rfl hk
    ·exact .inl h
   ·exact .inr h
theorem qxh {x y:Str}{c:Addr} : ∀ {names:List (Str×NameKind)}{n:Nat}{acc:List (Str×Addr)},(∀ z a,acc.lookup z=some a→a<n)→n≤c→(cellsFrom n names acc).lookup x=some c→(cellsFrom n names acc).lookup y=some c→x=y
 | [],n,acc,hA,hn,h,_=>absurd (hA x c h) (Nat.not_lt.mpr hn)
 | (w,k)::r,n,acc,hA,hn,h,h'=>by
  unfold cellsFrom at h h'
  split at h
  ·rename_i hk
   rw [if_pos hk] at h'
   have hA' : ∀ z a,((w,n)::acc).lookup z=some a→a<n+1:=fun z a q=>by
    rw [List.lookup_cons] at q
    split at q
    ·cases q;exact Nat.lt_succ_self _
    ·exact Nat.lt_succ_of_lt (hA z a q)
   have at_n : ∀ z,((w,n)::acc).lookup z=some n→z=w:=fun z q=>by
    rw [List.lookup_cons] at q
    split at q
    ·rename_i hb;exact beq_iff_eq.mp hb
    ·exact absurd (hA z n q) (Nat.lt_irrefl _)
   by_cases e:c=n
   ·subst e
    have a1:x=w:=by
     rcases qpc h with ⟨q,_⟩|q
     ·exact absurd q (Nat.not_succ_le_self _)
     ·exact at_n x q
    have a2:y=w:=by
     rcases qpc h' with ⟨q,_⟩|q
     ·exact absurd q (Nat.not_succ_le_self _)
     ·exact at_n y q
    rw [a1,a2]
   ·exact qxh hA' (Nat.lt_of_le_of_ne hn (Ne.symm e)) h h'
  ·rename_i hk
   rw [if_neg hk] at h'
   exact qxh hA hn h h'
theorem qsj {x:Str}{c:Addr} : ∀ {names:List (Str×NameKind)}{h:Heap}{acc:List (Str×Addr)},(cellsFrom h.objs.size names acc).lookup x=some c→acc.lookup x=some c∨(pushCells h names).IsCell c none
 | [],_,_,e => .inl e
 | (y,k)::r,h,acc,e=>by
  unfold cellsFrom at e
  unfold pushCells
  split at e
  ·rename_i hk
   rw [if_pos hk]
   have e':(cellsFrom (h.push { cls :=.type "cell",data :=.cell none }).objs.size r ((y,h.objs.size)::acc)).lookup x=some c:=by rw [Heap.size_push];exact e
   rcases qsj e' with q|q
   ·rw [List.lookup_cons] at q
    split at q
    ·have q:=Option.some.inj q
     subst q
     exact .inr ⟨_,pushCells_keeps _ _ _ _ (Heap.get?_push_size _ rfl),rfl⟩
    ·exact .inl q
   ·exact .inr q
  ·rename_i hk
   rw [if_neg hk]
   exact qsj e
theorem zaag {M:Model}{A:Around}{E:Value→Shared→Prop}{s:Shared}{scope:Scope}{globals:Addr}{cl:List (Str×Addr)}{qual:Str}{outer:Env}{Q:Env→Shared→Prop}
 (hQ:Q (newEnv scope s.heap.objs.size globals (cellsFrom (s.heap.objs.size+1) scope.names cl) qual none .none (some outer) builtinsNs) { s with heap:=pushCells (s.heap.push { cls :=.type "dict",data :=.dict #[] }) scope.names }) :
  wpAny M A (newFunctionEnv scope globals cl [] qual none .none (some outer)) Q E s:=by
  simp only [newFunctionEnv,Option.isSome_some,if_true]
  refine wpAny_bind (wpAny_alloc ?_)
  refine wpAny_bind (wpAny_layCells _ (fun name kind cells=>by cases hkc:kind==NameKind.cell <;> simp [hkc]) _ _ _ _ ?_)
  rw [show ({ s with heap:=s.heap.push { cls :=.type "dict",data :=.dict #[] } }:Shared).heap.objs.size=s.heap.objs.size+1 from Heap.size_push ..]
  rw [List.forIn_nil]
  exact wpAny_bind (wpAny_pure (wpAny_pure hQ))
structure CompScope (env:Env) (scope:Scope) (caps:List Str):Prop where
 clos:closureFor scope env=pure (qlw env.cells scope.names [])
 kind:scope.kind = .function
 cells:scope.names.all (fun y => !(y.2 == .cell)||scope.names.lookup y.1==some .cell)=true
 names:scope.names.all (fun y => !(y.2 == .local)||scope.names.lookup y.1==some .local)=true
 free:scope.names.all (fun y => !(y.2 == .free)||(env.cells.lookup y.1).isSome)=true
 cap:caps.all (fun x=>scope.names.lookup x==some .free&&(env.scope.names.lookup x==some .cell||env.scope.names.lookup x==some .free))=true
theorem qfm {β:Type} : ∀ {l:List (Str×β)}{x:Str}{c:β},l.lookup x=some c→(x,c) ∈ l:=fun h=>PySem.mem_of_lookup h
theorem qnp : ∀ {l:List (Str×Addr)}{x:Str}{c:Addr},(x,c) ∈ l → ∃ d,l.lookup x=some d
 | [],_,_,h=>by simp at h
 | (y,d)::r,x,c,h=>by
  by_cases e:x=y
  ·subst e;exact ⟨d,by simp⟩
  ·have hb:(x==y)=false:=by simpa using e
   rcases List.mem_cons.mp h with h|h
   ·cases h;exact absurd rfl e
   ·obtain ⟨d',hd⟩:=qnp h
    exact ⟨d',by rw [List.lookup_cons,hb];exact hd⟩
section
variable {env:Env}{scope:Scope}{caps:List Str}
abbrev clOf (scope:Scope) (env:Env):List (Str×Addr):=qlw env.cells scope.names []
theorem CompScope.sub (S:CompScope env scope caps) {x:Str}{c:Addr} (h:(clOf scope env).lookup x=some c):env.cells.lookup x=some c:=by
 rcases qhl (qfm h) with h|h
 ·simp at h
 ·exact h
theorem qgt {x:Str}{k:NameKind} (h:(relabel scope env).names.lookup x=some k) : ∃ k',(x,k') ∈ scope.names∧(k'=k∨(k' = .free∧k = .cell)):=by
 have hm:=qfm h
 obtain ⟨⟨n,k0⟩,h1,h2⟩:=List.mem_map.mp hm
 dsimp only at h2
 split at h2
 ·rename_i hc
  cases h2
  have:k0 = .free:=by
   have:=(Bool.and_eq_true_iff.mp (Bool.and_eq_true_iff.mp hc).1).1
   simpa using this
  subst this
  exact ⟨_,h1,.inr ⟨rfl,rfl⟩⟩
 ·cases h2
  exact ⟨_,h1,.inl rfl⟩
abbrev qpy (scope:Scope) (env:Env) (n:Nat):List (Str×Addr):=cellsFrom n scope.names (clOf scope env)
theorem CompScope.hasF (S:CompScope env scope caps) {x:Str} (key:(x,NameKind.free) ∈ scope.names) : ∃ c,(clOf scope env).lookup x=some c:=by
 have:=List.all_eq_true.mp S.free _ key
 have hs:(env.cells.lookup x).isSome=true:=by simpa using this
 obtain ⟨c,hc⟩:=Option.isSome_iff_exists.mp hs
 obtain ⟨d,hd⟩:=qhd (cells:=env.cells) (names:=scope.names) (acc:=[]) (.inr ⟨key,c,hc⟩)
 exact qnp hd
theorem CompScope.isC (S:CompScope env scope caps) {x:Str} (h:(x,NameKind.cell) ∈ scope.names):scope.names.lookup x=some .cell:=by
 have:=List.all_eq_true.mp S.cells _ h
 simpa using this
theorem CompScope.has (S:CompScope env scope caps) {x:Str} (n:Nat) (h:(relabel scope env).names.lookup x=some .cell∨(relabel scope env).names.lookup x=some .free) : ∃ c,(qpy scope env n).lookup x=some c:=by
 have key:scope.names.lookup x=some .cell∨(x,NameKind.free) ∈ scope.names:=by
  rcases h with h|h
  ·obtain ⟨k',h1,h2⟩:=qgt h
   rcases h2 with rfl|⟨rfl,_⟩
   ·exact .inl (S.isC h1)
   ·exact .inr h1
  ·obtain ⟨k',h1,h2⟩:=qgt h
   rcases h2 with rfl|⟨_,h2⟩
   ·exact .inr h1
   ·cases h2
 refine Option.isSome_iff_exists.mp (PySem.W.cellsFrom_some scope.names n _ ?_)
 rcases key with k|k
 ·exact .inl k
 ·obtain ⟨c,hc⟩:=S.hasF k
  exact .inr (by rw [hc];rfl)
theorem CompScope.look (S:CompScope env scope caps) {x:Str}{n:Nat}{c:Addr} (h:(qpy scope env n).lookup x=some c):(n≤c∧(x,NameKind.cell) ∈ scope.names)∨env.cells.lookup x=some c:=by
 rcases qpc h with q|q
 ·exact .inl q
 ·exact .inr (S.sub q)
end
def blk (X:Cx) (pins:List (Addr×Obj)) (scope:Scope) (N':List Str) (s3:Shared) (H:Hp) (ex:List Addr):Cx where
 prog:=X.prog
 w:=X.w
 K:=X.K
 mg:=X.mg
 base:=X.base
 A:=X.A
 N:=N'
 s₀:=s3
 H₀:=H
 env:=compEnvC scope (qpy scope X.env (s3.heap.objs.size+1)) s3.heap.objs.size X.env
 outer:=X.stack
 stack:=X.stack
 ex:=ex
 fn:=fun x=>scope.names.lookup x==some .cell
 calm:=X.calm
 pn:=X.pn++pins
 xe:=fun _ _=>False
def qoa (ix:List Nat) (k:Nat) (σ:St):St:=ix.map (fun i=>(σ[i]?).join)++List.replicate k none
def qxc (ix:List Nat) (k:Nat) (wi:TI) (g:TG) (te:TE):TE:=fun σ H Q=>wi σ H fun J H1 => ∃ W:Nat→Nat→List V→St→Hp→Prop,(∃ m,W 0 m [] (qoa ix k σ) H1) ∧ ∀ i m ys σ1 H2,W i m ys σ1 H2 →
 (J.stop i H2∧ys.length≤sizeLine ∧ ∀ p,H2 p=none→Q (.ref p) (upd H2 p (.lst ys))) ∨
 (J.go i H2∧ys.length<sizeLine ∧ ∃ N:V→St→Hp→Prop,(∀ y σ2 H5,N y σ2 H5 → ∃ m',m'<m∧W (i+1) m' (ys++[y]) σ2 H5) ∧ ∀ x H3,J.yld i H2 x H3→g x σ1 H3 fun σ2 H4=>te σ2 H4 fun y H5=>N y σ2 H5)
theorem qgk {prog:Program}{w:World}{A:Around}{R:Result→Shared→Prop}{s:Shared}{elt target iter:Expr}{scope:Scope}{pos:Pos}{it acc:Value}{env:Env} (I:Nat→Shared→Prop)
 (turn : ∀ n s,I n s→wpAny (model prog w) A (pyNext it) (fun r s₁=>match r with
  | none=>R (.ok .next) s₁
  | some v=>wpAny (model prog w) A (letOwnedTupleGo target it v) (fun _ s₁'=>wpAny (model prog w) A (assign target env v) (fun _ s₂=>wpAny (model prog w) A (eval elt env) (fun x s₃ =>
   wpAny (model prog w) A (call (.builtin "list.append") [acc,x]) (fun _ s₄ => ∃ m,m<n∧I m s₄) (notedBy (model prog w) A env fun e s'=>R (.error e) s') s₃)
   (notedBy (model prog w) A env fun e s'=>R (.error e) s') s₂) (notedBy (model prog w) A env fun e s'=>R (.error e) s') s₁') (notedBy (model prog w) A env fun e s'=>R (.error e) s') s₁) (notedBy (model prog w) A env fun e s'=>R (.error e) s') s)
  (n:Nat) (h:I n s):codeAny (model prog w) A (.compLoop (.ListComp elt [⟨target,iter,[],0⟩] scope pos) 0 it acc env) R s:=by
  refine codeAny_loop rfl I (fun n s hI=>?_) n h
  show wpAny _ _ ((compTurn (.ListComp elt [⟨target,iter,[],0⟩] scope pos) 0 it acc env).onRaise (fun x=>do noteFrame x env;theTreesLotGoes x)) _ _ s
  refine wpAny_noted ?_
  rw [compTurn_list1]
  refine wpAny_bind (wpAny_standAt (wpAny_bind (wpAny_mono (turn n s hI) (fun r s₁ h₁=>?_) fun _ _ h'=>h')))
  cases r with
  | none=>exact wpAny_pure h₁
  | some v =>
   exact wpAny_bind (wpAny_mono h₁ (fun _ s₁' h₁'=>wpAny_bind (wpAny_mono h₁' (fun _ s₂ h₂=>wpAny_bind (wpAny_bind (wpAny_mono h₂ (fun x s₃ h₃=>wpAny_bind (wpAny_mono h₃
    (fun _ s₄ h₄=>wpAny_pure (wpAny_pure ⟨rfl,h₄⟩)) fun _ _ h'=>h')) fun _ _ h'=>h'))) fun _ _ h'=>h')) fun _ _ h'=>h')
section
variable {X:Cx}{elt target iter:Expr}{scope:Scope}{pos:Pos}{caps own:List Str}{ix:List Nat}{wi:TI}{g:TG}{te:TE}
def tYes:TT:=fun _ H Q=>Q true H
abbrev TstT:=Env→(Bool→Shared→Prop)→(Value→Shared→Prop)→Shared→Prop
def zaqs (prog:Program) (w:World) (A:Around) (elt target iter:Expr) (cs:List Expr) (scope:Scope) (pos:Pos) (Tst:TstT):Prop := ∀ {R:Result→Shared→Prop}{s:Shared}{it acc:Value}{env:Env} (I:Nat→Shared→Prop)
 (turn : ∀ n s,I n s→wpAny (model prog w) A (pyNext it) (fun r s₁=>match r with
  | none=>R (.ok .next) s₁
  | some v=>wpAny (model prog w) A (letOwnedTupleGo target it v) (fun _ s₁'=>wpAny (model prog w) A (assign target env v) (fun _ s₂=>Tst env (fun b s₂'=>match b with
   | true=>wpAny (model prog w) A (eval elt env) (fun x s₃ =>
    wpAny (model prog w) A (call (.builtin "list.append") [acc,x]) (fun _ s₄ => ∃ m,m<n∧I m s₄) (notedBy (model prog w) A env fun e s'=>R (.error e) s') s₃)
    (notedBy (model prog w) A env fun e s'=>R (.error e) s') s₂'
   | false => ∃ m,m<n∧I m s₂') (notedBy (model prog w) A env fun e s'=>R (.error e) s') s₂) (notedBy (model prog w) A env fun e s'=>R (.error e) s') s₁') (notedBy (model prog w) A env fun e s'=>R (.error e) s') s₁) (notedBy (model prog w) A env fun e s'=>R (.error e) s') s)
 (n:Nat) (h:I n s),codeAny (model prog w) A (.compLoop (.ListComp elt [⟨target,iter,cs,0⟩] scope pos) 0 it acc env) R s
theorem qrh {cs:List Expr}{tt:TT}{Tst:TstT} (hloop:zaqs X.prog X.w X.A elt target iter cs scope pos Tst) (hc:X.calm=true) (S:CompScope X.env scope caps) (hi:PI X target iter wi)
 (hg : ∀ pins s3 H ex,PG (blk X pins scope (caps++own) s3 H ex) target g)
 (he : ∀ pins s3 H ex,PE (blk X pins scope (caps++own) s3 H ex) elt te)
 (htst : ∀ pins s3 H ex pins' s σ H' Qb P E,Inv (blk X pins scope (caps++own) s3 H ex) pins' σ H' s→tt σ H' Qb→(∀ b s' H'',Inv (blk X pins scope (caps++own) s3 H ex) pins' σ H'' s'→Qb b H''→P b s')→Tst (blk X pins scope (caps++own) s3 H ex).env P E s)
 (hix:caps.length=ix.length) (hcapB:(caps.zip ix).all (fun p=>X.N[p.2]?==some p.1)=true)
 (hs : ∀ x,foldedSetIterable iter X.env x=pure x) {use:Option (Value→Sem Unit)}{Q0:Value→Shared→Prop}{Qv:VK}{pins:List (Addr×Obj)}{s:Shared}{σ:St}{H:Hp}{pos':Pos} (I:Inv X pins σ H s) {Inner:It→Hp→Prop} (h:wi σ H Inner)
 (hin : ∀ J H1,Inner J H1 → ∃ W:Nat→Nat→List V→St→Hp→Prop,(∃ m,W 0 m [] (qoa ix own.length σ) H1) ∧ ∀ i m ys σ1 H2,W i m ys σ1 H2 →
 (J.stop i H2∧ys.length≤sizeLine ∧ ∀ p,H2 p=none→Qv (.ref p) (upd H2 p (.lst ys))) ∨
 (J.go i H2∧ys.length<sizeLine ∧ ∃ (N:V→St→Hp→Prop) (N0:St→Hp→Prop),(∀ y σ2 H5,N y σ2 H5 → ∃ m',m'<m∧W (i+1) m' (ys++[y]) σ2 H5)∧(∀ σ2 H5,N0 σ2 H5 → ∃ m',m'<m∧W (i+1) m' ys σ2 H5) ∧
 ∀ x H3,J.yld i H2 x H3→g x σ1 H3 fun σ2 H4=>tt σ2 H4 fun b H5=>match b with|true=>te σ2 H5 fun y H6=>N y σ2 H6|false=>N0 σ2 H5))
 (fin : ∀ (D C:Addr) (s6:Shared) (H6:Hp) (m6:Str→Option Value),s6.heap.Ns C m6→Inv X pins σ H6 s6→H6 C=none→C≠X.env.locals→C ∉ X.fs→(C ∈ X.ex∨X.s₀.heap.objs.size≤C)→(∀ x c,X.env.cells.lookup x=some c→c≠C)→(∀ p ∈ X.pn++pins,p.1≠C)→Qv (.ref D) H6 →
 compPost (model X.prog X.w) X.A X.xe use Q0 (.ref D) C (.ok .next) s6) :
 wpAny (model X.prog X.w) X.A (comprehension (.ListComp elt [⟨target,iter,cs,0⟩] scope pos) scope X.env pos' (newList []) false (eval iter X.env) use) Q0 X.xe s:=by
  have hcap : ∀ (j:Nat) (x:Str) (i:Nat),caps[j]?=some x→ix[j]?=some i→X.N[i]?=some x:=fun j x i h1 h2=>by
   have hm:(x,i) ∈ caps.zip ix:=by
    have:(caps.zip ix)[j]?=some (x,i):=by rw [List.getElem?_zip_eq_some];exact ⟨h1,h2⟩
    exact List.mem_of_getElem? this
   have:=List.all_eq_true.mp hcapB _ hm
   simpa using this
  have hnm : ∀ y ∈ scope.names,y.2 = .local→scope.names.lookup y.1=some .local:=fun y hy hl=>by
   have:=List.all_eq_true.mp S.names y hy
   rw [hl] at this
   simpa using this
  refine wpAny_comprehension_free (use:=use) rfl hs S.clos S.kind hnm (thn (hi pins s σ H _ I h) fun v s1 h1=>thn h1 fun itv s2 h2=>?_)
  obtain ⟨it,fp,tn,J,H2,e,I2,T,st2,f2,hJ⟩:=h2
  obtain ⟨W,⟨m0,w0⟩,turn⟩:=hin J H2 hJ
  subst e
  refine wpAny_newObj_type (zaag ?_)
  dsimp only
  generalize eh0:s2.heap.push { cls :=.type "list",data :=.seq #[] }=h3
  have hns₁:(pushCells (h3.push { cls :=.type "dict",data :=.dict #[] }) scope.names).Ns h3.objs.size (fun _=>none):=(Heap.Ns.new h3 (.type "dict")).keeps (pushCells_keeps _ _)
  have hkp : ∀ b o,h3.get? b=some o→(pushCells (h3.push { cls :=.type "dict",data :=.dict #[] }) scope.names).get? b=some o:=fun b o q=>pushCells_keeps _ _ b o (Heap.get?_push_of_some _ q)
  have hcl₁ : ∀ x c,(qpy scope X.env (h3.objs.size+1)).lookup x=some c→(clOf scope X.env).lookup x=some c∨(pushCells (h3.push { cls :=.type "dict",data :=.dict #[] }) scope.names).IsCell c none:=fun x c q=>by
   refine qsj (h:=h3.push { cls :=.type "dict",data :=.dict #[] }) ?_
   rw [Heap.size_push];exact q
  generalize pushCells (h3.push { cls :=.type "dict",data :=.dict #[] }) scope.names=h₁ at hns₁ hkp hcl₁ ⊢
  obtain ⟨s3,hs3⟩ : ∃ s3:Shared,s3={ s2 with heap:=h3 }:=⟨_,rfl⟩
  have e3:h3=s3.heap:=by rw [hs3]
  subst e3
  have eh:s3.heap=s2.heap.push { cls :=.type "list",data :=.seq ([]:List Value).toArray }:=eh0.symm
  have hC:s3.heap.objs.size=s2.heap.objs.size+1:=by rw [eh,Heap.size_push]
  have hDlt:s2.heap.objs.size<s3.heap.objs.size:=by omega
  have k23 : ∀ b o,s2.heap.get? b=some o→s3.heap.get? b=some o:=fun b o q=>by rw [eh];exact Heap.get?_push_of_some _ q
  have hD3:s3.heap.get? s2.heap.objs.size=some { cls :=.type "list",data :=.seq ([]:List Value).toArray }:=by rw [eh];exact Heap.get?_push_size _ rfl
  have I3:Inv X pins σ H2 s3:=by rw [hs3];exact I2.kept (t':=s2.toks) k23
  have k34 : ∀ b o,s3.heap.get? b=some o→h₁.get? b=some o:=hkp
  have fpl : ∀ b ∈ fp,b<s2.heap.objs.size:=fun b hb=>by
   obtain ⟨o,q,_⟩:=T.obj 0 _ st2 b hb
   exact Heap.lt_size q
  have cel : ∀ x c,X.env.cells.lookup x=some c→c<s2.heap.objs.size:=fun x c q=>by
   obtain ⟨v,o,z,_⟩:=I2.cell x c q
   exact Heap.lt_size z
  have ncl : ∀ x c,(qpy scope X.env (s3.heap.objs.size+1)).lookup x=some c→X.env.cells.lookup x=some c∨s3.heap.objs.size<c:=fun x c q=>(S.look q).elim (fun z => .inr z.1) .inl
  have pnl : ∀ p ∈ X.pn++pins,p.1<s2.heap.objs.size:=fun p hp=>Heap.lt_size (I2.pin p hp).1
  have hDn:H2 s2.heap.objs.size=none:=I2.hok.fresh (Nat.le_refl _)
  have ok:(blk X pins scope (caps++own) s3 H2 (s2.heap.objs.size::fp)).Ok:=by
   refine ⟨I2.mod,S.kind,I2.ok.glob,I2.ok.blt,Nat.le_refl _,fun x y c h1 h2=>?_,fun x hx=>S.has _ hx,fun x c hf q=>?_,I2.ok.hd,I2.ok.frames,.inl rfl,fun b hb=>?_,I3.bs,?_,fun b o q hb=>?_,fun b hb=>?_,I3.stack,I3.stkFree⟩
   ·rcases ncl x c h1 with q1|q1
    ·rcases ncl y c h2 with q2|q2
     ·exact I2.ok.inj x y c q1 q2
     ·exact absurd (Nat.lt_trans (cel x c q1) hDlt) (Nat.not_lt.mpr (Nat.le_of_lt q2))
    ·exact qxh (n:=s3.heap.objs.size+1) (acc:=clOf scope X.env) (fun z a q=>Nat.lt_succ_of_lt (Nat.lt_trans (cel z a (S.sub q)) hDlt)) q1 h1 h2
   ·exact Nat.le_trans (Nat.le_succ _) (qol (lo:=s3.heap.objs.size+1) (Nat.le_refl _) (.inl (qfm (beq_iff_eq.mp hf))) q)
   ·have hb':b=s2.heap.objs.size∨b ∈ fp:=List.mem_cons.mp hb
    rcases hb' with rfl|hb'
    ·exact ⟨Nat.ne_of_lt hDlt,fun x c q=>(ncl x c q).elim (fun z=>Nat.ne_of_lt (cel x c z)) fun z=>Nat.ne_of_gt (Nat.lt_trans hDlt z)⟩
    ·exact ⟨Nat.ne_of_lt (Nat.lt_trans (fpl b hb') hDlt),fun x c q=>(ncl x c q).elim (fun z=>(f2 b hb').2.2.2.2.1 x c z) fun z=>Nat.ne_of_gt (Nat.lt_trans (fpl b hb') (Nat.lt_trans hDlt z))⟩
   ·exact Nat.le_trans I2.ok.bsz I3.sz
   ·have hlt:b<X.base.objs.size:=Heap.lt_size q
    have hb':b=s2.heap.objs.size∨b ∈ fp:=List.mem_cons.mp hb
    have h1:=I2.ok.bsz
    have h2:=I2.sz
    rcases hb' with rfl|hb'
    ·exact absurd hlt (Nat.not_lt.mpr (Nat.le_trans h1 h2))
    ·rcases (f2 b hb').2.2.2.1 with z|z
     ·exact I2.ok.noex b o q z
     ·exact absurd hlt (Nat.not_lt.mpr (Nat.le_trans h1 z))
   ·have hb':b=s2.heap.objs.size∨b ∈ fp:=List.mem_cons.mp hb
    intro z
    have z':=I2.stkSub b z
    rcases hb' with rfl|hb'
    ·rcases List.mem_cons.mp z' with z'|z'
     ·exact Nat.ne_of_gt I2.lt z'
     ·exact I2.nofs (Nat.le_refl _) z'
    ·rcases List.mem_cons.mp z' with z'|z'
     ·exact (f2 b hb').2.1 z'
     ·exact (f2 b hb').2.2.1 z'
  have len0:(qoa ix own.length σ).length=(caps++own).length:=by unfold qoa;simp [hix]
  have I4:Inv (blk X pins scope (caps++own) s3 H2 (s2.heap.objs.size::fp)) [] (qoa ix own.length σ) H2 { s2 with heap:=h₁ }:=by
   obtain ⟨mX,nsX,lkX⟩:=I3.loc
   refine ⟨ok,(by show s2.os=s3.os;rw [hs3]),I2.bare,Un.kept k34,⟨_,hns₁,fun j x v h1 h2 h3=>?_⟩,fun x c q=>?_,I3.hok.fresh (Nat.le_refl _),fun x c q=>(ncl x c q).elim (fun z=>I3.freeC x c z) fun z=>I3.hok.fresh (Nat.le_of_lt z),fun p hp=>?_,I3.hok.kept k34,len0⟩
   ·-- a captured name
    have hj:j<ix.length:=by
     unfold qoa at h2
     by_cases hj:j<ix.length
     ·exact hj
     ·rw [List.getElem?_append_right (by simpa using hj),List.getElem?_replicate] at h2
      split at h2 <;> cases h2
    have h1':caps[j]?=some x:=by
     have:(caps++own)[j]?=some x:=h1
     rwa [List.getElem?_append_left (by omega)] at this
    have hij:ix[j]?=some ix[j]:=List.getElem?_eq_getElem hj
    have hv:σ[ix[j]]?=some (some v):=by
     unfold qoa at h2
     rw [List.getElem?_append_left (by simpa using hj),List.getElem?_map,hij] at h2
     have h2':(σ[ix[j]]?).join=some v:=by simpa using h2
     cases q:σ[ix[j]]? with
     | none=>rw [q] at h2';cases h2'
     | some o=>rw [q] at h2';cases o with
      | none=>cases h2'
      | some y=>have:y=v:=by simpa using h2'
                rw [this]
    have hk:=List.all_eq_true.mp S.cap x (List.mem_of_getElem? h1')
    obtain ⟨k1,k2⟩:=Bool.and_eq_true_iff.mp hk
    have k1':scope.names.lookup x=some .free:=by simpa using k1
    have k2':X.env.scope.names.lookup x=some .cell∨X.env.scope.names.lookup x=some .free:=by simpa using k2
    obtain ⟨u,ru,lk⟩:=lkX ix[j] x v (hcap j x _ h1' hij) hv (k2'.elim (fun z => .inr (.inl z)) (fun z => .inr (.inr z)))
    refine ⟨u,ru,?_⟩
    have hrel:(relabel scope X.env).names.lookup x=some .cell∨(relabel scope X.env).names.lookup x=some .free:=by
     rcases h3 with h3|h3|h3
     ·have h3':(relabel scope X.env).names.lookup x=some NameKind.local:=h3
      obtain ⟨k',m1,m2⟩:=qgt h3'
      rcases m2 with rfl|⟨_,m2⟩
      ·have:=hnm _ m1 rfl
       rw [k1'] at this;cases this
      ·cases m2
     ·exact .inl h3
     ·exact .inr h3
    have hxc:(x,NameKind.cell) ∉ scope.names:=fun z=>by
     have:=S.isC z
     rw [k1'] at this;cases this
    obtain ⟨c,hcl⟩:=S.hasF (qfm k1')
    have hcl':(qpy scope X.env (s3.heap.objs.size+1)).lookup x=some c:=(qxu hxc).trans hcl
    rcases lk with ⟨kl,_⟩|⟨_,c',ec,ic⟩
    ·have kl':X.env.scope.names.lookup x=some .local:=kl
     rcases k2' with z|z <;> (rw [kl'] at z;cases z)
    ·have:=S.sub hcl
     have ee:c'=c:=by rw [ec] at this;exact Option.some.inj this
     exact .inr ⟨hrel,c,hcl',ee ▸ ic.keeps k34⟩
   ·rcases hcl₁ x c q with z|z
    ·obtain ⟨v,ic⟩:=I3.cell x c (S.sub z)
     exact ⟨v,ic.keeps k34⟩
    ·exact ⟨_,z⟩
   ·have hp':p ∈ X.pn++pins:=by simpa [blk] using hp
    obtain ⟨q1,q2,q3,q4,q5⟩:=I3.pin p hp'
    refine ⟨k34 _ _ q1,q2,Nat.ne_of_lt (Nat.lt_trans (pnl p hp') hDlt),fun z=>?_,q5⟩
    rcases List.mem_cons.mp (I3.stkSub p.1 z) with z'|z'
    ·exact q3 z'
    ·exact q4 z'
  have hD4:h₁.get? s2.heap.objs.size=some { cls :=.type "list",data :=.seq ([]:List Value).toArray }:=k34 _ _ hD3
  have st4:tn 0 h₁:=T.keep _ _ _ st2 fun b _ o q=>k34 b o (k23 b o q)
  have fpk : ∀ {H':Hp}{ob:Obj},(∀ b ∈ fp,H' b=none) → ∀ b ∈ fp,FpOk (blk X pins scope (caps++own) s3 H2 (s2.heap.objs.size::fp)) [(s2.heap.objs.size,ob)] H' b:=fun {H' ob} hn b hb=>by
   obtain ⟨_,a1,a2,a3,a4,a5⟩:=f2 b hb
   refine ⟨hn b hb,Nat.ne_of_lt (Nat.lt_trans (fpl b hb) hDlt),fun z=>?_,.inl (List.mem_cons_of_mem _ hb),fun x c q=>(ncl x c q).elim (fun z=>a4 x c z) fun z=>Nat.ne_of_gt (Nat.lt_trans (fpl b hb) (Nat.lt_trans hDlt z)),fun p hp=>?_⟩
   ·rcases List.mem_cons.mp (I2.stkSub b z) with z'|z'
    ·exact a1 z'
    ·exact a2 z'
   ·have hp':p ∈ X.pn++pins∨p=(s2.heap.objs.size,ob):=by simpa [blk,or_assoc] using hp
    rcases hp' with hp'|rfl
    ·exact a5 p hp'
    ·exact Nat.ne_of_gt (fpl b hb)
  have loop : ∀ s5:Shared,s5=({ s2 with heap:=h₁ }:Shared) →
   codeAny (model X.prog X.w) X.A (.compLoop (.ListComp elt [⟨target,iter,cs,0⟩] scope pos) 0 (.ref it) (.ref s2.heap.objs.size) (compEnvC scope (qpy scope X.env (s3.heap.objs.size+1)) s3.heap.objs.size X.env))
    (compPost (model X.prog X.w) X.A X.xe use Q0 (.ref s2.heap.objs.size) s3.heap.objs.size) s5:=by
   rintro s5 rfl
   refine hloop (fun n s' => ∃ i ys its cp σ' H',Inv (blk X pins scope (caps++own) s3 H2 (s2.heap.objs.size::fp)) [] σ' H' s'∧tn i s'.heap∧(∀ b ∈ fp,H' b=none)∧H' s2.heap.objs.size=none ∧
    s'.heap.get? s2.heap.objs.size=some { cls :=.type "list",data :=.seq (its:List Value).toArray cp }∧Vals ys its∧W i n ys σ' H') ?_ m0 ⟨0,[],[],_,_,H2,I4,st4,fun b hb=>(f2 b hb).1,hDn,hD4,.nil,w0⟩
   rintro n s5 ⟨i,ys,its,cp,σ5,H5,I5,st5,fr5,hD5,gD5,rv5,w5⟩
   have Dfs:s2.heap.objs.size ∉ (blk X pins scope (caps++own) s3 H2 (s2.heap.objs.size::fp)).fs:=fun z=>by
    rcases List.mem_cons.mp (I2.stkSub _ z) with z'|z'
    ·exact Nat.ne_of_gt I2.lt z'
    ·exact I2.nofs (Nat.le_refl _) z'
   have I5':Inv (blk X pins scope (caps++own) s3 H2 (s2.heap.objs.size::fp)) [(s2.heap.objs.size,{ cls :=.type "list",data :=.seq its.toArray cp })] σ5 H5 s5:=by
    refine I5.pins_of fun p hp=>?_
    have hp':p ∈ (blk X pins scope (caps++own) s3 H2 (s2.heap.objs.size::fp)).pn++[]∨p=(s2.heap.objs.size,{ cls :=.type "list",data :=.seq its.toArray cp }):=by
     first
      | exact .inr (List.mem_singleton.mp hp)
      | (rcases List.mem_append.mp hp with z|z
         ·exact .inl (List.mem_append_left _ z)
         ·exact .inr (List.mem_singleton.mp z))
    rcases hp' with z|rfl
    ·exact I5.pin p z
    ·exact ⟨gD5,hD5,Nat.ne_of_lt hDlt,Dfs,fun v z=>by cases z⟩
   rcases turn i n ys σ5 H5 w5 with ⟨stop,hz,qn⟩|⟨go,hz,N,N0,hN,hN0,step⟩
   ·refine thn (T.done (blk X pins scope (caps++own) s3 H2 (s2.heap.objs.size::fp)) rfl rfl rfl hc i _ s5 σ5 H5 _ I5' (fpk fr5) st5 stop) fun r s6 ⟨hr,I6⟩=>?_
    subst hr
    obtain ⟨m6,ns6,_⟩:=id I6.loc
    have gD6:=(I6.pin _ (List.mem_append_right _ (List.mem_singleton.mpr rfl))).1
    have kC : ∀ b o,b≠s3.heap.objs.size→s6.heap.get? b=some o→s6.heap.get? b=some o:=fun b o _ q=>q
    have bne : ∀ b o,s2.heap.get? b=some o→b≠s3.heap.objs.size:=fun b o q=>Nat.ne_of_lt (Nat.lt_trans (Heap.lt_size q) hDlt)
    have bnD : ∀ b o,s2.heap.get? b=some o→b≠s2.heap.objs.size:=fun b o q=>Nat.ne_of_lt (Heap.lt_size q)
    have nC : ∀ b u,H5 b=some u→b≠s3.heap.objs.size:=fun b u q z=>by
     have z1:H5 s3.heap.objs.size=none:=I6.free
     rw [z,z1] at q;cases q
    have U:=I6.base
    have IX:Inv X pins σ (upd H5 s2.heap.objs.size (.lst ys)) s6:=by
     refine I2.call' (ch:=s2.heap.objs.size::fp) ?_ ?_ ?_ I6.bare ?_
     ·show s6.os=s2.os
      rw [I6.os];show s3.os=s2.os;rw [hs3]
     ·refine ⟨fun b o q n hb hx=>kC b o (bne b o q) (U.keep b o (k23 b o q) n hb hx),fun b o q n hb hx=>?_,fun b o q n hx=>?_,fun b o q hx=>?_,fun b xs q=>?_,fun b o u q=>?_,fun b ps q=>?_⟩
      ·obtain ⟨sl,z⟩:=U.slot b o (k23 b o q) n hb hx
       exact ⟨sl,kC b _ (bne b o q) z⟩
      ·rw [qj (bnD b o q)];exact U.free b o (k23 b o q) n hx
      ·obtain ⟨o',z⟩:=U.there b o (k23 b o q) hx
       exact ⟨o',kC b _ (bne b o q) z⟩
      ·have:=U.tups b xs q
       rw [qj (qq this hD5)];exact this
      ·have:=U.frzs b o u q
       rw [qj (qq this hD5)];exact this
      ·obtain ⟨more,z,gm⟩:=U.tbls b ps q
       exact ⟨more,by rw [qj (qq z hD5)];exact z,gm.mono fun b o u q=>by rw [qj (qq q hD5)];exact q⟩
     ·intro b u q
      by_cases hb:b=s2.heap.objs.size
      ·subst hb
       rw [qr] at q
       cases q
       exact ⟨hz,its,cp,rv5,kC _ _ (Nat.ne_of_lt hDlt) gD6⟩
      ·rw [qj hb] at q
       refine (I6.hok b u q).stay (fun c ob hc z=>kC c ob ?_ z) (fun c z=>by rw [qj (qq z hD5)];exact z) fun c xs z=>by rw [qj (qq z hD5)];exact z
       rcases hc with hc|hc
       ·rw [hc];exact nC b u q
       ·exact nC c _ hc
     ·intro b hb
      have hb':b=s2.heap.objs.size∨b ∈ fp:=List.mem_cons.mp hb
      rcases hb' with rfl|hb'
      ·exact ⟨.inr I2.sz,Nat.ne_of_gt I2.lt,fun x c q=>Nat.ne_of_lt (cel x c q),fun p hp=>Nat.ne_of_lt (pnl p hp)⟩
      ·obtain ⟨_,a1,_,a3,a4,a5⟩:=f2 b hb'
       exact ⟨a3,a1,a4,a5⟩
    have hCH:(upd H5 s2.heap.objs.size (.lst ys)) s3.heap.objs.size=none:=by
     rw [qj (Nat.ne_of_gt hDlt)];exact I6.free
    exact fin _ _ s6 _ m6 ns6 IX hCH (Nat.ne_of_gt (Nat.lt_trans I2.lt hDlt)) (I2.nofs (Nat.le_of_lt hDlt)) (.inr (Nat.le_trans I2.sz (Nat.le_of_lt hDlt))) (fun x c q=>Nat.ne_of_lt (Nat.lt_trans (cel x c q) hDlt)) (fun p hp=>Nat.ne_of_lt (Nat.lt_trans (pnl p hp) hDlt)) (qn _ hD5)
   ·refine thn (T.item (blk X pins scope (caps++own) s3 H2 (s2.heap.objs.size::fp)) rfl rfl rfl hc i _ s5 σ5 H5 _ I5' (fpk fr5) st5 go) fun r s6 ⟨u,hr,h6⟩=>?_
    subst hr
    refine thn h6 fun _ s7 xx55=>?_
    obtain ⟨x,H7,I7,r7,y7,st7,fr7⟩:=xx55
    have I7':=I7.pinned (fpk fr7) (T.obj _ _ st7)
    refine wpAny_mono (hg pins s3 H2 _ _ s7 σ5 H7 x u _ I7' r7 (step x H7 y7)) (fun _ s8 xx54=>?_) fun _ _ z=>z.elim
    obtain ⟨σ8,H8,I8,q8⟩:=xx54
    refine htst pins s3 H2 _ _ s8 σ8 H8 _ _ _ I8 q8 fun bt s8' H8' I8' q8'=>?_
    cases bt with
    | false =>
     have q9:N0 σ8 H8':=q8'
     obtain ⟨m',hm',w9⟩:=hN0 σ8 H8' q9
     have gD9:=(I8'.pin (s2.heap.objs.size,{ cls :=.type "list",data :=.seq its.toArray cp }) (List.mem_append_right _ (List.mem_append_left _ (List.mem_singleton.mpr rfl))))
     have pin8 : ∀ b ∈ fp,∀ o,s7.heap.get? b=some o→s8'.heap.get? b=some o∧H8' b=none:=fun b hb o q=>by
      have z:=I8'.pin (b,o) (List.mem_append_right _ (List.mem_append_right _ (qfy hb q)))
      exact ⟨z.1,z.2.1⟩
     refine ⟨m',hm',i+1,ys,its,cp,σ8,H8',?_,?_,fun b hb=>?_,gD9.2.1,gD9.1,rv5,w9⟩
     ·exact (I8'.pins_of (pins':=[]) (fun p hp=>by
       first
        | exact absurd hp (by simp)
        | (rw [List.append_nil] at hp;exact I8'.pin p (List.mem_append_left _ hp))))
     ·exact T.keep _ _ _ st7 fun b hb o q=>(pin8 b hb o q).1
     ·obtain ⟨o,q,_⟩:=T.obj _ _ st7 b hb
      exact (pin8 b hb o q).2
    | true =>
     refine wpAny_mono (he pins s3 H2 _ _ s8' σ8 H8' _ I8' q8') (fun uy s9 xx53=>?_) fun _ _ z=>z.elim
     obtain ⟨y,H9,I9,r9,n9⟩:=xx53
     obtain ⟨m',hm',w9⟩:=hN y σ8 H9 n9
     have gD9:=(I9.pin (s2.heap.objs.size,{ cls :=.type "list",data :=.seq its.toArray cp }) (List.mem_append_right _ (List.mem_append_left _ (List.mem_singleton.mpr rfl))))
     have pin9 : ∀ b ∈ fp,∀ o,s7.heap.get? b=some o→s9.heap.get? b=some o∧H9 b=none:=fun b hb o q=>by
      have z:=I9.pin (b,o) (List.mem_append_right _ (List.mem_append_right _ (qfy hb q)))
      exact ⟨z.1,z.2.1⟩
     have hl9:=rv5.length
     refine call_meets PySem.F.slot_list_append ⟨_,gD9.1,rfl⟩ PySem.F.entry_list_append (PySem.F.args_list_append_2 _ _) (PySem.list_append s2.heap.objs.size its.toArray cp uy (by rw [List.size_toArray];omega)) ⟨gD9.1,?_⟩
     have qD:=PySem.IsL.update gD9.1 (fun xs=>xs.push uy)
     have ep:its.toArray.push uy=(its++[uy]).toArray:=by simp
     rw [ep] at qD
     have up : ∀ b o,b≠s2.heap.objs.size→s9.heap.get? b=some o→(s9.heap.update s2.heap.objs.size (Obj.mapSeq fun xs=>xs.push uy)).get? b=some o:=fun b o hb q=>(Heap.get?_update_other s9.heap _ (Ne.symm hb)).trans q
     refine ⟨m',hm',i+1,ys++[y],its++[uy],_,σ8,H9,?_,?_,fun b hb=>?_,gD9.2.1,qD,rv5.append (.cons r9 .nil),w9⟩
     ·refine (I9.pins_of (pins':=[]) (fun p hp=>by
       first
        | exact absurd hp (by simp)
        | (rw [List.append_nil] at hp;exact I9.pin p (List.mem_append_left _ hp)))).turned (it:=s2.heap.objs.size) up gD9.2.1 (Nat.ne_of_lt hDlt) (.inl (List.mem_cons_self ..)) (fun x c q=>(ncl x c q).elim (fun z=>Nat.ne_of_lt (cel x c z)) fun z=>Nat.ne_of_gt (Nat.lt_trans hDlt z)) fun p hp=>?_
      have hp':p ∈ X.pn++pins:=by simpa [blk] using hp
      exact Nat.ne_of_lt (pnl p hp')
     ·exact T.keep _ _ _ st7 fun b hb o q=>up b o (Nat.ne_of_lt (fpl b hb)) (pin9 b hb o q).1
     ·obtain ⟨o,q,_⟩:=T.obj _ _ st7 b hb
      exact (pin9 b hb o q).2
  exact codeAny_compStart_list (loop _ rfl) (T.self _ 0 _ _ _ st4 (loop _ rfl))
theorem qmy (hc:X.calm=true) (S:CompScope X.env scope caps) (hi:PI X target iter wi)
 (hg : ∀ pins s3 H ex,PG (blk X pins scope (caps++own) s3 H ex) target g)
 (he : ∀ pins s3 H ex,PE (blk X pins scope (caps++own) s3 H ex) elt te)
 (hix:caps.length=ix.length) (hcapB:(caps.zip ix).all (fun p=>X.N[p.2]?==some p.1)=true)
 (hs : ∀ x,foldedSetIterable iter X.env x=pure x) {use:Option (Value→Sem Unit)}{Q0:Value→Shared→Prop}{Qv:VK}{pins:List (Addr×Obj)}{s:Shared}{σ:St}{H:Hp}{pos':Pos} (I:Inv X pins σ H s) (h:qxc ix own.length wi g te σ H Qv)
 (fin : ∀ (D C:Addr) (s6:Shared) (H6:Hp) (m6:Str→Option Value),s6.heap.Ns C m6→Inv X pins σ H6 s6→H6 C=none→C≠X.env.locals→C ∉ X.fs→(C ∈ X.ex∨X.s₀.heap.objs.size≤C)→(∀ x c,X.env.cells.lookup x=some c→c≠C)→(∀ p ∈ X.pn++pins,p.1≠C)→Qv (.ref D) H6 →
 compPost (model X.prog X.w) X.A X.xe use Q0 (.ref D) C (.ok .next) s6) :
 wpAny (model X.prog X.w) X.A (comprehension (.ListComp elt [⟨target,iter,[],0⟩] scope pos) scope X.env pos' (newList []) false (eval iter X.env) use) Q0 X.xe s:=by
  refine qrh (cs:=[]) (tt:=tYes) (Tst:=fun _ P _ s=>P true s) (fun J turn n h=>qgk J turn n h) hc S hi hg he (fun _ _ _ _ _ s _ H' _ _ _ I q k=>k true s H' I q) hix hcapB hs I h (fun J H1 z=>?_) fin
  obtain ⟨W,w0,turn⟩:=z
  refine ⟨W,w0,fun i m ys σ1 H2 w=>?_⟩
  rcases turn i m ys σ1 H2 w with z|z
  ·exact .inl z
  ·obtain ⟨go,hz,N,hN,step⟩:=z
   exact .inr ⟨go,hz,N,fun _ _=>False,hN,fun _ _ z=>z.elim,step⟩
theorem qyg (hc:X.calm=true) (S:CompScope X.env scope caps) (hi:PI X target iter wi)
 (hg : ∀ pins s3 H ex,PG (blk X pins scope (caps++own) s3 H ex) target g)
 (he : ∀ pins s3 H ex,PE (blk X pins scope (caps++own) s3 H ex) elt te)
 (hix:caps.length=ix.length:=by rfl) (hcapB:(caps.zip ix).all (fun p=>X.N[p.2]?==some p.1)=true:=by rfl)
  (hs : ∀ x,foldedSetIterable iter X.env x=pure x:=by intro _;rfl):PE X (.ListComp elt [⟨target,iter,[],0⟩] scope pos) (qxc ix own.length wi g te):=by
  intro pins s σ H Q I h
  rw [eval_ListComp]
  exact qmy (use:=none) (Q0:=EP X pins σ Q) hc S hi hg he hix hcapB hs I h fun D C s6 H6 m6 ns6 IX c1 c2 c3 c4 c5 c6 q=>⟨m6,ns6,fun h' sb=>⟨.ref D,H6,IX.turned (t':=s6.toks) (it:=C) (fun b o hb q=>sb.extBut b o hb q) c1 c2 c4 c5 c6,rfl,q⟩⟩
end
end L2
namespace L2
open PySem PySem.Spec PyProof.Rows
inductive Sl where
 | non
 | val (d:PyData)
 | own (ds:List PyData)
 | pen (ds:List PyData)
 | new (d:PyData)
 | exc (C:Addr)
  | obj (a C:Addr) (nm:List Str) (fs:List (Str×PyData))
abbrev Sto:=List Sl
def gS:Sto→Nat→Sl
 | [],_ => .non
 | s::_,0=>s
 | _::r,i+1=>gS r i
def Sl.mut:Sl→Bool
 | .own _=>true
 | .pen _=>true
 | _=>false
def vS (σ:St) (i:Nat):Option V:=(σ[i]?).join
theorem qef : ∀ (e:Sto) (i j:Nat) (s:Sl),gS (e.set i s) j=if i=j∧i<e.length then s else gS e j
 | [],i,j,s=>by simp [gS]
 | x::e,0,0,s=>by simp [gS]
 | x::e,0,j+1,s=>by simp [gS]
 | x::e,i+1,0,s=>by simp [gS]
 | x::e,i+1,j+1,s=>by
  simp only [List.set_cons_succ,gS,qef e i j s,List.length_cons,Nat.add_right_cancel_iff,Nat.add_lt_add_iff_right]
theorem qxr : ∀ {e:Sto}{i:Nat},e.length≤i→gS e i = .non
 | [],_,_=>by simp [gS]
 | x::e,0,h=>by simp at h
 | x::e,i+1,h=>by simp only [gS];exact qxr (by simpa using h)
theorem qsx (σ:St) (i j:Nat) (v:Option V):vS (σ.set i v) j=if i=j∧i<σ.length then v else vS σ j:=by
 unfold vS
 rw [List.getElem?_set]
 by_cases h:i=j
 ·subst h
  by_cases h2:i<σ.length
  ·simp [h2]
  ·simp [h2]
 ·simp [h]
theorem qcl {σ:St}{i:Nat}{v:V} (h:vS σ i=some v):σ[i]?=some (some v):=by
 unfold vS at h
 cases e:σ[i]? with
 | none=>rw [e] at h;cases h
 | some o=>rw [e] at h;cases o with
  | none=>cases h
  | some u=>simpa using h
structure Frm where
 B:Hp
 He:Hp
 F0:Hp
mutual
def IsN (K:PySem.W.Frag) (H:Hp):PyData→V→Prop
 | .none,v=>v = .non
 | .bool b,v=>v = .bl b
 | .int i,v=>v = .int i
 | .str x,v=>v = .str x
 | .list l,v => ∃ a xs,v = .ref a∧H a=some (.lst xs)∧IssN K H l xs
 | .tuple l,v => ∃ a xs,v = .ref a∧H a=some (.tup xs)∧IssN K H l xs
 | .dict _,_=>False
def IssN (K:PySem.W.Frag) (H:Hp):List PyData→List V→Prop
 | [],xs=>xs=[]
 | d::l,xs => ∃ x r,xs=x::r∧IsN K H d x∧IssN K H l r
end
mutual
theorem IsN.is {K:PySem.W.Frag}{H H':Hp} (s:Same H H') : ∀ {d:PyData}{v:V},IsN K H d v→Is K H' d v
 | .none,_,h=>by unfold IsN at h;unfold Is;exact h
 | .bool _,_,h=>by unfold IsN at h;unfold Is;exact h
 | .int _,_,h=>by unfold IsN at h;unfold Is;exact h
 | .str _,_,h=>by unfold IsN at h;unfold Is;exact h
 | .list l,_,h=>by
  unfold IsN at h;unfold Is
  obtain ⟨a,xs,e,q,r⟩:=h
  exact ⟨a,xs,e,SqL.of (s _ _ q),IssN.is s r⟩
 | .tuple l,_,h=>by
  unfold IsN at h;unfold Is
  obtain ⟨a,xs,e,q,r⟩:=h
  exact ⟨a,xs,e,SqT.of (s _ _ q),IssN.is s r⟩
 | .dict _,_,h=>by unfold IsN at h;exact h.elim
theorem IssN.is {K:PySem.W.Frag}{H H':Hp} (s:Same H H') : ∀ {l:List PyData}{xs:List V},IssN K H l xs→Iss K H' l xs
 | [],_,h=>by unfold IssN at h;unfold Iss;exact h
 | d::l,_,h=>by
  unfold IssN at h;unfold Iss
  obtain ⟨x,r,e,p,q⟩:=h
  exact ⟨x,r,e,IsN.is s p,IssN.is s q⟩
end
mutual
theorem IsN.mono {K:PySem.W.Frag}{H H':Hp} (s:Same H H') : ∀ {d:PyData}{v:V},IsN K H d v→IsN K H' d v
 | .none,_,h=>by unfold IsN at h ⊢;exact h
 | .bool _,_,h=>by unfold IsN at h ⊢;exact h
 | .int _,_,h=>by unfold IsN at h ⊢;exact h
 | .str _,_,h=>by unfold IsN at h ⊢;exact h
 | .list l,_,h=>by
  unfold IsN at h ⊢
  obtain ⟨a,xs,e,q,r⟩:=h
  exact ⟨a,xs,e,s _ _ q,IssN.mono s r⟩
 | .tuple l,_,h=>by
  unfold IsN at h ⊢
  obtain ⟨a,xs,e,q,r⟩:=h
  exact ⟨a,xs,e,s _ _ q,IssN.mono s r⟩
 | .dict _,_,h=>by unfold IsN at h;exact h.elim
theorem IssN.mono {K:PySem.W.Frag}{H H':Hp} (s:Same H H') : ∀ {l:List PyData}{xs:List V},IssN K H l xs→IssN K H' l xs
 | [],_,h=>by unfold IssN at h ⊢;exact h
 | d::l,_,h=>by
  unfold IssN at h ⊢
  obtain ⟨x,r,e,p,q⟩:=h
  exact ⟨x,r,e,IsN.mono s p,IssN.mono s q⟩
end
theorem zaeb {K:PySem.W.Frag}{H:Hp}:IssN K H [] []:=by unfold IssN;rfl
theorem zabf {K:PySem.W.Frag}{H:Hp}{d:PyData}{l:List PyData}{x:V}{xs:List V} (h:IsN K H d x) (r:IssN K H l xs):IssN K H (d::l) (x::xs):=by unfold IssN;exact ⟨x,xs,rfl,h,r⟩
def qlp (M:Frm) (F:Hp):Hp:=fun b=>if (M.He b).isNone=true∧(M.B b).isNone=true then F b else none
theorem qgg {M:Frm}{F:Hp}:Same (qlp M F) F:=fun b o e=>by
 unfold qlp at e;split at e
 ·exact e
 ·cases e
theorem qqb {M:Frm}{F F':Hp} (s:Same F F'):Same (qlp M F) (qlp M F'):=fun b o e=>by
 unfold qlp at e ⊢;split at e
 ·rename_i h;rw [if_pos h];exact s b o e
 ·cases e
theorem qzz {M:Frm}{F:Hp}{a:Addr}{o:HO} (h1:M.He a=none) (h2:M.B a=none) (h3:F a=some o):qlp M F a=some o:=by
 unfold qlp;rw [if_pos ⟨by rw [h1];rfl,by rw [h2];rfl⟩];exact h3
theorem zadz {M:Frm}{F:Hp}{a:Addr}{o:HO} (h:qlp M F a=some o):M.He a=none∧M.B a=none∧F a=some o:=by
 unfold qlp at h;split at h
 ·rename_i z;exact ⟨Option.isNone_iff_eq_none.mp z.1,Option.isNone_iff_eq_none.mp z.2,h⟩
 ·cases h
def excO (C ea:Addr):HO :=.ext fun h => ∃ o,h.get? ea=some o∧o.cls = .ref C
section
variable (K:PySem.W.Frag) (M:Frm) (F H:Hp)
def SlotOk:Sl→Option V→Prop
 | .non,_=>True
 | .val d,x => ∃ v,x=some v∧Is K F d v
 | .own ds,x => ∃ a vs,x=some (.ref a)∧H a=some (.lst vs)∧F a=none∧M.B a=none∧M.He a=none∧Iss K F ds vs
 | .pen ds,x => ∃ a vs,x=some (.ref a)∧H a=some (.lst vs)∧F a=none∧M.B a=none∧(∃ o,M.He a=some o)∧Iss K F ds vs
 | .new d,x => ∃ v,x=some v∧IsN K (qlp M F) d v
 | .exc C,x => ∃ ea,x=some (.ref ea)∧F ea=some (excO C ea)
 | .obj a C nm fs,x => ∃ dx vs,x=some (.ref a)∧M.B a=some (.ins C dx vs)∧vs.map (·.1)=nm ∧ ∀ f d,(f,d) ∈ fs → ∃ v,vs.lookup f=some v∧Is K F d v
structure EnvOk (env:Sto) (σ:St):Prop where
 len:env.length=σ.length
 slot : ∀ i,SlotOk K M F H (gS env i) (vS σ i)
 dis : ∀ i j a,i≠j→(gS env i).mut=true→(gS env j).mut=true→vS σ i=some (.ref a)→vS σ j=some (.ref a)→False
 f0:Same M.F0 F
 fe:Same M.F0 M.He
 fh:Same F H
 bh:Same M.B H
 new : ∀ b o,F b=some o→M.F0 b=some o∨M.He b=none
 dom : ∀ b o,M.He b=some o → ∃ o',H b=some o'
end
structure Go (F H F' H':Hp):Prop where
 f:Same F F'
 h:Same H H'
 fh:Same F' H'
 new : ∀ b o,F' b=some o→F b=some o∨H b=none
theorem qW {H H':Hp} (s:Same H H') {b:Addr} (h:H' b=none):H b=none:=s.free h
theorem Go.refl {F H:Hp} (s:Same F H):Go F H F H:=⟨.refl _,.refl _,s,fun _ _ h => .inl h⟩
theorem Go.trans {F H F1 H1 F2 H2:Hp} (a:Go F H F1 H1) (b:Go F1 H1 F2 H2):Go F H F2 H2 :=
 ⟨a.f.trans b.f,a.h.trans b.h,b.fh,fun c o h=>(b.new c o h).elim (fun q=>a.new c o q) fun q => .inr (qW a.h q)⟩
theorem Go.put {F H:Hp}{p:Addr}{o:HO} (s:Same F H) (h:H p=none):Go F H (upd F p o) (upd H p o):=by
 refine ⟨qcx (qW s h),qcx h,fun b u e=>?_,fun b u e=>?_⟩
 ·unfold upd at e ⊢
  split at e
  ·rename_i z;rw [if_pos z];exact e
  ·rename_i z;rw [if_neg z];exact s b u e
 ·unfold upd at e
  split at e
  ·rename_i z;subst z;exact .inr h
  ·exact .inl e
theorem Go.side {F H:Hp}{p:Addr}{o:HO} (s:Same F H) (h:H p=none):Go F H F (upd H p o) :=
 ⟨.refl _,qcx h,s.trans (qcx h),fun _ _ e => .inl e⟩
section
variable {K:PySem.W.Frag}{M:Frm}{F H F' H':Hp}{env:Sto}{σ:St}
theorem SlotOk.go {s:Sl}{x:Option V} (h:SlotOk K M F H s x) (g:Go F H F' H'):SlotOk K M F' H' s x:=by
 have nf : ∀ {a:Addr}{o:HO},H a=some o→F a=none→F' a=none:=fun {a o} h1 h2=>by
  cases e:F' a with
  | none=>rfl
  | some u=>rcases g.new a u e with q|q
            ·rw [h2] at q;cases q
            ·rw [h1] at q;cases q
 cases s with
 | non=>trivial
 | val d=>obtain ⟨v,e,i⟩:=h;exact ⟨v,e,i.mono g.f⟩
 | own ds=>obtain ⟨a,vs,e,h1,h2,h3,h4,h5⟩:=h;exact ⟨a,vs,e,g.h _ _ h1,nf h1 h2,h3,h4,h5.mono g.f⟩
 | pen ds=>obtain ⟨a,vs,e,h1,h2,h3,hx,h5⟩:=h;exact ⟨a,vs,e,g.h _ _ h1,nf h1 h2,h3,hx,h5.mono g.f⟩
 | new d=>obtain ⟨v,e,i⟩:=h;exact ⟨v,e,i.mono (qqb g.f)⟩
 | exc C=>obtain ⟨ea,e,i⟩:=h;exact ⟨ea,e,g.f _ _ i⟩
 | obj a0 C nm fs=>obtain ⟨dx,vs,e,b,hn,i⟩:=h;exact ⟨dx,vs,e,b,hn,fun f d m=>let ⟨v,l,j⟩:=i f d m; ⟨v,l,j.mono g.f⟩⟩
theorem EnvOk.go (I:EnvOk K M F H env σ) (g:Go F H F' H'):EnvOk K M F' H' env σ where
 len:=I.len
 slot:=fun i=>(I.slot i).go g
 dis:=I.dis
 f0:=I.f0.trans g.f
 fe:=I.fe
 fh:=g.fh
 bh:=I.bh.trans g.h
 new:=fun b o e=>(g.new b o e).elim (fun q=>I.new b o q) fun q=>by
  refine .inr ?_
  cases z:M.He b with
  | none=>rfl
  | some u=>obtain ⟨o',q'⟩:=I.dom b u z;rw [q] at q';cases q'
 dom:=fun b o e=>let ⟨o',q⟩:=I.dom b o e; ⟨o',g.h _ _ q⟩
theorem EnvOk.he (I:EnvOk K M F H env σ) {a:Addr} (h:H a=none):M.He a=none:=by
 cases z:M.He a with
 | none=>rfl
 | some u=>obtain ⟨o',q'⟩:=I.dom a u z;rw [h] at q';cases q'
theorem EnvOk.setv (I:EnvOk K M F H env σ) {i:Nat}{d:PyData}{v:V} (h:Is K F d v):EnvOk K M F H (env.set i (.val d)) (σ.set i (some v)) where
 len:=by rw [List.length_set,List.length_set];exact I.len
 slot:=fun j=>by
  rw [qef,qsx,I.len]
  split
  ·exact ⟨v,rfl,h⟩
  ·exact I.slot j
 dis:=fun j k a hjk h1 h2 h3 h4=>by
  rw [qef] at h1 h2
  rw [qsx] at h3 h4
  rw [I.len] at h1 h2
  split at h1
  ·cases h1
  ·rename_i z1
   split at h2
   ·cases h2
   ·rename_i z2
    rw [if_neg z1] at h3
    rw [if_neg z2] at h4
    exact I.dis j k a hjk h1 h2 h3 h4
 f0:=I.f0
 fe:=I.fe
 fh:=I.fh
 bh:=I.bh
 new:=I.new
 dom:=I.dom
theorem EnvOk.seto (I:EnvOk K M F H env σ) {i:Nat}{ds:List PyData}{a:Addr}{vs:List V} (h1:H a=some (.lst vs)) (h2:F a=none) (h3:M.B a=none) (h4:M.He a=none)
 (h5 : ∀ j,(gS env j).mut=true→vS σ j≠some (.ref a)) (h6:Iss K F ds vs):EnvOk K M F H (env.set i (.own ds)) (σ.set i (some (.ref a))) where
  len:=by rw [List.length_set,List.length_set];exact I.len
  slot:=fun j=>by
   rw [qef,qsx,I.len]
   split
   ·exact ⟨a,vs,rfl,h1,h2,h3,h4,h6⟩
   ·exact I.slot j
  dis:=fun j k b hjk m1 m2 e1 e2=>by
   rw [qef] at m1 m2
   rw [qsx] at e1 e2
   rw [I.len] at m1 m2
   by_cases z1:i=j∧i<σ.length
   ·rw [if_pos z1] at m1 e1
    have z2 : ¬ (i=k∧i<σ.length):=fun z=>hjk (z1.1.symm.trans z.1)
    rw [if_neg z2] at m2 e2
    injection e1 with e1;injection e1 with e1;subst e1
    exact h5 k m2 e2
   ·rw [if_neg z1] at m1 e1
    by_cases z2:i=k∧i<σ.length
    ·rw [if_pos z2] at m2 e2
     injection e2 with e2;injection e2 with e2;subst e2
     exact h5 j m1 e1
    ·rw [if_neg z2] at m2 e2
     exact I.dis j k b hjk m1 m2 e1 e2
  f0:=I.f0
  fe:=I.fe
  fh:=I.fh
  bh:=I.bh
  new:=I.new
  dom:=I.dom
def Sl.upd:Sl→List PyData→Sl
 | .own _,ds => .own ds
 | .pen _,ds => .pen ds
 | s,_=>s
def Sl.cnt:Sl→List PyData
 | .own ds=>ds
 | .pen ds=>ds
 | _=>[]
theorem SlotOk.addr {s:Sl}{x:Option V} (h:SlotOk K M F H s x) (m:s.mut=true) : ∃ a vs,x=some (.ref a)∧H a=some (.lst vs)∧F a=none∧M.B a=none∧Iss K F s.cnt vs:=by
 cases s with
 | non=>cases m
 | val d=>cases m
 | own ds=>obtain ⟨a,vs,e,h1,h2,h3,h4,h5⟩:=h;exact ⟨a,vs,e,h1,h2,h3,h5⟩
 | pen ds=>obtain ⟨a,vs,e,h1,h2,h3,hx,h5⟩:=h;exact ⟨a,vs,e,h1,h2,h3,h5⟩
 | new d=>cases m
 | exc C=>cases m
 | obj a0 C nm fs=>cases m
theorem zalv {e:Sto}{i:Nat} (h:(gS e i).mut=true):i<e.length:=by
 by_cases z:i<e.length
 ·exact z
 ·rw [qxr (by omega)] at h;cases h
theorem EnvOk.chg (I:EnvOk K M F H env σ) {i:Nat}{a:Addr}{ds:List PyData}{vs:List V} (m:(gS env i).mut=true) (ea:vS σ i=some (.ref a)) (h:Iss K F ds vs):EnvOk K M F (upd H a (.lst vs)) (env.set i ((gS env i).upd ds)) σ:=by
 obtain ⟨a',vs0,e,h1,h2,h3,h5⟩:=(I.slot i).addr m
 rw [ea] at e;injection e with e;injection e with e;subst e
 have hi:=zalv m
 have mu:((gS env i).upd ds).mut=true:=by
  cases q:gS env i with
  | non=>rw [q] at m;cases m
  | val d=>rw [q] at m;cases m
  | own d=>rfl
  | pen d=>rfl
  | new d=>rw [q] at m;cases m
  | exc C=>rw [q] at m;cases m
  | obj a0 C nm fs=>rw [q] at m;cases m
 have muj : ∀ j,(gS (env.set i ((gS env i).upd ds)) j).mut=(gS env j).mut:=fun j=>by
  rw [qef]
  split
  ·rename_i z;rw [mu,← z.1,m]
  ·rfl
 refine ⟨by rw [List.length_set];exact I.len,fun j=>?_,fun j k b hjk m1 m2 e1 e2=>I.dis j k b hjk (muj j ▸ m1) (muj k ▸ m2) e1 e2,I.f0,I.fe,fun b o e=>?_,fun b o e=>?_,I.new,fun b o e=>?_⟩
 ·rw [qef]
  by_cases z:i=j
  ·subst z
   rw [if_pos ⟨rfl,hi⟩]
   have S:=I.slot i
   cases q:gS env i with
   | non=>rw [q] at m;cases m
   | val d=>rw [q] at m;cases m
   | own ds0 =>
    rw [q] at S
    obtain ⟨a',vs',e,g1,g2,g3,g4,g5⟩:=S
    rw [ea] at e;injection e with e;injection e with e;subst e
    exact ⟨a,vs,ea,qr,g2,g3,g4,h⟩
   | pen ds0 =>
    rw [q] at S
    obtain ⟨a',vs',e,g1,g2,g3,gx,g5⟩:=S
    rw [ea] at e;injection e with e;injection e with e;subst e
    exact ⟨a,vs,ea,qr,g2,g3,gx,h⟩
   | new d=>rw [q] at m;cases m
   | exc C=>rw [q] at m;cases m
   | obj a0 C nm fs=>rw [q] at m;cases m
  ·rw [if_neg (fun y=>z y.1)]
   have S:=I.slot j
   cases q:gS env j with
   | non=>trivial
   | val d=>rw [q] at S;exact S
   | own ds0 =>
    rw [q] at S
    obtain ⟨b,vs',e,g1,g2,g3,g4,g5⟩:=S
    have hb:b≠a:=fun y=>by subst y;exact I.dis i j b z m (by rw [q];rfl) ea e
    exact ⟨b,vs',e,by rw [qj hb];exact g1,g2,g3,g4,g5⟩
   | pen ds0 =>
    rw [q] at S
    obtain ⟨b,vs',e,g1,g2,g3,gx,g5⟩:=S
    have hb:b≠a:=fun y=>by subst y;exact I.dis i j b z m (by rw [q];rfl) ea e
    exact ⟨b,vs',e,by rw [qj hb];exact g1,g2,g3,gx,g5⟩
   | new d=>rw [q] at S;exact S
   | exc C=>rw [q] at S;exact S
   | obj a0 C nm fs=>rw [q] at S;exact S
 ·rw [qj (qq e h2)];exact I.fh b o e
 ·rw [qj (qq e h3)];exact I.bh b o e
 ·obtain ⟨o',q⟩:=I.dom b o e
  by_cases z:b=a
  ·subst z;exact ⟨_,qr⟩
  ·exact ⟨o',by rw [qj z];exact q⟩
theorem EnvOk.frz (I:EnvOk K M F H env σ) {a:Addr}{vs:List V} (h1:H a=some (.lst vs)) (h2:F a=none) (h4:M.He a=none) (h5 : ∀ j,(gS env j).mut=true→vS σ j≠some (.ref a)) :
 EnvOk K M (upd F a (.lst vs)) H env σ∧Same F (upd F a (.lst vs)):=by
  have sF:Same F (upd F a (.lst vs)):=qcx h2
  refine ⟨⟨I.len,fun j=>?_,I.dis,I.f0.trans sF,I.fe,fun b o e=>?_,I.bh,fun b o e=>?_,I.dom⟩,sF⟩
  ·have S:=I.slot j
   have n5:=h5 j
   cases q:gS env j with
   | non=>trivial
   | val d=>rw [q] at S;obtain ⟨v,e,i⟩:=S;exact ⟨v,e,i.mono sF⟩
   | own ds0 =>
    rw [q] at S n5
    obtain ⟨b,vs',e,g1,g2,g3,g4,g5⟩:=S
    have hb:b≠a:=fun y=>by subst y;exact n5 rfl e
    exact ⟨b,vs',e,g1,by rw [qj hb];exact g2,g3,g4,g5.mono sF⟩
   | pen ds0 =>
    rw [q] at S n5
    obtain ⟨b,vs',e,g1,g2,g3,gx,g5⟩:=S
    have hb:b≠a:=fun y=>by subst y;exact n5 rfl e
    exact ⟨b,vs',e,g1,by rw [qj hb];exact g2,g3,gx,g5.mono sF⟩
   | new d=>rw [q] at S;obtain ⟨v,e,i⟩:=S;exact ⟨v,e,i.mono (qqb sF)⟩
   | exc C=>rw [q] at S;obtain ⟨ea,e,i⟩:=S;exact ⟨ea,e,sF _ _ i⟩
   | obj a0 C nm fs=>rw [q] at S;obtain ⟨dx,vs',e,b',hn,i⟩:=S;exact ⟨dx,vs',e,b',hn,fun f d m=>let ⟨v,l,j⟩:=i f d m; ⟨v,l,j.mono sF⟩⟩
  ·by_cases z:b=a
   ·subst z;rw [qr] at e;rw [h1];exact e
   ·rw [qj z] at e;exact I.fh b o e
  ·by_cases z:b=a
   ·subst z;exact .inr h4
   ·rw [qj z] at e;exact I.new b o e
theorem EnvOk.drop (I:EnvOk K M F H env σ) (i:Nat):EnvOk K M F H (env.set i .non) σ where
 len:=by rw [List.length_set];exact I.len
 slot:=fun j=>by
  rw [qef]
  split
  ·trivial
  ·exact I.slot j
 dis:=fun j k a hjk h1 h2 h3 h4=>by
  rw [qef] at h1 h2
  split at h1
  ·cases h1
  ·split at h2
   ·cases h2
   ·exact I.dis j k a hjk h1 h2 h3 h4
 f0:=I.f0
 fe:=I.fe
 fh:=I.fh
 bh:=I.bh
 new:=I.new
 dom:=I.dom
theorem EnvOk.tell (I:EnvOk K M F H env σ) {i:Nat}{d:PyData}{v:V} (e:vS σ i=some v) (h:Is K F d v):EnvOk K M F H (env.set i (.val d)) σ where
 len:=by rw [List.length_set];exact I.len
 slot:=fun j=>by
  rw [qef]
  split
  ·rename_i z;rw [← z.1];exact ⟨v,e,h⟩
  ·exact I.slot j
 dis:=fun j k a hjk h1 h2 h3 h4=>by
  rw [qef] at h1 h2
  split at h1
  ·cases h1
  ·split at h2
   ·cases h2
   ·exact I.dis j k a hjk h1 h2 h3 h4
 f0:=I.f0
 fe:=I.fe
 fh:=I.fh
 bh:=I.bh
 new:=I.new
 dom:=I.dom
def Sl.fz:Sl→Sl
 | .own ds => .val (.list ds)
 | s=>s
theorem EnvOk.freeze (I:EnvOk K M F H env σ) (i:Nat) : ∃ F',EnvOk K M F' H (env.set i (gS env i).fz) σ∧Same F F':=by
 have same : ∀ s,gS env i=s→env.set i s=env:=fun s h=>by
  subst h
  apply List.ext_getElem?
  intro j
  rw [List.getElem?_set]
  split
  ·rename_i z
   subst z
   split
   ·rename_i hi
    have : ∀ (e:Sto) (n:Nat) (h:n<e.length),some (gS e n)=e[n]?:=by
     intro e
     induction e with
     | nil=>intro n h;simp at h
     | cons x e ih=>intro n h;cases n with
      | zero=>rfl
      | succ n=>simp only [gS,List.getElem?_cons_succ];exact ih n (by simpa using h)
    exact this env i hi
   ·rename_i hi
    rw [List.getElem?_eq_none (by omega)]
  ·rfl
 cases q:gS env i with
 | non=>exact ⟨F,by rw [show Sl.fz .non = .non from rfl,same _ q];exact I,.refl _⟩
 | val d=>exact ⟨F,by rw [show Sl.fz (.val d) = .val d from rfl,same _ q];exact I,.refl _⟩
 | pen ds=>exact ⟨F,by rw [show Sl.fz (.pen ds) = .pen ds from rfl,same _ q];exact I,.refl _⟩
 | new d=>exact ⟨F,by rw [show Sl.fz (.new d) = .new d from rfl,same _ q];exact I,.refl _⟩
 | exc C=>exact ⟨F,by rw [show Sl.fz (.exc C) = .exc C from rfl,same _ q];exact I,.refl _⟩
 | obj a0 C nm fs=>exact ⟨F,by rw [show Sl.fz (.obj a0 C nm fs) = .obj a0 C nm fs from rfl,same _ q];exact I,.refl _⟩
 | own ds =>
  have S:=I.slot i
  rw [q] at S
  obtain ⟨a,vs,e,h1,h2,h3,h4,h5⟩:=S
  obtain ⟨J,s⟩:=(I.drop i).frz h1 h2 h4 (fun j m z=>by
   rw [qef] at m
   split at m
   ·cases m
   ·rename_i hn
    by_cases hij:i=j
    ·subst hij
     exact hn ⟨rfl,zalv (by rw [q];rfl)⟩
    ·exact I.dis i j a hij (by rw [q];rfl) m e z)
  have T:=J.tell (i:=i) (d :=.list ds) e (qfh (SqL.of qr) (h5.mono s))
  rw [List.set_set] at T
  exact ⟨_,T,s⟩
end
end L2
namespace L2
open PySem PySem.Spec PyProof.Rows
abbrev WE:=Sto→(PyData→Sto→Prop)→Prop
abbrev WF:=Sto→(List PyData→Sto→Prop)→Prop
abbrev WT:=Sto→(Bool→Sto→Prop)→Prop
inductive Ret where
 | val (d:PyData)
 | own (ds:List PyData)
 | new (d:PyData)
def Ret.data:Ret→PyData
 | .val d=>d
 | .own ds => .list ds
 | .new d=>d
structure WEnds where
 nx:Sto→Prop
 rt:Ret→Sto→Prop
 bk:Sto→Prop:=fun _=>False
 ct:Sto→Prop:=fun _=>False
abbrev WS:=WEnds→Sto→Prop
abbrev WG:=PyData→Sto→(Sto→Prop)→Prop
abbrev WGs:=List PyData→Sto→(Sto→Prop)→Prop
abbrev D2:=PyData→PyData→(PyData→Prop)→Prop
abbrev DC:=List PyData→(PyData→Prop)→Prop
section
variable (K:PySem.W.Frag)
def qcw (W:WE):TE:=fun σ H R => ∃ M env F Q,EnvOk K M F H env σ∧W env Q ∧ ∀ d v F' H' env',EnvOk K M F' H' env' σ→Same F F'→Is K F' d v→Q d env'→R v H'
def qwh (W:WF):TE:=fun σ H R => ∃ M env F Q,EnvOk K M F H env σ∧W env Q ∧ ∀ a vs ds F' H' env',EnvOk K M F' H' env' σ→Same F F'→H' a=some (.lst vs)→F' a=none→M.B a=none→M.He a=none →
 (∀ i,(gS env' i).mut=true→vS σ i≠some (.ref a))→Iss K F' ds vs→Q ds env'→R (.ref a) H'
def qgl (W:WF):TA:=fun σ H R => ∃ M env F Q,EnvOk K M F H env σ∧W env Q ∧ ∀ ds vs F' H' env',EnvOk K M F' H' env' σ→Same F F'→Iss K F' ds vs→Q ds env'→R vs H'
def qta (W:WT):TT:=fun σ H R => ∃ M env F Q,EnvOk K M F H env σ∧W env Q ∧ ∀ b F' H' env',EnvOk K M F' H' env' σ→Same F F'→Q b env'→R b H'
def RetOk (M:Frm) (F H:Hp):Ret→V→Prop
 | .val d,v=>Is K F d v
 | .own ds,v => ∃ a vs,v = .ref a∧H a=some (.lst vs)∧F a=none∧M.B a=none∧M.He a=none∧Iss K F ds vs
 | .new d,v=>IsN K (qlp M F) d v
structure EndsOk (M:Frm) (F:Hp) (DD:WEnds) (D:Ends):Prop where
 nx : ∀ env' F' H' σ',EnvOk K M F' H' env' σ'→Same F F'→DD.nx env'→D.nx σ' H'
 rt : ∀ r v env' F' H' σ',EnvOk K M F' H' env' σ'→Same F F'→RetOk K M F' H' r v→DD.rt r env'→D.rt v H'
 bk : ∀ env' F' H' σ',EnvOk K M F' H' env' σ'→Same F F'→DD.bk env'→D.bk σ' H'
 ct : ∀ env' F' H' σ',EnvOk K M F' H' env' σ'→Same F F'→DD.ct env'→D.ct σ' H'
def zacv (W:WS):TS:=fun D σ H => ∃ M env F DD,EnvOk K M F H env σ∧W DD env∧EndsOk K M F DD D
def qjo (W:WG):TG:=fun v σ H R => ∃ M env F d Q,EnvOk K M F H env σ∧Is K F d v∧W d env Q ∧ ∀ F' H' env' σ',EnvOk K M F' H' env' σ'→Same F F'→Q env'→R σ' H'
def zaof (W:WGs):TGs:=fun vs σ H R => ∃ M env F ds Q,EnvOk K M F H env σ∧Iss K F ds vs∧W ds env Q ∧ ∀ F' H' env' σ',EnvOk K M F' H' env' σ'→Same F F'→Q env'→R σ' H'
def qsr (r:D2):R2:=fun x y H Q => ∃ F dx dy q,Same F H∧Is K F dx x∧Is K F dy y∧r dx dy q ∧ ∀ d v F' H',Go F H F' H'→Is K F' d v→q d→Q v H'
def zaco (r:DC):List V→Hp→VK→Prop:=fun vs H Q => ∃ F ds q,Same F H∧Iss K F ds vs∧r ds q ∧ ∀ d v F' H',Go F H F' H'→Is K F' d v→q d→Q v H'
def qtg (r:List PyData→(List PyData→Prop)→Prop):List V→Hp→VK→Prop:=fun vs H Q => ∃ F ds q,Same F H∧Iss K F ds vs∧r ds q ∧ ∀ l a xs F' H',Go F H F' H'→H a=none→F' a=none→H' a=some (.lst xs)→Iss K F' l xs→q l→Q (.ref a) H'
structure ItD (J:It) (F:Hp) (ds:List PyData):Prop where
 go : ∀ i H,Same F H→i<ds.length→J.go i H
 stop : ∀ H,Same F H→J.stop ds.length H
 yld : ∀ i H x H' F1,Same F F1→Same F1 H→i<ds.length→J.yld i H x H' → ∃ d F2,ds[i]?=some d∧Go F1 H F2 H'∧Is K F2 d x
def qlt (W:WF):TI:=fun σ H R => ∃ M env F Q,EnvOk K M F H env σ∧W env Q ∧ ∀ ds J F' H' env',EnvOk K M F' H' env' σ→Same F F'→ItD K J F' ds→Q ds env'→R J H'
end
section
variable {K:PySem.W.Frag}{M:Frm}{F F':Hp}{DD:WEnds}{D:Ends}
theorem EndsOk.mono (h:EndsOk K M F DD D) (s:Same F F'):EndsOk K M F' DD D :=
 ⟨fun e f g i j k=>h.nx e f g i j (s.trans k),fun r v e f g i j k=>h.rt r v e f g i j (s.trans k),fun e f g i j k=>h.bk e f g i j (s.trans k),fun e f g i j k=>h.ct e f g i j (s.trans k)⟩
end
def VE (X:Cx) (e:Expr) (W:WE):Prop:=PE X e (qcw X.K W)
def VF (X:Cx) (e:Expr) (W:WF):Prop:=PE X e (qwh X.K W)
def VA (X:Cx) (e:List Expr) (W:WF):Prop:=PA X e (qgl X.K W)
def VT (X:Cx) (e:Expr) (W:WT):Prop:=PT X e (qta X.K W)
def VW (X:Cx) (e:Expr) (W:WT):Prop:=PW X e (qta X.K W)
theorem VW.pt {X:Cx}{e:Expr}{W:WT} (h:VW X e W):VT X e W:=PW.pt h
def VS (X:Cx) (st:Stmt) (W:WS):Prop:=PS X st (zacv X.K W)
def VSs (X:Cx) (st:List Stmt) (W:WS):Prop:=PSs X st (zacv X.K W)
def VG (X:Cx) (e:Expr) (W:WG):Prop:=PG X e (qjo X.K W)
def VGs (X:Cx) (e:List Expr) (W:WGs):Prop:=PGs X e (zaof X.K W)
def VI (X:Cx) (tg e:Expr) (W:WF):Prop:=PI X tg e (qlt X.K W)
def OpV (X:Cx) (f:Value→Value→Sem Value) (r:D2):Prop:=OpR X f (qsr X.K r)
def qjg (X:Cx) (f:Value) (r:DC):Prop:=CallR X f (zaco X.K r)
def qpf (X:Cx) (f:Value) (r:List PyData→(List PyData→Prop)→Prop):Prop:=CallR X f (qtg X.K r)
section
variable {X:Cx}
theorem PE.imp {e:Expr}{t t':TE} (h:PE X e t) (i : ∀ σ H Q,t' σ H Q→t σ H Q):PE X e t':=fun pins s σ H Q I q=>h pins s σ H Q I (i σ H Q q)
theorem PA.imp {e:List Expr}{t t':TA} (h:PA X e t) (i : ∀ σ H Q,t' σ H Q→t σ H Q):PA X e t':=fun pos pins s σ H Q I q=>h pos pins s σ H Q I (i σ H Q q)
theorem PT.imp {e:Expr}{t t':TT} (h:PT X e t) (i : ∀ σ H Q,t' σ H Q→t σ H Q):PT X e t':=fun pins s σ H Q I q=>h pins s σ H Q I (i σ H Q q)
theorem PW.imp {e:Expr}{t t':TT} (h:PW X e t) (i : ∀ σ H Q,t' σ H Q→t σ H Q):PW X e t':=fun wh pins s σ H Q I q=>h wh pins s σ H Q I (i σ H Q q)
theorem PS.imp {e:Stmt}{t t':TS} (h:PS X e t) (i : ∀ D σ H,t' D σ H→t D σ H):PS X e t':=fun pins s σ H D I q=>h pins s σ H D I (i D σ H q)
theorem PSs.imp {e:List Stmt}{t t':TS} (h:PSs X e t) (i : ∀ D σ H,t' D σ H→t D σ H):PSs X e t':=fun pins s σ H D I q=>h pins s σ H D I (i D σ H q)
theorem PG.imp {e:Expr}{t t':TG} (h:PG X e t) (i : ∀ v σ H Q,t' v σ H Q→t v σ H Q):PG X e t':=fun pins s σ H v u Q I r q=>h pins s σ H v u Q I r (i v σ H Q q)
theorem PGs.imp {e:List Expr}{t t':TGs} (h:PGs X e t) (i : ∀ v σ H Q,t' v σ H Q→t v σ H Q):PGs X e t':=fun pins s σ H v u Q I r q=>h pins s σ H v u Q I r (i v σ H Q q)
theorem PI.imp {tg e:Expr}{t t':TI} (h:PI X tg e t) (i : ∀ σ H Q,t' σ H Q→t σ H Q):PI X tg e t':=fun pins s σ H Q I q=>h pins s σ H Q I (i σ H Q q)
theorem OpR.imp {f:Value→Value→Sem Value}{r r':R2} (h:OpR X f r) (i : ∀ x y H Q,r' x y H Q→r x y H Q):OpR X f r':=fun pins s σ H x y v u Q I a b q=>h pins s σ H x y v u Q I a b (i x y H Q q)
theorem CallR.imp {f:Value}{r r':List V→Hp→VK→Prop} (h:CallR X f r) (i : ∀ x H Q,r' x H Q→r x H Q):CallR X f r':=fun pins s σ H x u Q I a q=>h pins s σ H x u Q I a (i x H Q q)
theorem IxR.imp {r r':R2} (h:IxR X r) (i : ∀ x y H Q,r' x y H Q→r x y H Q):IxR X r':=fun value slice pins s σ H x y v u Q I a b q=>h value slice pins s σ H x y v u Q I a b (i x y H Q q)
def wVar (i:Nat):WE:=fun env Q=>match gS env i with | .val d=>Q d env | .new d=>Q d env|_=>False
theorem qc (i:Nat) {x:Str}{pos:Pos} (hN:X.N[i]?=some x:=by rfl) (hv:Vis X.env.scope x:=by first|exact Or.inl rfl|exact Or.inr (Or.inl rfl)|exact Or.inr (Or.inr rfl)) (hd:(x==("__debug__" : Str))=false:=by decide)
 (hcd:(x==("__classdict__" : Str))=false:=by decide):VE X (.Name x pos) (wVar i):=(qbb hN hv hd hcd).imp fun σ H R xx58=>by
 obtain ⟨M,env,F,Q,I,h,k⟩:=xx58
 have S:=I.slot i
 unfold wVar at h
 cases q:gS env i with
 | val d =>
  rw [q] at S h
  obtain ⟨v,e,j⟩:=S
  exact ⟨v,qcl e,k d v F H env I (.refl _) j h⟩
 | new d =>
  rw [q] at S h
  obtain ⟨v,e,j⟩:=S
  exact ⟨v,qcl e,k d v F H env I (.refl _) (j.is qgg) h⟩
 | non=>rw [q] at h;exact h.elim
 | own ds=>rw [q] at h;exact h.elim
 | pen ds=>rw [q] at h;exact h.elim
 | exc C=>rw [q] at h;exact h.elim
 | obj a0 C nm fs=>rw [q] at h;exact h.elim
def wC (d:PyData):WE:=fun env Q=>Q d env
theorem ve_c {e:Expr}{v:V}{d:PyData} (h:PE X e (tC v)) (i : ∀ F,Is X.K F d v):VE X e (wC d):=h.imp fun σ H R xx59=>by obtain ⟨M,env,F,Q,I,h,k⟩:=xx59;exact k d v F H env I (.refl _) (i F) h
theorem qe {i j pos}:VE X (.Constant (.int i) j pos) (wC (.int i)):=ve_c zagq fun _=>qab i
theorem qin {b j pos}:VE X (.Constant (.bool b) j pos) (wC (.bool b)):=ve_c zapg fun _=>qfa b
theorem qfi {x:Str}{i:Int}{pos:Pos} (h : ∃ t,X.mg x=some (.int i t)) (hg:Gl X x:=by rfl) (hd:(x==("__debug__" : Str))=false:=by decide):VE X (.Name x pos) (wC (.int i)):=by
 obtain ⟨t,hm⟩:=h
 exact ve_c (zajg (v :=.int i) hg hm ⟨t,rfl⟩ hd) fun _=>qab i
def wOp (r:D2) (Wa Wb:WE):WE:=fun env Q=>Wa env fun x e1=>Wb e1 fun y e2=>r x y fun d=>Q d e2
theorem qnh {r:D2}{Wa Wb:WE}{σ:St}{H:Hp}{R:VK} (h:qcw X.K (wOp r Wa Wb) σ H R):tOp (qsr X.K r) (qcw X.K Wa) (qcw X.K Wb) σ H R:=by
 obtain ⟨M,env,F,Q,I,h,k⟩:=h
 exact ⟨M,env,F,_,I,h,fun d v F1 H1 e1 I1 s1 i1 h1=>⟨M,e1,F1,_,I1,h1,fun d2 v2 F2 H2 e2 I2 s2 i2 h2 =>
  ⟨F2,d,d2,_,I2.fh,i1.mono s2,i2,h2,fun d3 v3 F3 H3 g i3 q=>k d3 v3 F3 H3 e2 (I2.go g) (s1.trans (s2.trans g.f)) i3 q⟩⟩⟩
section
variable {a b c:Expr}{Wa Wb Wc:WE}{pos:Pos}
theorem qw {op:Operator}{r:D2} (ho:OpV X (binaryOp op) r) (ha:VE X a Wa) (hb:VE X b Wb):VE X (.BinOp a op b pos) (wOp r Wa Wb) :=
 (zalg ho ha hb).imp fun _ _ _ h=>qnh h
theorem qml {op:CmpOp}{r:D2} (ho:OpV X (compareOp op) r) (ha:VE X a Wa) (hb:VE X b Wb) (hm:behindInMarks op b=false:=by first|exact zahp _|with_unfolding_all rfl):VE X (.Compare a [op] [b] pos) (wOp r Wa Wb) :=
 (qyz ho ha hb hm).imp fun _ _ _ h=>qnh h
def zack (W:WE):WT:=fun env Q=>W env fun d e=>match d with | .bool b=>Q b e|_=>False
theorem qky {W:WE}{σ:St}{H:Hp}{R:Bool→Hp→Prop} (h:qta X.K (zack W) σ H R):qcw X.K W σ H fun x H' => ∃ k,x = .bl k∧R k H':=by
 obtain ⟨M,env,F,Q,I,h,k⟩:=h
 refine ⟨M,env,F,_,I,h,fun d v F1 H1 e1 I1 s1 i1 h1=>?_⟩
 cases d with
 | bool b=>exact ⟨b,i1.bl_inv,k b F1 H1 e1 I1 s1 h1⟩
 | _=>exact False.elim h1
theorem qaj {op:CmpOp}{r:D2} (ho:OpV X (compareOp op) r) (ha:VE X a Wa) (hb:VE X b Wb) (hm:behindInMarks op b=false:=by first|exact zahp _|with_unfolding_all rfl):VT X (.Compare a [op] [b] pos) (zack (wOp r Wa Wb)) :=
 (zakz ho ha hb hm).imp fun σ H R h=>qnh (qky h)
theorem qar {e:Expr}{W:WE} (h:VE X e W) (he : ∀ whole,isTrue e X.env whole=(do let v ← whole;standAt e.pos;holding [v] (truthy v)):=by intro _;rfl):VT X e (zack W) :=
 (zanw h he).imp fun σ H R h=>qky h
def qxk (r r':D2) (Wa Wb Wc:WE):WE:=fun env Q=>Wa env fun x e1=>Wb e1 fun y e2=>r x y fun z=>match z with
 | .bool k=>if k=true then Wc e2 fun w e3=>r' y w fun d=>Q d e3 else Q (.bool false) e2
 | _=>False
theorem qnb {r r':D2}{σ:St}{H:Hp}{R:VK} (h:qcw X.K (qxk r r' Wa Wb Wc) σ H R):qxv (qsr X.K r) (qsr X.K r') (qcw X.K Wa) (qcw X.K Wb) (qcw X.K Wc) σ H R:=by
 obtain ⟨M,env,F,Q,I,h,k⟩:=h
 refine ⟨M,env,F,_,I,h,fun d v F1 H1 e1 I1 s1 i1 h1=>⟨M,e1,F1,_,I1,h1,fun d2 v2 F2 H2 e2 I2 s2 i2 h2=>⟨F2,d,d2,_,I2.fh,i1.mono s2,i2,h2,fun d3 v3 F3 H3 g i3 q=>?_⟩⟩⟩
 have I3:=I2.go g
 have s3:=s1.trans (s2.trans g.f)
 cases d3 with
 | bool b =>
  refine ⟨b,i3.bl_inv,?_⟩
  cases b with
  | false=>exact qvr (k _ _ F3 H3 e2 I3 s3 (qfa false) q)
  | true=>exact qsc ⟨M,e2,F3,_,I3,q,fun d4 v4 F4 H4 e4 I4 s4 i4 h4=>⟨F4,d2,d4,_,I4.fh,(i2.mono g.f).mono s4,i4,h4,fun d5 v5 F5 H5 g5 i5 q5=>k d5 v5 F5 H5 e4 (I4.go g5) (s3.trans (s4.trans g5.f)) i5 q5⟩⟩
 | _=>exact False.elim q
theorem qup {op op':CmpOp}{r r':D2} (ho:OpV X (compareOp op) r) (ho':OpV X (compareOp op') r') (ha:VE X a Wa) (hb:VE X b Wb) (hc:VE X c Wc)
 (hm:lastMarks [op,op'] [b,c]=false:=by with_unfolding_all rfl):VE X (.Compare a [op,op'] [b,c] pos) (qxk r r' Wa Wb Wc):=(zagf ho ho' ha hb hc hm).imp fun _ _ _ h=>qnb h
theorem qoo {op op':CmpOp}{r r':D2} (ho:OpV X (compareOp op) r) (ho':OpV X (compareOp op') r') (ha:VE X a Wa) (hb:VE X b Wb) (hc:VE X c Wc)
 (hm:lastMarks [op,op'] [b,c]=false:=by with_unfolding_all rfl):VT X (.Compare a [op,op'] [b,c] pos) (zack (qxk r r' Wa Wb Wc)):=(zaeg ho ho' ha hb hc hm).imp fun _ _ _ h=>qnb (qky h)
end
section
variable {a b c:Expr}{Wa Wb Wc:WE}{Ta Tb Tc:WT}{pos:Pos}{rest:List Expr}
def wOr (t u:WT):WT:=fun env Q=>t env fun k e=>if k=true then Q true e else u e Q
def wNot (t:WT):WT:=fun env Q=>t env fun k e=>Q (!k) e
theorem qff (ha:VT X a Ta):VW X (.BoolOp .Or [a] pos) Ta:=zaou ha
theorem qgo (ha:VT X a Ta) (hb:VW X (.BoolOp .Or (b::rest) pos) Tb):VW X (.BoolOp .Or (a::b::rest) pos) (wOr Ta Tb):=(zarg ha hb).imp fun σ H R xx60=>by
 obtain ⟨M,env,F,Q,I,h,k⟩:=xx60
 refine ⟨M,env,F,_,I,h,fun x F1 H1 e1 I1 s1 h1=>?_⟩
 cases x with
 | true=>exact qsc (k true F1 H1 e1 I1 s1 h1)
 | false=>exact qvr ⟨M,e1,F1,Q,I1,h1,fun y F2 H2 e2 I2 s2 h2=>k y F2 H2 e2 I2 (s1.trans s2) h2⟩
theorem qba (ha:VT X a Ta):VT X (.UnaryOp .Not a pos) (wNot Ta):=(zaoy ha).imp fun σ H R xx61=>by
 obtain ⟨M,env,F,Q,I,h,k⟩:=xx61
 exact ⟨M,env,F,_,I,h,fun x F1 H1 e1 I1 s1 h1=>k (!x) F1 H1 e1 I1 s1 h1⟩
def zara (Wa Wb:WE):WE:=fun env Q=>Wa env fun d e=>match d with | .bool k=>if k=true then Wb e Q else Q (.bool false) e|_=>False
def zapy (Wa:WE):WE:=fun env Q=>Wa env fun d e=>match d with | .bool k=>Q (.bool (!k)) e|_=>False
theorem qmk {op} (h:VE X a Wa):VE X (.BoolOp op [a] pos) Wa:=zaor h
theorem qmh (ha:VE X a Wa) (hb:VE X (.BoolOp .And (b::rest) pos) Wb):VE X (.BoolOp .And (a::b::rest) pos) (zara Wa Wb):=(zani ha hb).imp fun σ H R xx62=>by
 obtain ⟨M,env,F,Q,I,h,k⟩:=xx62
 refine ⟨M,env,F,_,I,h,fun d v F1 H1 e1 I1 s1 i1 h1=>?_⟩
 cases d with
 | bool x =>
  refine ⟨x,i1.bl_inv,?_⟩
  cases x with
  | true=>exact qsc ⟨M,e1,F1,Q,I1,h1,fun d2 v2 F2 H2 e2 I2 s2 i2 h2=>k d2 v2 F2 H2 e2 I2 (s1.trans s2) i2 h2⟩
  | false=>exact qvr (k _ _ F1 H1 e1 I1 s1 (qfa false) h1)
 | _=>exact False.elim h1
theorem zang (ha:VE X a Wa):VE X (.UnaryOp .Not a pos) (zapy Wa):=(zaoh ha).imp fun σ H R xx63=>by
 obtain ⟨M,env,F,Q,I,h,k⟩:=xx63
 refine ⟨M,env,F,_,I,h,fun d v F1 H1 e1 I1 s1 i1 h1=>?_⟩
 cases d with
 | bool x=>exact ⟨x,i1.bl_inv,k _ _ F1 H1 e1 I1 s1 (qfa _) h1⟩
 | _=>exact False.elim h1
def wIfE (t:WT) (Wa Wb:WE):WE:=fun env Q=>t env fun k e=>if k=true then Wa e Q else Wb e Q
theorem que (hc:VT X c Tc) (ha:VE X a Wa) (hb:VE X b Wb):VE X (.IfExp c a b pos) (wIfE Tc Wa Wb):=(zage hc ha hb).imp fun σ H R xx64=>by
 obtain ⟨M,env,F,Q,I,h,k⟩:=xx64
 refine ⟨M,env,F,_,I,h,fun x F1 H1 e1 I1 s1 h1=>?_⟩
 cases x with
 | true=>exact qsc ⟨M,e1,F1,Q,I1,h1,fun d2 v2 F2 H2 e2 I2 s2 i2 h2=>k d2 v2 F2 H2 e2 I2 (s1.trans s2) i2 h2⟩
 | false=>exact qvr ⟨M,e1,F1,Q,I1,h1,fun d2 v2 F2 H2 e2 I2 s2 i2 h2=>k d2 v2 F2 H2 e2 I2 (s1.trans s2) i2 h2⟩
end
section
variable {a b:Expr}{Wa Wb:WE}{pos p2:Pos}
def wUn (r:PyData→(PyData→Prop)→Prop) (W:WE):WE:=fun env Q=>W env fun d e=>r d fun y=>Q y e
def dNeg:PyData→(PyData→Prop)→Prop
 | .int i,q=>q (.int (-i))
 | _,_=>False
theorem zamf (ha:VE X a Wa):VE X (.UnaryOp .USub a pos) (wUn dNeg Wa):=(zari zamt ha).imp fun σ H R xx65=>by
 obtain ⟨M,env,F,Q,I,h,k⟩:=xx65
 refine ⟨M,env,F,_,I,h,fun d v F1 H1 e1 I1 s1 i1 h1=>?_⟩
 cases d with
 | int i=>exact ⟨i,i1.int_inv,k _ _ F1 H1 e1 I1 s1 (qab _) h1⟩
 | _=>exact False.elim h1
def dIx:D2
 | .list l,.int i,q => ∃ d,atI l i=some d∧q d
 | .tuple l,.int i,q => ∃ d,atI l i=some d∧q d
 | _,_,_=>False
theorem ix_V:IxR X (qsr X.K dIx):=zanf.imp fun x y H Q xx66=>by
 obtain ⟨F,dx,dy,q,s,i1,i2,h,k⟩:=xx66
 cases dx with
 | list l=>cases dy with
  | int i =>
   obtain ⟨d,e,hq⟩:=h
   obtain ⟨a,xs,rfl,hs,hr⟩:=i1.lst_inv
   obtain ⟨z,ez,hz⟩:=hr.atI e
   exact .inl ⟨a,xs,i,z,rfl,i2.int_inv,s.seq hs,ez,k d z F H (.refl s) hz hq⟩
  | _=>exact False.elim h
 | tuple l=>cases dy with
  | int i =>
   obtain ⟨d,e,hq⟩:=h
   obtain ⟨a,xs,rfl,hs,hr⟩:=i1.tup_inv
   obtain ⟨z,ez,hz⟩:=hr.atI e
   exact .inr (.inl ⟨a,xs,i,z,rfl,i2.int_inv,qK s hs,ez,k d z F H (.refl s) hz hq⟩)
  | _=>exact False.elim h
 | _=>exact False.elim h
theorem qv (ha:VE X a Wa) (hb:VE X b Wb) (hs:qsh b:=by exact (fun _ _=>rfl)):VE X (.Subscript a b pos) (wOp dIx Wa Wb):=(zaia ix_V ha hb hs).imp fun _ _ _ h=>qnh h
abbrev WO:=Sto→(Option Int→Sto→Prop)→Prop
def zapj (K:PySem.W.Frag) (W:WO):TO:=fun σ H R => ∃ M env F Q,EnvOk K M F H env σ∧W env Q ∧ ∀ o F' H' env',EnvOk K M F' H' env' σ→Same F F'→Q o env'→R o H'
def VO (X:Cx) (e:Option Expr) (W:WO):Prop:=PO X e (zapj X.K W)
end
def wL (W:WF):WE:=fun env Q=>W env fun ds e=>Q (.list ds) e
theorem qM {e:Expr}{W:WF} (h:VF X e W):VE X e (wL W):=h.imp fun σ H R xx67=>by
 obtain ⟨M,env,F,Q,I,h,k⟩:=xx67
 refine ⟨M,env,F,_,I,h,fun a vs ds F1 H1 e1 I1 s1 h1 h2 h3 h4 h5 h6 h7=>?_⟩
 obtain ⟨J,s⟩:=I1.frz h1 h2 h4 h5
 exact k _ _ _ H1 e1 J (s1.trans s) (qfh (SqL.of qr) (h6.mono s)) h7
theorem qla {K:PySem.W.Frag}{M:Frm}{F H:Hp}{env:Sto}{σ:St} (I:EnvOk K M F H env σ) {p:Addr} (hp:H p=none) : ∀ i,(gS env i).mut=true→vS σ i≠some (.ref p):=fun i m z=>by
 obtain ⟨b,vs,e,q,_⟩:=(I.slot i).addr m
 rw [z] at e;injection e with e;injection e with e;subst e
 rw [hp] at q;cases q
theorem qke {K:PySem.W.Frag}{M:Frm}{F H:Hp}{env:Sto}{σ:St}{R:VK}{Q:List PyData→Sto→Prop}{F0:Hp}{l:List PyData}{xs:List V} (I:EnvOk K M F H env σ) (s:Same F0 F) (hi:Iss K F l xs) (h:Q l env)
 (k : ∀ a vs ds F' H' env',EnvOk K M F' H' env' σ→Same F0 F'→H' a=some (.lst vs)→F' a=none→M.B a=none→M.He a=none→(∀ i,(gS env' i).mut=true→vS σ i≠some (.ref a))→Iss K F' ds vs→Q ds env'→R (.ref a) H') :
 ∀ p,H p=none→R (.ref p) (upd H p (.lst xs)):=fun p hp =>
  k p xs l F _ env (I.go (.side I.fh hp)) s qr (qW I.fh hp) (qW I.bh hp) (I.he hp) (qla I hp) hi h
section
variable {e:Expr}{es:List Expr}{W:WE}{Wr:WF}{pos:Pos}
def wNil:WF:=fun env Q=>Q [] env
def zaqe (W:WE) (Wr:WF):WF:=fun env Q=>W env fun d e1=>Wr e1 fun ds e2=>Q (d::ds) e2
theorem qd:VA X [] wNil:=qbj.imp fun σ H R xx68=>by obtain ⟨M,env,F,Q,I,h,k⟩:=xx68;exact k [] [] F H env I (.refl _) qS h
theorem qa (ha:VE X e W) (hr:VA X es Wr) (hs:starEach (e::es) X.env=(false,eval e X.env)::starEach es X.env:=by rfl):VA X (e::es) (zaqe W Wr) :=
 (qN ha hr hs).imp fun σ H R xx69=>by obtain ⟨M,env,F,Q,I,h,k⟩:=xx69;exact ⟨M,env,F,_,I,h,fun d v F1 H1 e1 I1 s1 i1 h1=>⟨M,e1,F1,_,I1,h1,fun ds vs F2 H2 e2 I2 s2 i2 h2=>k (d::ds) (v::vs) F2 H2 e2 I2 (s1.trans s2) (qB (i1.mono s2) i2) h2⟩⟩
def wTup (Wr:WF):WE:=fun env Q=>Wr env fun ds e=>ds.length≤sizeLine∧Q (.tuple ds) e
theorem qgj {x1} (h:VA X es Wr):VE X (.Tuple es x1 pos) (wTup Wr):=(zagr h).imp fun σ H R xx70=>by
 obtain ⟨M,env,F,Q,I,h,k⟩:=xx70
 refine ⟨M,env,F,_,I,h,fun ds vs F1 H1 e1 I1 s1 i1 h1=>⟨by rw [i1.len];exact h1.1,fun p hp=>?_⟩⟩
 have g:=Go.put (o:=HO.tup vs) I1.fh hp
 exact k _ _ _ _ e1 (I1.go g) (s1.trans g.f) (qmm (SqT.of qr) (i1.mono g.f)) h1.2
def wLst (Wr:WF):WF:=fun env Q=>Wr env fun ds e=>ds.length≤sizeLine∧Q ds e
theorem qee (h:VA X es Wr):VF X (.List es pos) (wLst Wr):=(zahr h).imp fun σ H R xx71=>by
 obtain ⟨M,env,F,Q,I,h,k⟩:=xx71
 exact ⟨M,env,F,_,I,h,fun ds vs F1 H1 e1 I1 s1 i1 h1=>⟨by rw [i1.len];exact h1.1,qke I1 s1 i1 h1.2 k⟩⟩
end
end
end L2
namespace L2
open PySem PySem.Spec PyProof.Rows
section
variable {X:Cx}
def dI2 (g:Int→Int→(PyData→Prop)→Prop):D2
 | .int i,.int j,q=>g i j q
 | _,_,_=>False
theorem zame {g:Int→Int→(PyData→Prop)→Prop}{x y:PyData}{q:PyData→Prop} (h:dI2 g x y q) : ∃ i j,x = .int i∧y = .int j∧g i j q:=by
 cases x with
 | int i=>cases y with
  | int j=>exact ⟨i,j,rfl,rfl,h⟩
  | _=>exact False.elim h
 | _=>exact False.elim h
theorem zacr {f:Value→Value→Sem Value}{C:Int→Int→Prop}{g:Int→Int→PyData}{gv:Int→Int→V} (h:OpR X f (rI C gv)) (hg : ∀ i j F,Is X.K F (g i j) (gv i j)):OpV X f (dI2 fun i j q=>C i j∧q (g i j)):=h.imp fun x y H Q xx72=>by
 obtain ⟨F,dx,dy,q,s,i1,i2,h,k⟩:=xx72
 obtain ⟨i,j,rfl,rfl,c,hq⟩:=zame h
 exact ⟨i,j,i1.int_inv,i2.int_inv,c,k _ _ F H (.refl s) (hg i j F) hq⟩
theorem qpj {f:Value→Value→Sem Value}{g:Int→Int→PyData}{gv:Int→Int→V} (h:OpR X f (rI0 gv)) (hg : ∀ i j F,Is X.K F (g i j) (gv i j)):OpV X f (dI2 fun i j q=>q (g i j)):=h.imp fun x y H Q xx73=>by
 obtain ⟨F,dx,dy,q,s,i1,i2,h,k⟩:=xx73
 obtain ⟨i,j,rfl,rfl,hq⟩:=zame h
 exact ⟨i,j,i1.int_inv,i2.int_inv,k _ _ F H (.refl s) (hg i j F) hq⟩
abbrev dSub:D2:=dI2 fun i j q=>q (.int (i-j))
abbrev zarf:D2:=dI2 fun i j q=>IntMulOk i j∧q (.int (i*j))
abbrev zaqu:D2:=dI2 fun i j q=>zamc i j∧q (.int (i.fdiv j))
abbrev dDiv:D2:=dI2 fun i j q=>(0<j∧Builtin.Int.intBits j≤9000)∧q (.int (i/j))
abbrev dMod:D2:=dI2 fun i j q=>0<j∧q (.int (i%j))
abbrev dLt:D2:=dI2 fun i j q=>q (.bool (decide (i<j)))
abbrev dLe:D2:=dI2 fun i j q=>q (.bool (decide (i≤j)))
abbrev dGt:D2:=dI2 fun i j q=>q (.bool (decide (j<i)))
abbrev dGe:D2:=dI2 fun i j q=>q (.bool (decide (j≤i)))
theorem qjf:OpV X (binaryOp .Sub) dSub:=qpj zamw fun _ _ _=>qab _
theorem qY:OpV X (binaryOp .Mult) zarf:=zacr zaiy fun _ _ _=>qab _
theorem zahc:OpV X (binaryOp .FloorDiv) zaqu:=zacr qul fun _ _ _=>qab _
theorem zaik:OpR X (binaryOp .FloorDiv) (rI (fun _ j=>0<j∧Builtin.Int.intBits j≤9000) fun i j => .int (i/j)):=qul.imp fun x y H Q xx74=>by
 obtain ⟨i,j,e1,e2,c,q⟩:=xx74
 exact ⟨i,j,e1,e2,⟨by have:=c.1;omega,c.2⟩,by show Q (V.int (i.fdiv j)) H;rw [Int.fdiv_eq_ediv_of_nonneg _ (Int.le_of_lt c.1)];exact q⟩
theorem qhf:OpV X (binaryOp .FloorDiv) dDiv:=zacr zaik fun _ _ _=>qab _
theorem qig:OpV X (binaryOp .Mod) dMod:=zacr zamh fun _ _ _=>qab _
theorem o_lt:OpV X (compareOp .Lt) dLt:=qpj zapo fun _ _ _=>qfa _
theorem qvs:OpV X (compareOp .LtE) dLe:=qpj zarb fun _ _ _=>qfa _
theorem o_gt:OpV X (compareOp .Gt) dGt:=qpj zapw fun _ _ _=>qfa _
theorem o_ge:OpV X (compareOp .GtE) dGe:=qpj zarh fun _ _ _=>qfa _
def dEq:D2:=fun d e q=>SeqAt.shaped d=true∧SeqAt.shaped e=true∧q (.bool (PyData.eqv d e))
def dNe:D2:=fun d e q=>SeqAt.shaped d=true∧SeqAt.shaped e=true∧q (.bool (!PyData.eqv d e))
theorem qwl (hu:X.A.units+64<cLine):OpV X (compareOp .Eq) dEq:=(zand hu).imp fun x y H Q xx75=>by
 obtain ⟨F,dx,dy,q,s,i1,i2,h,k⟩:=xx75
 exact ⟨dx,dy,i1.mono s,i2.mono s,h.1,h.2.1,k _ _ F H (.refl s) (qfa _) h.2.2⟩
theorem qzg (hu:X.A.units+64<cLine):OpV X (compareOp .NotEq) dNe:=(zaok hu).imp fun x y H Q xx76=>by
 obtain ⟨F,dx,dy,q,s,i1,i2,h,k⟩:=xx76
 exact ⟨dx,dy,i1.mono s,i2.mono s,h.1,h.2.1,k _ _ F H (.refl s) (qfa _) h.2.2⟩
def dAdd:D2
 | .int i,.int j,q=>q (.int (i+j))
 | .list l,.list m,q=>l.length+m.length≤sizeLine∧q (.list (l++m))
 | .tuple l,.tuple m,q=>l≠[]∧l.length+m.length≤sizeLine∧q (.tuple (l++m))
 | .str x,.str y,q=>x.length+y.length≤sizeLine∧q (.str (x++y))
 | _,_,_=>False
theorem qcz:OpV X (binaryOp .Add) dAdd:=by
 rintro pins s σ H x y v u Q I rx ry ⟨F,dx,dy,q,sm,i1,i2,h,k⟩
 cases dx with
 | int i=>cases dy with
  | int j=>exact zann pins s σ H x y v u Q I rx ry ⟨i,j,i1.int_inv,i2.int_inv,k _ _ F H (.refl sm) (qab _) h⟩
  | _=>exact False.elim h
 | list l=>cases dy with
  | list m =>
   obtain ⟨a,xs,rfl,hs,hr⟩:=i1.lst_inv
   obtain ⟨b,ys,rfl,ht,hq⟩:=i2.lst_inv
   refine qzf pins s σ H _ _ v u Q I rx ry ⟨a,b,xs,ys,rfl,rfl,sm.seq hs,sm.seq ht,by rw [hr.len,hq.len];exact h.1,fun p hp=>?_⟩
   have g:=Go.put (o:=HO.lst (xs++ys)) sm hp
   exact k _ _ _ _ g (qfh (SqL.of qr) ((qal hr hq).mono g.f)) h.2
  | _=>exact False.elim h
 | tuple l=>cases dy with
  | tuple m =>
   obtain ⟨a,xs,rfl,hs,hr⟩:=i1.tup_inv
   obtain ⟨b,ys,rfl,ht,hq⟩:=i2.tup_inv
   refine zakv pins s σ H _ _ v u Q I rx ry ⟨a,b,xs,ys,rfl,rfl,qK sm hs,qK sm ht,fun z=>h.1 (List.length_eq_zero_iff.mp (by rw [← hr.len,z];rfl)),by rw [hr.len,hq.len];exact h.2.1,fun z=>?_,fun _ p hp=>?_⟩
   ·have hm:m=[]:=List.length_eq_zero_iff.mp (by rw [← hq.len,z];rfl)
    subst hm
    refine k _ _ F H (.refl sm) i1 ?_
    have:=h.2.2;rw [List.append_nil] at this;exact this
   ·have g:=Go.put (o:=HO.tup (xs++ys)) sm hp
    exact k _ _ _ _ g (qmm (SqT.of qr) ((qal hr hq).mono g.f)) h.2.2
  | _=>exact False.elim h
 | str x0=>cases dy with
  | str y0 =>
   unfold Is at i1 i2
   exact qwf pins s σ H x y v u Q I rx ry ⟨x0,y0,i1,i2,h.1,k _ _ F H (.refl sm) (zamr _) h.2⟩
  | _=>exact False.elim h
 | _=>exact False.elim h
def wCat (Wa Wb:WE):WF:=fun env Q=>Wa env fun x e1=>Wb e1 fun y e2=>match x,y with
 | .list l,.list m=>l.length+m.length≤sizeLine∧Q (l++m) e2
 | _,_=>False
theorem qxo {a b:Expr}{Wa Wb:WE}{pos:Pos} (ha:VE X a Wa) (hb:VE X b Wb):VF X (.BinOp a .Add b pos) (wCat Wa Wb):=(zalg qzf ha hb).imp fun σ H R xx77=>by
 obtain ⟨M,env,F,Q,I,h,k⟩:=xx77
 refine ⟨M,env,F,_,I,h,fun d v F1 H1 e1 I1 s1 i1 h1=>⟨M,e1,F1,_,I1,h1,fun d2 v2 F2 H2 e2 I2 s2 i2 h2=>?_⟩⟩
 cases d with
 | list l=>cases d2 with
  | list m =>
   obtain ⟨a,xs,rfl,hs,hr⟩:=(i1.mono s2).lst_inv
   obtain ⟨b,ys,rfl,ht,hq⟩:=i2.lst_inv
   exact ⟨a,b,xs,ys,rfl,rfl,I2.fh.seq hs,I2.fh.seq ht,by rw [hr.len,hq.len];exact h2.1,qke I2 (s1.trans s2) (qal hr hq) h2.2 k⟩
  | _=>exact False.elim h2
 | _=>exact False.elim h2
section
variable {x:Str}{p pos:Pos}{e:Expr}{es:List Expr}{Wr:WF}{id T:String}{r:DC}{rf:List PyData→(List PyData→Prop)→Prop}
def qxb (r:DC) (Wr:WF):WE:=fun env Q=>Wr env fun ds e=>r ds fun d=>Q d e
def qte (r:List PyData→(List PyData→Prop)→Prop) (Wr:WF):WF:=fun env Q=>Wr env fun ds e=>r ds fun l=>Q l e
theorem qkq {σ:St}{H:Hp}{R:VK} (h:qcw X.K (qxb r Wr) σ H R):qgl X.K Wr σ H fun vs H1=>zaco X.K r vs H1 R:=by
 obtain ⟨M,env,F,Q,I,h,k⟩:=h
 exact ⟨M,env,F,_,I,h,fun ds vs F1 H1 e1 I1 s1 i1 h1=>⟨F1,ds,_,I1.fh,i1,h1,fun d v F2 H2 g i2 q=>k d v F2 H2 e1 (I1.go g) (s1.trans g.f) i2 q⟩⟩
theorem qid {σ:St}{H:Hp}{R:VK} (h:qwh X.K (qte rf Wr) σ H R):qgl X.K Wr σ H fun vs H1=>qtg X.K rf vs H1 R:=by
 obtain ⟨M,env,F,Q,I,h,k⟩:=h
 refine ⟨M,env,F,_,I,h,fun ds vs F1 H1 e1 I1 s1 i1 h1=>⟨F1,ds,_,I1.fh,i1,h1,fun l a xs F2 H2 g ha hf hh hi q=>?_⟩⟩
 exact k a xs l F2 H2 e1 (I1.go g) (s1.trans g.f) hh hf (qW I1.bh ha) (I1.he ha) (qla I1 ha) hi q
theorem qt (hc:qjg X (.builtin id) r) (hm:X.mg x=none) (hv:bootBuiltins x=some (.builtin id)) (ha:VA X (e::es) Wr) (hg:Gl X x:=by rfl) (hn:x ≠ "__name__":=by decide) (hdb:(x==("__debug__" : Str))=false:=by decide)
 (he:starEach (e::es) X.env=(false,eval e X.env)::starEach es X.env:=by rfl) (hpl:(backTo pos (starEach es X.env)).any (·.1)=false:=by rfl):VE X (.Call (.Name x p) (e::es) [] pos) (qxb r Wr) :=
 (qjj hc hg hm hv ha hn hdb he hpl).imp fun _ _ _ h=>qkq h
theorem qas (hc:qjg X (.type T) r) (hm:X.mg x=none) (hv:bootBuiltins x=some (.type T)) (ha:VA X (e::es) Wr) (hg:Gl X x:=by rfl) (hn:x ≠ "__name__":=by decide) (hdb:(x==("__debug__" : Str))=false:=by decide)
 (he:starEach (e::es) X.env=(false,eval e X.env)::starEach es X.env:=by rfl) (hpl:(backTo pos (starEach es X.env)).any (·.1)=false:=by rfl):VE X (.Call (.Name x p) (e::es) [] pos) (qxb r Wr) :=
 (qkz hc hg hm hv ha hn hdb he hpl).imp fun _ _ _ h=>qkq h
theorem zadq (hc:qpf X (.builtin id) rf) (hm:X.mg x=none) (hv:bootBuiltins x=some (.builtin id)) (ha:VA X (e::es) Wr) (hg:Gl X x:=by rfl) (hn:x ≠ "__name__":=by decide) (hdb:(x==("__debug__" : Str))=false:=by decide)
 (he:starEach (e::es) X.env=(false,eval e X.env)::starEach es X.env:=by rfl) (hpl:(backTo pos (starEach es X.env)).any (·.1)=false:=by rfl):VF X (.Call (.Name x p) (e::es) [] pos) (qte rf Wr) :=
 (qjj hc hg hm hv ha hn hdb he hpl).imp fun _ _ _ h=>qid h
theorem zabj (hc:qpf X (.type T) rf) (hm:X.mg x=none) (hv:bootBuiltins x=some (.type T)) (ha:VA X (e::es) Wr) (hg:Gl X x:=by rfl) (hn:x ≠ "__name__":=by decide) (hdb:(x==("__debug__" : Str))=false:=by decide)
 (he:starEach (e::es) X.env=(false,eval e X.env)::starEach es X.env:=by rfl) (hpl:(backTo pos (starEach es X.env)).any (·.1)=false:=by rfl):VF X (.Call (.Name x p) (e::es) [] pos) (qte rf Wr) :=
 (qkz hc hg hm hv ha hn hdb he hpl).imp fun _ _ _ h=>qid h
def PSp (K:PySem.W.Frag) (sp:DC):Sp:=fun vs H Q _=>zaco K sp vs H Q
def FSp (K:PySem.W.Frag) (sp:List PyData→(List PyData→Prop)→Prop):Sp:=fun vs H Q _=>qtg K sp vs H Q
theorem ql {k:Nat}{ps:List Str}{sp:DC} (O:Ok X.prog X.w X.K X.mg X.base x k ps (PSp X.K sp)) (hr:Room k X.A) (ha:VA X (e::es) Wr) (hg:Gl X x:=by rfl) (hdb:(x==("__debug__" : Str))=false:=by decide)
 (he:starEach (e::es) X.env=(false,eval e X.env)::starEach es X.env:=by rfl) (hpl:(backTo pos (starEach es X.env)).any (·.1)=false:=by rfl):VE X (.Call (.Name x p) (e::es) [] pos) (qxb sp Wr) :=
 (qob O hr ha hg hdb he hpl).imp fun σ H R h=>by
  have e:qjb (PSp X.K sp) [] E0 (qgl X.K Wr) σ H R=qgl X.K Wr σ H fun vs H1=>zaco X.K sp vs H1 R:=by unfold qjb PSp;simp only [List.append_nil]
  rw [e]
  exact qkq h
theorem qgm {k:Nat}{ps:List Str}{sp:List PyData→(List PyData→Prop)→Prop} (O:Ok X.prog X.w X.K X.mg X.base x k ps (FSp X.K sp)) (hr:Room k X.A) (ha:VA X (e::es) Wr) (hg:Gl X x:=by rfl) (hdb:(x==("__debug__" : Str))=false:=by decide)
 (he:starEach (e::es) X.env=(false,eval e X.env)::starEach es X.env:=by rfl) (hpl:(backTo pos (starEach es X.env)).any (·.1)=false:=by rfl):VF X (.Call (.Name x p) (e::es) [] pos) (qte sp Wr) :=
 (qob O hr ha hg hdb he hpl).imp fun σ H R h=>by
  have e:qjb (FSp X.K sp) [] E0 (qgl X.K Wr) σ H R=qgl X.K Wr σ H fun vs H1=>qtg X.K sp vs H1 R:=by unfold qjb FSp;simp only [List.append_nil]
  rw [e]
  exact qid h
end
def dAbs:DC
 | [.int i],q=>q (.int (if i<0 then -i else i))
 | _,_=>False
def dLen:DC
 | [.list l],q=>q (.int l.length)
 | [.tuple l],q=>q (.int l.length)
 | [.str x],q=>x.length≤sizeLine∧q (.int x.length)
 | _,_=>False
theorem qjx {K:PySem.W.Frag}{H:Hp}{d:PyData}{vs:List V} (h:Iss K H [d] vs) : ∃ v,vs=[v]∧Is K H d v:=by
 obtain ⟨x,r,rfl,p,q⟩:=h.cons_inv
 rw [q.nil_inv];exact ⟨x,rfl,p⟩
theorem iss2 {K:PySem.W.Frag}{H:Hp}{d e:PyData}{vs:List V} (h:Iss K H [d,e] vs) : ∃ v u,vs=[v,u]∧Is K H d v∧Is K H e u:=by
 obtain ⟨x,r,rfl,p,q⟩:=h.cons_inv
 obtain ⟨y,rfl,q'⟩:=qjx q
 exact ⟨x,y,rfl,p,q'⟩
theorem zahw:qjg X (.builtin "abs") dAbs:=zafm.imp fun xs H Q xx78=>by
 obtain ⟨F,ds,q,s,i,h,k⟩:=xx78
 match ds,h,i with
 | [.int n],h,i =>
  obtain ⟨v,rfl,j⟩:=qjx i
  exact ⟨n,by rw [j.int_inv],k _ _ F H (.refl s) (qab _) h⟩
theorem qcd:qjg X (.builtin "len") dLen:=(qrn.or qrj).imp fun xs H Q xx79=>by
 obtain ⟨F,ds,q,s,i,h,k⟩:=xx79
 match ds,h,i with
 | [.list l],h,i =>
  obtain ⟨v,rfl,j⟩:=qjx i
  obtain ⟨a,xs,rfl,hs,hr⟩:=j.lst_inv
  exact .inl ⟨a,xs,rfl,.inl (s.seq hs),k _ _ F H (.refl s) (by rw [hr.len];exact qab _) h⟩
 | [.tuple l],h,i =>
  obtain ⟨v,rfl,j⟩:=qjx i
  obtain ⟨a,xs,rfl,hs,hr⟩:=j.tup_inv
  exact .inl ⟨a,xs,rfl,.inr (qK s hs),k _ _ F H (.refl s) (by rw [hr.len];exact qab _) h⟩
 | [.str z],h,i =>
  obtain ⟨v,rfl,j⟩:=qjx i
  unfold Is at j
  subst j
  exact .inr ⟨z,rfl,h.1,k _ _ F H (.refl s) (qab _) h.2⟩
def zaod:List PyData→(List PyData→Prop)→Prop
 | [.list l],q=>q l
 | [.tuple l],q=>q l
 | _,_=>False
theorem zamp:qpf X (.type "list") zaod:=qrr.imp fun xs H Q xx80=>by
 obtain ⟨F,ds,q,s,i,h,k⟩:=xx80
 match ds,h,i with
 | [.list l],h,i =>
  obtain ⟨v,rfl,j⟩:=qjx i
  obtain ⟨a,xs,rfl,hs,hr⟩:=j.lst_inv
  exact ⟨a,xs,rfl,.inl (s.seq hs),fun p hp=>k l p xs F _ (.side s hp) hp (qW s hp) qr hr h⟩
 | [.tuple l],h,i =>
  obtain ⟨v,rfl,j⟩:=qjx i
  obtain ⟨a,xs,rfl,hs,hr⟩:=j.tup_inv
  exact ⟨a,xs,rfl,.inr (qK s hs),fun p hp=>k l p xs F _ (.side s hp) hp (qW s hp) qr hr h⟩
def zaoz:DC
 | [.list l],q=>q (.tuple l)
 | [.tuple l],q=>q (.tuple l)
 | _,_=>False
theorem qdc:qjg X (.type "tuple") zaoz:=qia.imp fun xs H Q xx81=>by
 obtain ⟨F,ds,q,s,i,h,k⟩:=xx81
 match ds,h,i with
 | [.list l],h,i =>
  obtain ⟨v,rfl,j⟩:=qjx i
  obtain ⟨a,xs,rfl,hs,hr⟩:=j.lst_inv
  refine ⟨a,xs,rfl,.inl ⟨s.seq hs,fun p hp=>?_⟩⟩
  have g:=Go.put (o:=HO.tup xs) s hp
  exact k _ _ _ _ g (qmm (SqT.of qr) (hr.mono g.f)) h
 | [.tuple l],h,i =>
  obtain ⟨v,rfl,j⟩:=qjx i
  obtain ⟨a,xs,rfl,hs,hr⟩:=j.tup_inv
  exact ⟨a,xs,rfl,.inr ⟨qK s hs,k _ _ F H (.refl s) j h⟩⟩
end
end L2
namespace L2
open PySem PySem.Spec PyProof.Rows
section
variable {X:Cx}
section
variable {a b c e o:Expr}{W Wa Wb:WE}{Tc:WT}{pos pos':Pos}{st:Stmt}{sts rest:List Stmt}{Wt Wu:WS}{WfF:WF}
def zapx:WS:=fun D env=>D.nx env
def wSeq (t u:WS):WS:=fun D env=>t { D with nx:=u D } env
def wMid (t u:WS):WS:=fun D env => ∃ Md:Sto→Prop,t { D with nx:=Md } env ∧ ∀ e,Md e→u D e
def zanx:WS:=fun _ _=>False
theorem qE:VSs X [] zapx:=qyn.imp fun D σ H xx82=>by obtain ⟨M,env,F,DD,I,h,k⟩:=xx82;exact k.nx env F H σ I (.refl _) h
theorem qh (h:VS X st Wt):VSs X [st] Wt:=qkg h
theorem qg (h1:VS X st Wt) (h2:VSs X rest Wu):VSs X (st::rest) (wSeq Wt Wu):=(qej h1 h2).imp fun D σ H xx83=>by
 obtain ⟨M,env,F,DD,I,h,k⟩:=xx83
 exact ⟨M,env,F,{ DD with nx:=Wu DD },I,h,fun e' F' H' σ' I' s' h'=>⟨M,e',F',DD,I',h',k.mono s'⟩,k.rt,k.bk,k.ct⟩
theorem qav (h1:VS X st Wt) (h2:VSs X rest Wu):VSs X (st::rest) (wMid Wt Wu):=(qej h1 h2).imp fun D σ H xx84=>by
 obtain ⟨M,env,F,DD,I,⟨Md,h,hm⟩,k⟩:=xx84
 exact ⟨M,env,F,{ DD with nx:=Md },I,h,fun e' F' H' σ' I' s' h'=>⟨M,e',F',DD,I',hm e' h',k.mono s'⟩,k.rt,k.bk,k.ct⟩
theorem qbh:VSs X sts zanx:=zach.imp fun D σ H xx85=>by obtain ⟨M,env,F,DD,I,h,k⟩:=xx85;exact h.elim
def wFz (i:Nat) (t:WS):WS:=fun D env=>t D (env.set i (gS env i).fz)
theorem qpk (i:Nat) (h:VSs X sts Wt):VSs X sts (wFz i Wt):=h.imp fun D σ H xx86=>by
 obtain ⟨M,env,F,DD,I,h,k⟩:=xx86
 obtain ⟨F',J,s⟩:=I.freeze i
 exact ⟨M,_,F',DD,J,h,k.mono s⟩
def zaqt (W:WE):WS:=fun D env=>W env fun _ e=>D.nx e
theorem qex (he:VE X e W) (hs:swapsWith e none pos.line X.env=pure false:=by rfl):VS X (.Expr e pos) (zaqt W):=(qjy he hs).imp fun D σ H xx87=>by
 obtain ⟨M,env,F,DD,I,h,k⟩:=xx87
 exact ⟨M,env,F,_,I,h,fun d v F1 H1 e1 I1 s1 i1 h1=>k.nx e1 F1 H1 σ I1 s1 h1⟩
def wRet (W:WE):WS:=fun D env=>W env fun d e=>D.rt (.val d) e
theorem qu (he:VE X e W):VS X (.Return (some e) pos) (wRet W):=(qmn he).imp fun D σ H xx88=>by
 obtain ⟨M,env,F,DD,I,h,k⟩:=xx88
 exact ⟨M,env,F,_,I,h,fun d v F1 H1 e1 I1 s1 i1 h1=>k.rt (.val d) v e1 F1 H1 σ I1 s1 i1 h1⟩
def zapt (W:WF):WS:=fun D env=>W env fun l e=>D.rt (.own l) e
theorem qkj (he:VF X e WfF):VS X (.Return (some e) pos) (zapt WfF):=(qmn he).imp fun D σ H xx89=>by
 obtain ⟨M,env,F,DD,I,h,k⟩:=xx89
 exact ⟨M,env,F,_,I,h,fun p vs l F1 H1 e1 I1 s1 g1 g2 g3 g4 g5 g6 h1=>k.rt (.own l) _ e1 F1 H1 σ I1 s1 ⟨p,vs,rfl,g1,g2,g3,g4,g6⟩ h1⟩
def zalk (i:Nat):WS:=fun D env=>match gS env i with | .own ds=>D.rt (.own ds) env|_=>False
theorem qyj (i:Nat) {x:Str}{px:Pos} (hN:X.N[i]?=some x:=by rfl) (hv:Vis X.env.scope x:=by first|exact Or.inl rfl|exact Or.inr (Or.inl rfl)|exact Or.inr (Or.inr rfl)) (hd:(x==("__debug__" : Str))=false:=by decide)
 (hcd:(x==("__classdict__" : Str))=false:=by decide):VS X (.Return (some (.Name x px)) pos) (zalk i):=(qmn (qbb hN hv hd hcd)).imp fun D σ H xx90=>by
 obtain ⟨M,env,F,DD,I,h,k⟩:=xx90
 have S:=I.slot i
 unfold zalk at h
 cases q:gS env i with
 | own ds =>
  rw [q] at S h
  obtain ⟨p,vs,e,g1,g2,g3,g4,g5⟩:=S
  exact ⟨_,qcl e,k.rt (.own ds) _ env F H σ I (.refl _) ⟨p,vs,rfl,g1,g2,g3,g4,g5⟩ h⟩
 | non=>rw [q] at h;exact h.elim
 | val d=>rw [q] at h;exact h.elim
 | pen ds=>rw [q] at h;exact h.elim
 | new d=>rw [q] at h;exact h.elim
 | exc C=>rw [q] at h;exact h.elim
 | obj a0 C nm fs=>rw [q] at h;exact h.elim
def wIf (Tc:WT) (t u:WS):WS:=fun D env=>Tc env fun k e=>if k=true then t D e else u D e
theorem qat {A B:List Stmt} (hc:VT X c Tc) (ha:VSs X A Wt) (hb:VSs X B Wu):VS X (.If c A B pos) (wIf Tc Wt Wu):=(zalq hc ha hb).imp fun D σ H xx91=>by
 obtain ⟨M,env,F,DD,I,h,k⟩:=xx91
 refine ⟨M,env,F,_,I,h,fun x F1 H1 e1 I1 s1 h1=>?_⟩
 cases x with
 | true=>exact qsc ⟨M,e1,F1,DD,I1,h1,k.mono s1⟩
 | false=>exact qvr ⟨M,e1,F1,DD,I1,h1,k.mono s1⟩
def wSet (i:Nat) (W:WE):WS:=fun D env=>W env fun d e=>D.nx (e.set i (.val d))
theorem qy {i:Nat}{x:Str} (hN:X.N.Nodup) (he:VE X e W) (hi:X.N[i]?=some x:=by rfl) (hx:Loc X.env.scope x:=by first|exact Or.inl rfl|exact Or.inr rfl) (hs:swapsWith e (some (.Name x pos')) pos.line X.env=pure false:=by rfl)
 (hf:X.fn x=true∨X.env.scope.names.lookup x=some .local:=by first|exact .inl rfl|exact .inr rfl):VS X (.Assign [.Name x pos'] e pos) (wSet i W):=(qmj hN hi hx he hs hf).imp fun D σ H xx92=>by
 obtain ⟨M,env,F,DD,I,h,k⟩:=xx92
 exact ⟨M,env,F,_,I,h,fun d v F1 H1 e1 I1 s1 i1 h1=>k.nx _ F1 H1 _ (I1.setv i1) s1 h1⟩
def zalr (i:Nat) (W:WF):WS:=fun D env=>W env fun l e=>D.nx (e.set i (.own l))
theorem qgi {i:Nat}{x:Str} (hN:X.N.Nodup) (he:VF X e WfF) (hi:X.N[i]?=some x:=by rfl) (hx:Loc X.env.scope x:=by first|exact Or.inl rfl|exact Or.inr rfl) (hs:swapsWith e (some (.Name x pos')) pos.line X.env=pure false:=by rfl)
 (hf:X.fn x=true∨X.env.scope.names.lookup x=some .local:=by first|exact .inl rfl|exact .inr rfl):VS X (.Assign [.Name x pos'] e pos) (zalr i WfF):=(qmj hN hi hx he hs hf).imp fun D σ H xx93=>by
 obtain ⟨M,env,F,DD,I,h,k⟩:=xx93
 exact ⟨M,env,F,_,I,h,fun p vs l F1 H1 e1 I1 s1 g1 g2 g3 g4 g5 g6 h1=>k.nx _ F1 H1 _ (I1.seto g1 g2 g3 g4 g5 g6) s1 h1⟩
def zaon (i:Nat):WG:=fun d env Q=>Q (env.set i (.val d))
theorem qm {i:Nat}{x:Str} (hN:X.N.Nodup) (hi:X.N[i]?=some x:=by rfl) (hx:Loc X.env.scope x:=by first|exact Or.inl rfl|exact Or.inr rfl) (hf:X.fn x=true∨X.env.scope.names.lookup x=some .local:=by first|exact .inl rfl|exact .inr rfl):VG X (.Name x pos) (zaon i) :=
 (qzc hN hi hx hf).imp fun v σ H R xx94=>by obtain ⟨M,env,F,d,Q,I,j,h,k⟩:=xx94;exact k F H _ _ (I.setv j) (.refl _) h
def zaql:WGs:=fun ds env Q=>ds=[]∧Q env
def zana (G:WG) (Gs:WGs):WGs:=fun ds env Q=>match ds with|[]=>False|d::r=>G d env fun e=>Gs r e Q
theorem qhp:VGs X [] zaql:=zajt.imp fun v σ H R xx95=>by
 obtain ⟨M,env,F,ds,Q,I,j,h,k⟩:=xx95
 obtain ⟨rfl,h⟩:=h
 exact ⟨j.nil_inv,k F H env σ I (.refl _) h⟩
theorem qbi {es:List Expr}{G:WG}{Gs:WGs} (h1:VG X e G) (h2:VGs X es Gs) (hs:(assignEach (e::es) X.env).map (·.2)=assign e X.env::(assignEach es X.env).map (·.2):=by rfl):VGs X (e::es) (zana G Gs) :=
 (zafz h1 h2 hs).imp fun v σ H R xx96=>by
  obtain ⟨M,env,F,ds,Q,I,j,h,k⟩:=xx96
  cases ds with
  | nil=>exact False.elim h
  | cons d r =>
   obtain ⟨x,xs,rfl,j1,j2⟩:=j.cons_inv
   exact ⟨x,xs,rfl,M,env,F,d,_,I,j1,h,fun F1 H1 e1 σ1 I1 s1 q1=>⟨M,e1,F1,r,Q,I1,j2.mono s1,q1,fun F2 H2 e2 σ2 I2 s2 q2=>k F2 H2 e2 σ2 I2 (s1.trans s2) q2⟩⟩
def zapz (n:Nat) (Gs:WGs):WG:=fun d env Q=>match d with | .tuple l=>l.length=n∧Gs l env Q|_=>False
theorem qmf {es:List Expr}{kk n:Nat}{Gs:WGs} (hc:X.calm=true) (h:VGs X es Gs) (hn:(assignEach es X.env).length=n:=by rfl) (hst:(assignEach es X.env).findIdx? (·.1)=none:=by rfl):VG X (.Tuple es kk pos) (zapz n Gs) :=
 (zanb hc h hn hst).imp fun v σ H R xx97=>by
  obtain ⟨M,env,F,d,Q,I,j,h,k⟩:=xx97
  cases d with
  | tuple l =>
   obtain ⟨a,xs,rfl,hs,hr⟩:=j.tup_inv
   exact ⟨a,xs,rfl,qK I.fh hs,by rw [hr.len];exact h.1,M,env,F,l,Q,I,hr,h.2,k⟩
  | _=>exact False.elim h
def wApp (i:Nat) (W:WE):WS:=fun D env=>(gS env i).mut=true∧W env fun d e=>(gS e i).mut=true∧(gS e i).cnt.length<sizeLine∧D.nx (e.set i ((gS e i).upd ((gS e i).cnt++[d])))
theorem qfd (i:Nat) {x:Str}{px apos cpos:Pos} (he:VE X e W) (hN:X.N[i]?=some x:=by rfl) (hv:Vis X.env.scope x:=by first|exact Or.inl rfl|exact Or.inr (Or.inl rfl)|exact Or.inr (Or.inr rfl)) (hd:(x==("__debug__" : Str))=false:=by decide)
 (hcd:(x==("__classdict__" : Str))=false:=by decide)
 (hbase:attributeBase (.Name x px) "append" X.env (eval (.Name x px) X.env)=eval (.Name x px) X.env:=by rfl)
 (hfew:((backTo cpos (starEach [e] X.env)).all (fun x => !x.1)&&(backToKw cpos (keywordEach [] X.env)).all (fun x=>x.1.isSome)
  && decide ([e].length+([]:List Keyword).length+(if ([]:List Keyword).isEmpty then 0 else 1)<30))=true:=by rfl)
 (hline:(apos.endLine==cpos.line)=true:=by rfl) (hst:starEach [e] X.env=(false,eval e X.env)::starEach [] X.env:=by rfl) (hplain:(backTo cpos (starEach [] X.env)).any (·.1)=false:=by rfl)
 (hs:swapsWith (.Call (.Attribute (.Name x px) "append" apos) [e] [] cpos) none pos.line X.env=pure false:=by rfl):VS X (.Expr (.Call (.Attribute (.Name x px) "append" apos) [e] [] cpos) pos) (wApp i W) :=
 (qjy (qqn (qbb hN hv hd hcd) he hbase hfew hline hst hplain) hs).imp fun D σ H xx98=>by
  obtain ⟨M,env,F,DD,I,⟨hm,h⟩,k⟩:=xx98
  obtain ⟨p,vs,ep,g1,g2,g3,g4⟩:=(I.slot i).addr hm
  refine ⟨_,qcl ep,.inl ⟨rfl,_,SqL.of g1⟩,M,env,F,_,I,h,fun d v F1 H1 e1 I1 s1 i1 h1=>?_⟩
  obtain ⟨m1,z1,q1⟩:=h1
  obtain ⟨p',vs1,ep',f1,f2,f3,f4⟩:=(I1.slot i).addr m1
  rw [ep] at ep';injection ep' with ep';injection ep' with ep';subst ep'
  exact ⟨p,vs1,v,rfl,rfl,f1,by rw [f4.len];exact z1,k.nx _ F1 _ σ (I1.chg m1 ep (qal f4 (qB i1 qS))) s1 q1⟩
def wPut (i:Nat) (W Wj:WE):WS:=fun D env=>W env fun d e1=>(gS e1 i).mut=true∧Wj e1 fun y e2=>match y with
 | .int n=>(gS e2 i).mut=true ∧ ∃ j,ixN (gS e2 i).cnt.length n=some j∧D.nx (e2.set i ((gS e2 i).upd ((gS e2 i).cnt.set j d)))
 | _=>False
theorem qzv {K:PySem.W.Frag}{H:Hp}{d:PyData}{v:V} (h:Is K H d v) : ∀ {l:List PyData}{xs:List V} (j:Nat),Iss K H l xs→Iss K H (l.set j d) (xs.set j v)
 | [],_,j,r=>by rw [r.nil_inv];simpa using qS
 | x::l,_,0,r=>by obtain ⟨y,ys,rfl,p,q⟩:=r.cons_inv;exact qB h q
 | x::l,_,j+1,r=>by obtain ⟨y,ys,rfl,p,q⟩:=r.cons_inv;exact qB p (qzv h j q)
theorem qgn (i:Nat) {x:Str}{px:Pos} (he:VE X e W) (hj:VE X b Wb) (hN:X.N[i]?=some x:=by rfl) (hv:Vis X.env.scope x:=by first|exact Or.inl rfl|exact Or.inr (Or.inl rfl)|exact Or.inr (Or.inr rfl)) (hd:(x==("__debug__" : Str))=false:=by decide)
 (hcd:(x==("__classdict__" : Str))=false:=by decide)
 (ha : ∀ v,assign (.Subscript (.Name x px) b pos') X.env v=(do
  let ov ← holding [v] (eval (.Name x px) X.env)
  let iv ← holding [v,ov] (eval b X.env)
  standAt pos'
  holding [v,ov,iv] (setItem ov iv v)
  release [v,ov,iv] []):=by intro _;rfl)
 (hs:swapsWithSole [.Subscript (.Name x px) b pos'] e pos.line X.env=pure false:=by rfl) (hw:swappedStores [.Subscript (.Name x px) b pos'] e X.env=pure none:=by rfl)
 (h1:(assignEach [.Subscript (.Name x px) b pos'] X.env).map (·.2)=[assign (.Subscript (.Name x px) b pos') X.env]:=by rfl):VS X (.Assign [.Subscript (.Name x px) b pos'] e pos) (wPut i W Wb) :=
 (zaow he (zamy (qbb hN hv hd hcd) hj zafa ha) hs hw h1).imp fun D σ H xx99=>by
  obtain ⟨M,env,F,DD,I,h,k⟩:=xx99
  refine ⟨M,env,F,_,I,h,fun d v F1 H1 e1 I1 s1 i1 h1=>?_⟩
  obtain ⟨m1,h1⟩:=h1
  obtain ⟨p,vs,ep,g1,g2,g3,g4⟩:=(I1.slot i).addr m1
  refine ⟨_,qcl ep,M,e1,F1,_,I1,h1,fun d2 v2 F2 H2 e2 I2 s2 i2 h2=>?_⟩
  cases d2 with
  | int n =>
   obtain ⟨m2,j,hj,q⟩:=h2
   obtain ⟨p',vs1,ep',f1,f2,f3,f4⟩:=(I2.slot i).addr m2
   rw [ep] at ep';injection ep' with ep';injection ep' with ep';subst ep'
   exact ⟨p,vs1,n,j,rfl,i2.int_inv,f1,by rw [f4.len];exact hj,k.nx _ F2 _ σ (I2.chg m2 ep (qzv (i1.mono s2) j f4)) (s1.trans s2) q⟩
  | _=>exact False.elim h2
def wIxO (i:Nat) (Wj:WE):WE:=fun env Q=>(gS env i).mut=true∧Wj env fun y e=>match y with
 | .int n=>(gS e i).mut=true ∧ ∃ d,atI (gS e i).cnt n=some d∧Q d e
 | _=>False
theorem qci (i:Nat) {x:Str}{px:Pos} (hj:VE X b Wb) (hN:X.N[i]?=some x:=by rfl) (hv:Vis X.env.scope x:=by first|exact Or.inl rfl|exact Or.inr (Or.inl rfl)|exact Or.inr (Or.inr rfl)) (hd:(x==("__debug__" : Str))=false:=by decide)
 (hcd:(x==("__classdict__" : Str))=false:=by decide) (hs:qsh b:=by exact (fun _ _=>rfl)):VE X (.Subscript (.Name x px) b pos) (wIxO i Wb) :=
 (zaia qzn (qbb hN hv hd hcd) hj hs).imp fun σ H R xx100=>by
  obtain ⟨M,env,F,Q,I,⟨m,h⟩,k⟩:=xx100
  obtain ⟨p,vs,ep,g1,g2,g3,g4⟩:=(I.slot i).addr m
  refine ⟨_,qcl ep,M,env,F,_,I,h,fun d2 v2 F2 H2 e2 I2 s2 i2 h2=>?_⟩
  cases d2 with
  | int n =>
   obtain ⟨m2,d,hd,q⟩:=h2
   obtain ⟨p',vs1,ep',f1,f2,f3,f4⟩:=(I2.slot i).addr m2
   rw [ep] at ep';injection ep' with ep';injection ep' with ep';subst ep'
   obtain ⟨z,ez,hz⟩:=f4.atI hd
   exact ⟨p,vs1,n,z,rfl,i2.int_inv,SqL.of f1,ez,k d z F2 H2 e2 I2 s2 hz q⟩
  | _=>exact False.elim h2
def zanm (Tc:WT) (t:WS):WS:=fun D env => ∃ P:Nat→Sto→Prop,(∃ m,P m env) ∧ ∀ m e,P m e→Tc e fun k e1=>if k=true then t { D with nx:=fun e2 => ∃ m',m'<m∧P m' e2,ct:=fun e2 => ∃ m',m'<m∧P m' e2,bk:=D.nx } e1 else D.nx e1
theorem qvh {body:List Stmt} (hc:VT X c Tc) (hb:VSs X body Wt) (hp:PassesOwn (model X.prog X.w) X.A X.env X.xe:=by exact PassesOwn.never):VS X (.While c body [] pos) (zanm Tc Wt) :=
 (zafv hp hc hb).imp fun D σ H xx104=>by
  obtain ⟨M,env,F,DD,I,⟨P,⟨m0,p0⟩,turn⟩,k⟩:=xx104
  refine ⟨fun m σ' H' => ∃ e' F',EnvOk X.K M F' H' e' σ'∧Same F F'∧P m e',⟨m0,env,F,I,.refl _,p0⟩,fun m σ1 H1 xx103=>?_⟩
  obtain ⟨e1,F1,I1,s1,p1⟩:=xx103
  refine ⟨M,e1,F1,_,I1,turn m e1 p1,fun x F2 H2 e2 I2 s2 h2=>?_⟩
  cases x with
  | true =>
   refine qsc ⟨fun σ' H' => ∃ m',m'<m ∧ ∃ e' F',EnvOk X.K M F' H' e' σ'∧Same F F'∧P m' e',fun σ' H' z=>z,M,e2,F2,_,I2,h2,?_⟩
   have s02:=s1.trans s2
   exact ⟨fun e3 F3 H3 σ3 I3 s3 xx102=>by obtain ⟨m',l,p3⟩:=xx102;exact ⟨m',l,e3,F3,I3,s02.trans s3,p3⟩,fun r v e3 F3 H3 σ3 I3 s3=>k.rt r v e3 F3 H3 σ3 I3 (s02.trans s3),
    fun e3 F3 H3 σ3 I3 s3=>k.nx e3 F3 H3 σ3 I3 (s02.trans s3),fun e3 F3 H3 σ3 I3 s3 xx101=>by obtain ⟨m',l,p3⟩:=xx101;exact ⟨m',l,e3,F3,I3,s02.trans s3,p3⟩⟩
  | false=>exact qvr (k.nx e2 F2 H2 σ1 I2 (s1.trans s2) h2)
def wFor (Wi:WF) (G:WG) (t:WS):WS:=fun D env=>Wi env fun ds e0 => ∃ P:Nat→Sto→Prop,P 0 e0 ∧
 (∀ i d e,ds[i]?=some d→P i e→G d e fun e1=>t { D with nx:=P (i+1),ct:=P (i+1),bk:=D.nx } e1) ∧ ∀ e,P ds.length e→D.nx e
theorem qet {tg iter:Expr}{body:List Stmt}{Wi:WF}{G:WG} (hc:X.calm=true) (hi:VI X tg iter Wi) (hg:VG X tg G) (hb:VSs X body Wt)
 (hs : ∀ x,foldedSetIterable iter X.env x=pure x:=by intro _;rfl) (hp:PassesOwn (model X.prog X.w) X.A X.env X.xe:=by exact PassesOwn.never):VS X (.For tg iter body [] pos) (wFor Wi G Wt) :=
  (zaho hp hc hi hg hb hs).imp fun D σ H xx107=>by
   obtain ⟨M,env,F,DD,I,h,k⟩:=xx107
   refine ⟨M,env,F,_,I,h,fun ds J F1 H1 e1 I1 s1 jt xx106=>?_⟩
   obtain ⟨P,p0,turn,fin⟩:=xx106
   refine ⟨fun i m σ' H'=>m=ds.length-i∧i≤ds.length ∧ ∃ e' F',EnvOk X.K M F' H' e' σ'∧Same F1 F'∧P i e',⟨ds.length,by simp,Nat.zero_le _,e1,F1,I1,.refl _,p0⟩,fun i m σ2 H2 xx105=>?_⟩
   obtain ⟨hm,hi,e2,F2,I2,s2,p2⟩:=xx105
   by_cases hl:i=ds.length
   ·subst hl
    exact .inl ⟨jt.stop H2 (s2.trans I2.fh),k.nx e2 F2 H2 σ2 I2 (s1.trans s2) (fin e2 p2)⟩
   ·have hlt:i<ds.length:=by omega
    refine .inr ⟨jt.go i H2 (s2.trans I2.fh) hlt,fun σ' H' => ∃ e' F',EnvOk X.K M F' H' e' σ'∧Same F1 F'∧P (i+1) e',fun σ' H' z=>⟨ds.length-(i+1),by omega,rfl,hlt,z⟩,fun x H3 hy=>?_⟩
    obtain ⟨d,F3,hd,g,j⟩:=jt.yld i H2 x H3 F2 s2 I2.fh hlt hy
    refine ⟨M,e2,F3,d,_,I2.go g,j,turn i d e2 hd p2,fun F4 H4 e4 σ4 I4 s4 h4=>⟨M,e4,F4,_,I4,h4,?_⟩⟩
    have s14:=s2.trans (g.f.trans s4)
    exact ⟨fun e5 F5 H5 σ5 I5 s5 p5=>⟨e5,F5,I5,s14.trans s5,p5⟩,fun r v e5 F5 H5 σ5 I5 s5=>k.rt r v e5 F5 H5 σ5 I5 ((s1.trans s14).trans s5),
     fun e5 F5 H5 σ5 I5 s5=>k.nx e5 F5 H5 σ5 I5 ((s1.trans s14).trans s5),fun e5 F5 H5 σ5 I5 s5 p5=>⟨e5,F5,I5,s14.trans s5,p5⟩⟩
end
end
end L2
namespace L2
open PySem PySem.Spec PyProof.Rows
section
variable {X:Cx}
theorem qzb : ∀ {ns:List String}{us:List Value},Vals (ns.map V.ty) us→us=ns.map Value.type
 | [],_,h=>by cases h;rfl
 | n::ns,_,h=>by
  cases h with
  | cons r t=>rw [qzb t];cases r;rfl
theorem zaqk {pins:List (Addr×Obj)}{σ:St}{H:Hp}{s:Shared}{d:PyData}{x:V}{u:Value} (I:Inv X pins σ H s) (hd:Is X.K H d x) (rx:RelV x u) :
 ∃ HP:Heap→Prop,PySem.W.KitX X.K u (.type (tyD d)) HP∧HP s.heap∧u ≠ .builtin "__main__.__loader__#opaque":=by
  cases d with
  | none=>rw [hd.non_inv] at rx;cases rx;exact ⟨_,PySem.W.kitx_none,True.intro,fun z=>nomatch z⟩
  | bool y=>rw [hd.bl_inv] at rx;cases rx;exact ⟨_,PySem.W.kitx_bool,True.intro,fun z=>nomatch z⟩
  | int i=>rw [hd.int_inv] at rx;obtain ⟨t,rfl⟩:=rx;exact ⟨_,PySem.W.kitx_int,True.intro,fun z=>nomatch z⟩
  | str y =>
   unfold Is at hd
   subst hd
   obtain ⟨t,rfl⟩:=rx;exact ⟨_,PySem.W.kitx_str,True.intro,fun z=>nomatch z⟩
  | list l =>
   obtain ⟨a,xs,rfl,q,_⟩:=hd.lst_inv
   cases rx
   obtain ⟨its,_,pl,_⟩:=I.list q
   obtain ⟨o,ho,hc,_⟩:=pl.isList
   exact ⟨_,PySem.W.kitx_list,⟨o,ho,hc⟩,fun z=>nomatch z⟩
  | tuple l =>
   obtain ⟨a,xs,rfl,q,_⟩:=hd.tup_inv
   cases rx
   obtain ⟨its,_,pl,_⟩:=I.tuple q
   obtain ⟨o,ho,hc,_⟩:=pl
   exact ⟨_,PySem.W.kitx_tuple,⟨o,ho,hc⟩,fun z=>nomatch z⟩
  | dict l =>
   obtain ⟨a,kvs,rfl,q,_⟩:=hd.dct_inv
   cases rx
   obtain ⟨_,_,vs,_,p⟩:=(show ObjOk X.prog X.w H s.heap a (.dK kvs) from I.hok a _ q)
   obtain ⟨o,es,ep,h1,h2,_⟩:=p
   exact ⟨_,PySem.W.kitx_dict,⟨o,h1,h2.1⟩,fun z=>nomatch z⟩
def zaoq (K:PySem.W.Frag):List V→Hp→VK→Prop:=fun xs H Q => ∃ (d:PyData) (x:V) (a:Addr) (ns:List String) (b:Bool),xs=[x,.ref a]∧H a=some (.tup (ns.map V.ty))∧Is K H d x∧PySem.W.kitAny K (.type (tyD d)) (ns.map Value.type)=some b∧Q (.bl b) H
theorem qxa:CallR X (.builtin "isinstance") (zaoq X.K):=by
 intro pins s σ H xs us Q I r h
 obtain ⟨d,x,a,ns,b,rfl,ha,hd,e,q⟩:=h
 obtain ⟨u,c,rfl,rx,rc⟩:=zalh r
 cases rc
 obtain ⟨its,rv,pl,_⟩:=I.tuple (SqT.of ha)
 obtain ⟨⟨cls,dd,data,sl⟩,ho,hc,n,hdt⟩:=pl
 simp only at hc hdt
 subst hc hdt
 rw [qzb rv] at ho
 obtain ⟨HP,Z,hp,hne⟩:=zaqk I hd rx
 exact PySem.W.kia_tup Z I.kIn hp ho e hne fun tk=>⟨.bl b,H,I.tok tk,rfl,q⟩
theorem qmx : ∀ {bs:List Bool}{us:List Value},Vals (bs.map V.bl) us→LSm.BoolsAre us bs
 | [],_,h=>by cases h;exact .nil
 | b::bs,_,h=>by
  cases h with
  | cons r t=>cases r;exact .cons b (qmx t)
def rAll (K:PySem.W.Frag):List V→Hp→VK→Prop:=fun xs H Q => ∃ (a:Addr) (bs:List Bool),xs=[.ref a]∧SqL K H a (bs.map V.bl)∧Q (.bl (bs.all id)) H
theorem zado (hc:X.calm=true):CallR X (.builtin "all") (rAll X.K):=by
 intro pins s σ H xs us Q I r h
 obtain ⟨a,bs,rfl,ha,q⟩:=h
 obtain ⟨u,rfl,rx⟩:=qju r
 cases rx
 obtain ⟨its,rv,pl,_⟩:=I.list ha
 have hl:=pl.isList
 have hb:=qmx rv
 have hlt:a<s.heap.objs.size:=pl.lt
 refine call_all_walk (wpAny_pyIter_list hl ?_)
 refine ⟨s.heap.objs.size,[s.heap.objs.size,a],[s.heap.objs.size],its.toArray.size,_,_,fun i=>(bs[i]?).getD true,rfl,Walks.list (A:=X.A.in1) (I.ok.hd hc) _ a (Nat.ne_of_lt hlt) its.toArray,
  ⟨⟨_,Heap.get?_push_size _ rfl,rfl,rfl⟩,hl.push _⟩,fun i v s' Q' E' hP hQ=>?_,fun h' tk hk=>?_⟩
 ·obtain ⟨b,e,rfl⟩:=hb.get i v (by simpa using hP)
  simp only [e,Option.getD_some] at hQ
  exact wpAny_truthy_bool hQ
 ·have hlen:its.toArray.size=bs.length:=by rw [List.size_toArray];exact hb.length
  have e:((List.range its.toArray.size).all fun i=>(bs[i]?).getD true)=bs.all id:=by
   rw [hlen,Bool.eq_iff_iff,List.all_eq_true,List.all_eq_true]
   constructor
   ·intro z b hb'
    obtain ⟨i,hi,rfl⟩:=List.getElem_of_mem hb'
    have:=z i (List.mem_range.mpr hi)
    simpa [hi] using this
   ·intro z i hi
    have hi':=List.mem_range.mp hi
    simpa [hi'] using z _ (List.getElem_mem hi')
  rw [e]
  refine ⟨.bl (bs.all id),H,I.kept (t':=tk) (fun b o z=>hk b o (fun hm=>?_) (Heap.get?_push_of_some _ z)),rfl,q⟩
  rw [List.mem_singleton.mp hm] at z
  exact Nat.lt_irrefl _ (Heap.lt_size z)
theorem qlm : ∀ (ns:List Int) (n:Nat),n≤ns.length→preSum (fun i=>(ns[i]?).getD 0) n=(ns.take n).sum
 | ns,0,_=>by simp [preSum]
 | ns,n+1,h=>by
  have hn:n<ns.length:=h
  have e:(ns[n]?).getD 0=ns[n]:=by rw [List.getElem?_eq_getElem hn];rfl
  have e2:(ns.take n++[ns[n]]).sum=(ns.take n).sum+ns[n]:=by rw [List.sum_append];simp
  rw [preSum,qlm ns n (Nat.le_of_lt hn),e,List.take_add_one,List.getElem?_eq_getElem hn]
  exact e2.symm
theorem qof : ∀ {ns:List Int}{us:List Value},Vals (ns.map V.int) us → ∀ (i:Nat) (v:Value),us[i]?=some v → ∃ t,v = .int ((ns[i]?).getD 0) t
 | [],_,h,i,v,e=>by cases h;simp at e
 | n::ns,_,h,i,v,e=>by
  cases h with
  | cons r t =>
   cases i with
   | zero =>
    obtain ⟨k,rfl⟩:=r
    have:Value.int n k=v:=by simpa using e
    exact ⟨k,by rw [← this];rfl⟩
   | succ i =>
    obtain ⟨k,hk⟩:=qof t i v (by simpa using e)
    exact ⟨k,by simpa using hk⟩
def rSum (K:PySem.W.Frag):List V→Hp→VK→Prop:=fun xs H Q => ∃ (a:Addr) (ns:List Int),xs=[.ref a]∧(SqL K H a (ns.map V.int)∨SqT K H a (ns.map V.int))∧Q (.int ns.sum) H
theorem zadj (hc:X.calm=true):CallR X (.builtin "sum") (rSum X.K):=by
 intro pins s σ H xs us Q I r h
 obtain ⟨a,ns,rfl,ha,q⟩:=h
 obtain ⟨u,rfl,rx⟩:=qju r
 cases rx
 have fin : ∀ (its:List Value) (h':Heap) (tk t':Nat),its.length=ns.length→(∀ b o,s.heap.get? b=some o→h'.get? b=some o)→EP X pins σ Q (.int (preSum (fun i=>(ns[i]?).getD 0) its.toArray.size) t') { s with heap:=h',toks:=tk }:=fun its h' tk t' hl hk=>by
  have e:preSum (fun i=>(ns[i]?).getD 0) its.toArray.size=ns.sum:=by
   rw [List.size_toArray,hl,qlm ns _ (Nat.le_refl _),List.take_length]
  rw [e]
  exact ⟨.int ns.sum,H,I.kept (t':=tk) hk,⟨t',rfl⟩,q⟩
 have old : ∀ {h':Heap}{ob:Obj},(∀ b o,b ∉ [s.heap.objs.size]→(s.heap.push ob).get? b=some o→h'.get? b=some o) → ∀ b o,s.heap.get? b=some o→h'.get? b=some o:=fun hk b o z =>
  hk b o (fun hm=>by rw [List.mem_singleton.mp hm] at z;exact Nat.lt_irrefl _ (Heap.lt_size z)) (Heap.get?_push_of_some _ z)
 rcases ha with ha|ha
 ·obtain ⟨its,rv,pl,_⟩:=I.list ha
  have hl:=pl.isList
  have hlt:a<s.heap.objs.size:=pl.lt
  have hlen:its.length=ns.length:=by rw [← rv.length,List.length_map]
  refine call_sum_walkG (wpAny_pyIter_list hl ?_)
  refine ⟨s.heap.objs.size,[s.heap.objs.size,a],[s.heap.objs.size],its.toArray.size,_,_,fun i=>(ns[i]?).getD 0,rfl,Walks.list (A:=X.A.in1) (I.ok.hd hc) _ a (Nat.ne_of_lt hlt) its.toArray,
   ⟨⟨_,Heap.get?_push_size _ rfl,rfl,rfl⟩,hl.push _⟩,fun b hb=>?_,fun i v hP=>qof rv i v (by simpa using hP),fun h' tk t' hk=>fin its h' tk t' hlen (old hk)⟩
  have hb':b=s.heap.objs.size∨b=a:=by simpa using hb
  rw [Heap.size_push]
  rcases hb' with rfl|rfl
  ·exact Nat.lt_succ_self _
  ·exact Nat.lt_succ_of_lt hlt
 ·obtain ⟨its,rv,pl,_⟩:=I.tuple ha
  have hl:s.heap.IsTuple a its.toArray:=pl
  have hlt:a<s.heap.objs.size:=IsTup.lt pl
  have hlen:its.length=ns.length:=by rw [← rv.length,List.length_map]
  refine call_sum_walkG (wpAny_pyIter_tuple hl ?_)
  refine ⟨s.heap.objs.size,[s.heap.objs.size,a],[s.heap.objs.size],its.toArray.size,_,_,fun i=>(ns[i]?).getD 0,rfl,Walks.tuple (A:=X.A.in1) (I.ok.hd hc) _ a (Nat.ne_of_lt hlt) its.toArray,
   ⟨⟨_,Heap.get?_push_size _ rfl,rfl,rfl⟩,pl.push _⟩,fun b hb=>?_,fun i v hP=>qof rv i v (by simpa using hP),fun h' tk t' hk=>fin its h' tk t' hlen (old hk)⟩
  have hb':b=s.heap.objs.size∨b=a:=by simpa using hb
  rw [Heap.size_push]
  rcases hb' with rfl|rfl
  ·exact Nat.lt_succ_self _
  ·exact Nat.lt_succ_of_lt hlt
def zaio (K:PySem.W.Frag):List V→Hp→VK→Prop:=fun xs H Q => ∃ (a:Addr) (ns:List Int),xs=[.ref a]∧SqL K H a (ns.map V.int)∧ns.length<64 ∧ ∀ (p:Addr) (ns':List Int),H p=none→ns'.Perm ns→ns'.Pairwise (· ≤ ·)→Q (.ref p) (upd H p (.lst (ns'.map V.int)))
theorem qtz:CallR X (.builtin "sorted") (zaio X.K):=by
 intro pins s σ H xs us Q I r h
 obtain ⟨a,ns,rfl,ha,h64,q⟩:=h
 obtain ⟨u,rfl,rx⟩:=qju r
 cases rx
 obtain ⟨its,rv,pl,_⟩:=I.list ha
 have hlen:its.length=ns.length:=by rw [← rv.length,List.length_map]
 refine sorted_ints pl.isList (qim rv) (by omega) fun out ns' a1 a2 a3=>?_
 obtain ⟨e,he⟩:=sortedAll_at s.heap its out
 have hl':ns'.length=ns.length:=a2.length_eq
 refine ⟨.ref (s.heap.objs.size+1),_,I.laid (t':=s.toks) (a:=s.heap.objs.size+1) (o :=.lst (ns'.map V.int)) (fun b o z=>sortedAll_old z) (Nat.le_succ _) ?_,rfl,q _ ns' (I.hok.fresh (Nat.le_succ _)) a2 a3⟩
 exact ⟨Nat.le_of_lt (qk (by rw [List.length_map];omega)),out.toList,e,qko a1,by rw [Array.toArray_toList];exact he⟩
def iAny (K:PySem.W.Frag) (tl:TE):TI:=fun σ H R=>tl σ H fun x H1 => ∃ a,x = .ref a∧(((∃ xs,SqL K H1 a xs)∧R (Itl K a) H1)∨((∃ xs,SqT K H1 a xs)∧R (Itt K a) H1))
theorem zany {tg l:Expr}{tl:TE} (hl:PE X l tl):PI X tg l (iAny X.K tl):=by
 intro pins s σ H R I h
 refine thn (hl pins s σ H _ I h) fun v s1 xx108=>?_
 obtain ⟨x,H1,I1,r1,q1⟩:=xx108
 obtain ⟨a,e,q1⟩:=q1
 subst e
 cases r1
 rcases q1 with ⟨⟨xs,hq⟩,q⟩|⟨⟨xs,hq⟩,q⟩
 ·obtain ⟨its,rv,p,hz⟩:=I1.list hq
  refine wpAny_pyIter_list p.isList ?_
  refine ⟨s1.heap.objs.size,[s1.heap.objs.size],_,_,H1,rfl,I1.kept (t':=s1.toks) fun b o e=>Heap.get?_push_of_some _ e,zaby a _,⟨_,Heap.get?_push_size _ rfl,rfl,rfl⟩,fun b hb=>?_,q⟩
  have e:b=s1.heap.objs.size:=by simpa using hb
  subst e
  exact I1.fpOk (Nat.le_refl _) (I1.hok.fresh (Nat.le_refl _))
 ·obtain ⟨its,rv,p,hz⟩:=I1.tuple hq
  refine wpAny_pyIter_tuple (show s1.heap.IsTuple a its.toArray from p) ?_
  refine ⟨s1.heap.objs.size,[s1.heap.objs.size],_,_,H1,rfl,I1.kept (t':=s1.toks) fun b o e=>Heap.get?_push_of_some _ e,qwo a _,⟨_,Heap.get?_push_size _ rfl,rfl,rfl⟩,fun b hb=>?_,q⟩
  have e:b=s1.heap.objs.size:=by simpa using hb
  subst e
  exact I1.fpOk (Nat.le_refl _) (I1.hok.fresh (Nat.le_refl _))
end
theorem boot_all:bootBuiltins "all" = some (.builtin "all"):=by decide +kernel
theorem boot_sum:bootBuiltins "sum" = some (.builtin "sum"):=by decide +kernel
theorem boot_sorted:bootBuiltins "sorted" = some (.builtin "sorted"):=by decide +kernel
end L2
namespace L2
open PySem PySem.Spec PyProof.Rows
section
variable {X:Cx}
theorem zaif {K:PySem.W.Frag}{F:Hp}{a:Addr}{xs:List V}{l:List PyData} (hs:SqL K F a xs) (hr:Iss K F l xs):ItD K (Itl K a) F l where
 go:=fun i H s hi=>⟨xs,xs[i]'(by rw [hr.len];exact hi),s.seq hs,List.getElem?_eq_getElem _⟩
 stop:=fun H s=>⟨xs,s.seq hs,by rw [hr.len];exact Nat.le_refl _⟩
 yld:=fun i H x H' F1 s1 s2 hi hy=>by
  obtain ⟨rfl,hy⟩:=hy
  obtain ⟨d,e1,e2⟩:=hr.get' (hy xs ((s1.trans s2).seq hs))
  exact ⟨d,F1,e1,.refl s2,e2.mono s1⟩
theorem zaky {K:PySem.W.Frag}{F:Hp}{a:Addr}{xs:List V}{l:List PyData} (hs:SqT K F a xs) (hr:Iss K F l xs):ItD K (Itt K a) F l where
 go:=fun i H s hi=>⟨xs,xs[i]'(by rw [hr.len];exact hi),qK s hs,List.getElem?_eq_getElem _⟩
 stop:=fun H s=>⟨xs,qK s hs,by rw [hr.len];exact Nat.le_refl _⟩
 yld:=fun i H x H' F1 s1 s2 hi hy=>by
  obtain ⟨rfl,hy⟩:=hy
  obtain ⟨d,e1,e2⟩:=hr.get' (hy xs (qK (s1.trans s2) hs))
  exact ⟨d,F1,e1,.refl s2,e2.mono s1⟩
def qzh (lo:Int) (n:Nat):List PyData:=(List.range n).map fun (k:Nat) => .int (lo+(k:Int))
theorem qA (lo:Int) (n:Nat):(qzh lo n).length=n:=by simp [qzh]
theorem qvc {lo:Int}{n i:Nat} (h:i<n):(qzh lo n)[i]?=some (.int (lo+i)):=by simp [qzh,h]
theorem qbq {lo:Int}{n i:Nat}{d:PyData} (h:(qzh lo n)[i]?=some d):i<n∧d = .int (lo+i):=by
 have hi:i<n:=by
  have:=(List.getElem?_eq_some_iff.mp h).1
  rwa [qA] at this
 rw [qvc hi] at h
 exact ⟨hi,(Option.some.inj h).symm⟩
theorem zair {K:PySem.W.Frag}{F:Hp}{lo:Int}{n:Nat}:ItD K (Itr lo n) F (qzh lo n) where
 go:=fun i H s hi=>by rw [qA] at hi;exact hi
 stop:=fun H s=>by rw [qA];exact Nat.le_refl _
 yld:=fun i H x H' F1 s1 s2 hi hy=>by
  obtain ⟨rfl,rfl⟩:=hy
  rw [qA] at hi
  exact ⟨_,F1,qvc hi,.refl s2,qab _⟩
def qmd (l:List PyData):List PyData:=(List.range l.length).map fun (k:Nat) => .tuple [.int k,(l[k]?).getD .none]
theorem qdl (l:List PyData):(qmd l).length=l.length:=by simp [qmd]
theorem qkt {l:List PyData}{i:Nat}{d:PyData} (h:l[i]?=some d):(qmd l)[i]?=some (.tuple [.int i,d]):=by
 have hi:=(List.getElem?_eq_some_iff.mp h).1
 have e:l[i]=d:=by rw [List.getElem?_eq_getElem hi] at h;exact Option.some.inj h
 simp [qmd,hi,e]
theorem qqd {l:List PyData}{i:Nat}{d:PyData} (h:(qmd l)[i]?=some d) : ∃ x,l[i]?=some x∧d = .tuple [.int i,x]:=by
 have hi:i<l.length:=by
  have:=(List.getElem?_eq_some_iff.mp h).1
  rwa [qdl] at this
 have e:=qkt (List.getElem?_eq_getElem hi)
 rw [h] at e
 exact ⟨_,List.getElem?_eq_getElem hi,Option.some.inj e⟩
theorem zadi {K:PySem.W.Frag}{F:Hp}{a:Addr}{xs:List V}{l:List PyData} (hs:SqL K F a xs) (hr:Iss K F l xs):ItD K (Ite K a) F (qmd l) where
 go:=fun i H s hi=>by rw [qdl] at hi;exact ⟨xs,xs[i]'(by rw [hr.len];exact hi),s.seq hs,List.getElem?_eq_getElem _⟩
 stop:=fun H s=>by rw [qdl];exact ⟨xs,s.seq hs,by rw [hr.len];exact Nat.le_refl _⟩
 yld:=fun i H x H' F1 s1 s2 hi hy=>by
  obtain ⟨p,y,hy,hp,rfl,rfl⟩:=hy
  obtain ⟨d,e1,e2⟩:=hr.get' (hy xs ((s1.trans s2).seq hs))
  have g:=Go.put (o:=HO.tup [.int i,y]) s2 hp
  exact ⟨_,_,qkt e1,g,qmm (SqT.of qr) (qB (qab _) (qB ((e2.mono s1).mono g.f) qS))⟩
section
variable {tg a b c:Expr}{W:WE}{Wr:WF}{p pos:Pos}
def qpa (T:String):PyData→Bool
 | .none=>false
 | .bool _=>T == "bool" || T == "int"
 | .int _=>T == "int"
 | .str _=>T == "str"
 | .list _=>T == "list"
 | .tuple _=>T == "tuple"
 | .dict _=>T == "dict"
def dSum:DC
 | [.list l],q => ∃ ns:List Int,l=ns.map .int∧q (.int ns.sum)
 | [.tuple l],q => ∃ ns:List Int,l=ns.map .int∧q (.int ns.sum)
 | _,_=>False
def qan:PyData→Option (List PyData)
 | .list l=>some l
 | .tuple l=>some l
 | _=>none
theorem qQ {d:PyData}{l:List PyData}{Q:List PyData→Prop} (h:qan d=some l) (q:Q l):(qan d).elim False Q:=by rw [h];exact q
theorem qmz {d:PyData}{l:List PyData}{q:PyData→Prop} (h:qan d=some l) (hq:q (.int l.length)):dLen [d] q:=by
 cases d with
 | list m=>cases h;exact hq
 | tuple m=>cases h;exact hq
 | _=>cases h
theorem qsl {d:PyData}{l:List PyData}{i:Int}{x:PyData}{q:PyData→Prop} (h:qan d=some l) (e:atI l i=some x) (hq:q x):dIx d (.int i) q:=by
 cases d with
 | list m=>cases h;exact ⟨x,e,hq⟩
 | tuple m=>cases h;exact ⟨x,e,hq⟩
 | _=>cases h
theorem zajc {d:PyData}{ns:List Int}{q:PyData→Prop} (h:qan d=some (ns.map .int)) (hq:q (.int ns.sum)):dSum [d] q:=by
 cases d with
 | list m=>cases h;exact ⟨ns,rfl,hq⟩
 | tuple m=>cases h;exact ⟨ns,rfl,hq⟩
 | _=>cases h
theorem qnw (d:PyData):(qpa "list" d||qpa "tuple" d)=(qan d).isSome:=by cases d <;> rfl
def zaps (W:WE):WF:=fun env Q=>W env fun d e=>(qan d).elim False fun l=>Q l e
theorem qO (h:VE X a W):VI X tg a (zaps W):=(zany h).imp fun σ H R xx109=>by
 obtain ⟨M,env,F,Q,I,h,k⟩:=xx109
 refine ⟨M,env,F,_,I,h,fun d v F1 H1 e1 I1 s1 i1 h1=>?_⟩
 cases d with
 | list l =>
  obtain ⟨b,xs,rfl,hs,hr⟩:=i1.lst_inv
  exact ⟨b,rfl,.inl ⟨⟨xs,I1.fh.seq hs⟩,k l _ F1 H1 e1 I1 s1 (zaif hs hr) h1⟩⟩
 | tuple l =>
  obtain ⟨b,xs,rfl,hs,hr⟩:=i1.tup_inv
  exact ⟨b,rfl,.inr ⟨⟨xs,qK I1.fh hs⟩,k l _ F1 H1 e1 I1 s1 (zaky hs hr) h1⟩⟩
 | _=>exact False.elim h1
def wiR1 (W:WE):WF:=fun env Q=>W env fun d e=>match d with
 | .int j=>(-(2^62)≤j∧j<2^62)∧Q (qzh 0 j.toNat) e
 | _=>False
theorem qR (hm:X.mg "range" = none) (ha:VE X a W) (hg:Gl X "range":=by rfl) (hs:starEach [a] X.env=[(false,eval a X.env)]:=by rfl) (hs':starEach [a] X.env=(false,eval a X.env)::starEach [] X.env:=by rfl):VI X tg (.Call (.Name "range" p) [a] [] pos) (wiR1 W) :=
 (zaaf hg hm (qN ha qbj hs') hs).imp fun σ H R xx110=>by
  obtain ⟨M,env,F,Q,I,h,k⟩:=xx110
  refine ⟨M,env,F,_,I,h,fun d v F1 H1 e1 I1 s1 i1 h1=>?_⟩
  cases d with
  | int j=>exact ⟨j,by rw [i1.int_inv],h1.1.1,h1.1.2,k _ _ F1 H1 e1 I1 s1 zair h1.2⟩
  | _=>exact False.elim h1
def wiEn (W:WE):WF:=fun env Q=>W env fun d e=>match d with
 | .list l=>Q (qmd l) e
 | _=>False
theorem zalc {elts:List Expr}{x1:Nat}{tpos:Pos} (hm:X.mg "enumerate" = none) (ha:VE X a W) (hg:Gl X "enumerate":=by rfl) (hs:starEach [a] X.env=[(false,eval a X.env)]:=by rfl) (hs':starEach [a] X.env=(false,eval a X.env)::starEach [] X.env:=by rfl) :
 VI X (.Tuple elts x1 tpos) (.Call (.Name "enumerate" p) [a] [] pos) (wiEn W) :=
 (zakc hg hm (qN ha qbj hs') hs).imp fun σ H R xx111=>by
  obtain ⟨M,env,F,Q,I,h,k⟩:=xx111
  refine ⟨M,env,F,_,I,h,fun d v F1 H1 e1 I1 s1 i1 h1=>?_⟩
  cases d with
  | list l =>
   obtain ⟨b,xs,rfl,hs,hr⟩:=i1.lst_inv
   exact ⟨b,rfl,⟨xs,I1.fh.seq hs⟩,k _ _ F1 H1 e1 I1 s1 (zadi hs hr) h1⟩
  | _=>exact False.elim h1
end
def Sl.seen:Sl→Sl
 | .val d => .val d
 | .new d => .val d
 | _ => .non
def qvi (ix:List Nat) (k:Nat) (env:Sto):Sto:=ix.map (fun i=>(gS env i).seen)++List.replicate k .non
def zacn (ix:List Nat) (k:Nat) (Wi:WF) (G:WG) (We:WE):WF:=fun env Q=>Wi env fun ds e0=>ds.length<sizeLine ∧ ∃ P:Nat→List PyData→Sto→Prop,P 0 [] (qvi ix k e0) ∧
 (∀ i d ys e,ds[i]?=some d→P i ys e→G d e fun e1=>We e1 fun y e2=>P (i+1) (ys++[y]) e2) ∧ ∀ ys e,P ds.length ys e→Q ys e0
theorem qpb : ∀ (ix:List Nat) (f:Nat→Sl) (r:Sto) (j:Nat),gS (ix.map f++r) j=match ix[j]? with|some i=>f i|none=>gS r (j-ix.length)
 | [],f,r,j=>by simp
 | i::ix,f,r,0=>by simp [gS]
 | i::ix,f,r,j+1=>by simp only [List.map_cons,List.cons_append,gS,List.getElem?_cons_succ,List.length_cons,Nat.add_sub_add_right];exact qpb ix f r j
theorem qhu (k j:Nat):gS (List.replicate k .non) j = .non:=by
 induction k generalizing j with
 | zero=>simp [gS]
 | succ k ih=>cases j with
  | zero=>simp [List.replicate_succ,gS]
  | succ j=>simp only [List.replicate_succ,gS];exact ih j
theorem zagt (ix:List Nat) (k:Nat) (σ:St) (j i:Nat) (h:ix[j]?=some i):vS (qoa ix k σ) j=vS σ i:=by
 have hj:=(List.getElem?_eq_some_iff.mp h).1
 unfold vS qoa
 rw [List.getElem?_append_left (by simpa using hj),List.getElem?_map,h]
 rfl
theorem EnvOk.cap {K:PySem.W.Frag}{M:Frm}{F H:Hp}{env:Sto}{σ:St} (I:EnvOk K M F H env σ) (ix:List Nat) (k:Nat):EnvOk K ⟨H,H,F⟩ F H (qvi ix k env) (qoa ix k σ) where
 len:=by simp [qvi,qoa]
 slot:=fun j=>by
  unfold qvi
  rw [qpb]
  cases h:ix[j]? with
  | none=>rw [qhu];trivial
  | some i =>
   show SlotOk K _ F H (gS env i).seen _
   rw [zagt ix k σ j i h]
   have S:=I.slot i
   cases q:gS env i with
   | val d=>rw [q] at S;exact S
   | non=>trivial
   | own ds=>trivial
   | pen ds=>trivial
   | new d=>rw [q] at S;obtain ⟨v,e,j⟩:=S;exact ⟨v,e,j.is qgg⟩
   | exc C=>trivial
   | obj a0 C nm fs=>trivial
 dis:=fun i j a _ h1=>by
  unfold qvi at h1
  rw [qpb] at h1
  cases h:ix[i]? with
  | none=>rw [h,qhu] at h1;cases h1
  | some n =>
   rw [h] at h1
   replace h1:(gS env n).seen.mut=true:=h1
   cases q:gS env n <;> rw [q] at h1 <;> cases h1
 f0 :=.refl _
 fe:=I.fh
 fh:=I.fh
 bh :=.refl _
 new:=fun b o e => .inl e
 dom:=fun b o e=>⟨o,e⟩
theorem EnvOk.goOf {K:PySem.W.Frag}{F H F' H':Hp}{env:Sto}{σ:St} (I:EnvOk K ⟨H,H,F⟩ F' H' env σ):Go F H F' H':=⟨I.f0,I.bh,I.fh,I.new⟩
section
variable {K:PySem.W.Frag}{ix:List Nat}{n:Nat}{Wi:WF}{G:WG}{We:WE}{σ:St}{H:Hp}{R:VK}
theorem qku (h:qwh K (zacn ix n Wi G We) σ H R):qxc ix n (qlt K Wi) (qjo K G) (qcw K We) σ H R:=by
 obtain ⟨M,env,F,Q,I,h,k⟩:=h
 refine ⟨M,env,F,_,I,h,fun ds J F1 H1 e1 I1 s1 jt xx113=>?_⟩
 obtain ⟨hz,P,p0,turn,fin⟩:=xx113
 refine ⟨fun i m ys σ1 H'=>m=ds.length-i∧i≤ds.length ∧ ∃ e' F' l,EnvOk K ⟨H1,H1,F1⟩ F' H' e' σ1∧Iss K F' l ys∧ys.length=i∧P i l e',⟨ds.length,by simp,Nat.zero_le _,qvi ix n e1,F1,[],I1.cap ix n,qS,rfl,p0⟩,?_⟩
 rintro i m ys σ1 H2 ⟨hm,hi,e2,F2,l,I2,i2,hl,p2⟩
 have g2:=I2.goOf
 by_cases he:i=ds.length
 ·subst he
  exact .inl ⟨jt.stop H2 (g2.f.trans g2.fh),by omega,qke (I1.go g2) (s1.trans g2.f) i2 (fin l e2 p2) k⟩
 ·have hlt:i<ds.length:=by omega
  refine .inr ⟨jt.go i H2 (g2.f.trans g2.fh) hlt,by omega,fun y σ' H' => ∃ e' F' l',EnvOk K ⟨H1,H1,F1⟩ F' H' e' σ'∧Iss K F' l' (ys++[y])∧P (i+1) l' e',
   fun y σ' H' xx112=>by obtain ⟨e',F',l',I',i',p'⟩:=xx112;exact ⟨ds.length-(i+1),by omega,rfl,hlt,e',F',l',I',i',by simp [hl],p'⟩,fun x H3 hy=>?_⟩
  obtain ⟨d,F3,hd,g,j⟩:=jt.yld i H2 x H3 F2 g2.f g2.fh hlt hy
  refine ⟨_,e2,F3,d,_,I2.go g,j,turn i d l e2 hd p2,fun F4 H4 e4 σ4 I4 s4 h4=>⟨_,e4,F4,_,I4,h4,fun d5 v5 F5 H5 e5 I5 s5 i5 h5=>?_⟩⟩
  exact ⟨e5,F5,l++[d5],I5,qal ((i2.mono (g.f.trans s4)).mono s5) (qB i5 qS),h5⟩
end
theorem qJ {elt target iter:Expr}{scope:Scope}{pos:Pos}{caps own:List Str}{ix:List Nat}{Wi:WF}{G:WG}{We:WE} (hc:X.calm=true) (S:CompScope X.env scope caps) (hi:VI X target iter Wi)
 (hg : ∀ pins s3 H ex,VG (blk X pins scope (caps++own) s3 H ex) target G)
 (he : ∀ pins s3 H ex,VE (blk X pins scope (caps++own) s3 H ex) elt We)
 (hix:caps.length=ix.length:=by rfl) (hcapB:(caps.zip ix).all (fun p=>X.N[p.2]?==some p.1)=true:=by rfl)
  (hs : ∀ x,foldedSetIterable iter X.env x=pure x:=by intro _;rfl):VF X (.ListComp elt [⟨target,iter,[],0⟩] scope pos) (zacn ix own.length Wi G We) :=
  (qyg (g:=qjo X.K G) (te:=qcw X.K We) hc S hi hg he hix hcapB hs).imp fun _ _ _ h=>qku h
theorem qz {ix:List Nat}{k:Nat}{G:WG}{We:WE}{Q:List PyData→Sto→Prop}{ds:List PyData}{e0:Sto} (L:List PyData) (hl:L.length=ds.length) (hz:L.length<sizeLine) (Iv:Sto→Prop) (h0:Iv (qvi ix k e0))
 (h : ∀ (i:Nat) d ys e,ds[i]?=some d→ys=L.take i→Iv e→G d e fun e1=>We e1 fun y e2=>ys++[y]=L.take (i+1)∧Iv e2) (q:Q L e0) :
 ds.length<sizeLine ∧ ∃ P:Nat→List PyData→Sto→Prop,P 0 [] (qvi ix k e0)∧(∀ i d ys e,ds[i]?=some d→P i ys e→G d e fun e1=>We e1 fun y e2=>P (i+1) (ys++[y]) e2) ∧ ∀ ys e,P ds.length ys e→Q ys e0 :=
  ⟨by omega,fun i ys e=>ys=L.take i∧Iv e,⟨by simp,h0⟩,fun i d ys e hd hp=>h i d ys e hd hp.1 hp.2,fun ys e hp=>by rw [hp.1,← hl,List.take_length];exact q⟩
theorem qo {α:Type}{L ys:List α}{y:α}{i:Nat} (e:L[i]?=some y) (h:ys=L.take i):ys++[y]=L.take (i+1):=by
 rw [h,List.take_add_one,e];rfl
def wIsi (T:String) (W:WE):WE:=fun env Q=>W env fun d e=>Q (.bool (qpa T d)) e
section
variable {a:Expr}{W:WE}{p pos pT:Pos}{T:String}{t:Str}
theorem qtb (hm:X.mg "isinstance" = none) (ht:X.mg t=none) (hv:bootBuiltins t=some (.type T)) (ha:VE X a W) (hk : ∀ d,PySem.W.kitOne X.K (.type (tyD d)) (.type T)=some (qpa T d):=by intro d;cases d <;> rfl)
 (hg:Gl X "isinstance":=by rfl) (hgt:Gl X t:=by rfl) (hn:t ≠ "__name__":=by decide) (hdt:(t==("__debug__" : Str))=false:=by decide)
 (hs:starEach [a,.Name t pT] X.env=(false,eval a X.env)::starEach [.Name t pT] X.env:=by rfl) (hs2:starEach [.Name t pT] X.env=(false,eval (.Name t pT) X.env)::starEach [] X.env:=by rfl) (hpl:(backTo pos (starEach [.Name t pT] X.env)).any (·.1)=false:=by rfl) :
 VE X (.Call (.Name "isinstance" p) [a,.Name t pT] [] pos) (wIsi T W) :=
 (qjj zaea hg hm qfu (qN ha (qN (qrw (v :=.ty T) hgt ht hv rfl hn hdt) qbj hs2) hs) (by decide) (by decide) hs hpl).imp fun σ H R xx114=>by
  obtain ⟨M,env,F,Q,I,h,k⟩:=xx114
  exact ⟨M,env,F,_,I,h,fun d v F1 H1 e1 I1 s1 i1 h1=>⟨d,v,T,qpa T d,rfl,i1.mono I1.fh,hk d,k _ _ F1 H1 e1 I1 s1 (qfa _) h1⟩⟩
def zaqo (T T':String) (W:WE):WE:=fun env Q=>W env fun d e=>Q (.bool (qpa T d||qpa T' d)) e
theorem qzs {T':String}{t':Str}{pT' ptu:Pos}{x1:Nat} (hm:X.mg "isinstance" = none) (ht:X.mg t=none) (hv:bootBuiltins t=some (.type T)) (ht':X.mg t'=none) (hv':bootBuiltins t'=some (.type T')) (ha:VE X a W)
 (hk : ∀ d,PySem.W.kitAny X.K (.type (tyD d)) ([T,T'].map Value.type)=some (qpa T d||qpa T' d):=by intro d;cases d <;> rfl)
  (hg:Gl X "isinstance":=by rfl) (hgt:Gl X t:=by rfl) (hgt':Gl X t':=by rfl) (hn:t ≠ "__name__":=by decide) (hn':t' ≠ "__name__":=by decide) (hdt:(t==("__debug__" : Str))=false:=by decide) (hdt':(t'==("__debug__" : Str))=false:=by decide)
  (hs:starEach [a,.Tuple [.Name t pT,.Name t' pT'] x1 ptu] X.env=(false,eval a X.env)::starEach [.Tuple [.Name t pT,.Name t' pT'] x1 ptu] X.env:=by rfl)
  (hs2:starEach [.Tuple [.Name t pT,.Name t' pT'] x1 ptu] X.env=(false,eval (.Tuple [.Name t pT,.Name t' pT'] x1 ptu) X.env)::starEach [] X.env:=by rfl)
  (hs3:starEach [.Name t pT,.Name t' pT'] X.env=(false,eval (.Name t pT) X.env)::starEach [.Name t' pT'] X.env:=by rfl)
  (hs4:starEach [.Name t' pT'] X.env=(false,eval (.Name t' pT') X.env)::starEach [] X.env:=by rfl)
  (hpl:(backTo pos (starEach [.Tuple [.Name t pT,.Name t' pT'] x1 ptu] X.env)).any (·.1)=false:=by rfl) :
  VE X (.Call (.Name "isinstance" p) [a,.Tuple [.Name t pT,.Name t' pT'] x1 ptu] [] pos) (zaqo T T' W) :=
  (qjj qxa hg hm qfu (qN ha (qN (zagr (qN (qrw (v :=.ty T) hgt ht hv rfl hn hdt) (qN (qrw (v :=.ty T') hgt' ht' hv' rfl hn' hdt') qbj hs4) hs3)) qbj hs2) hs) (by decide) (by decide) hs hpl).imp fun σ H R xx115=>by
   obtain ⟨M,env,F,Q,I,h,k⟩:=xx115
   exact ⟨M,env,F,_,I,h,fun d v F1 H1 e1 I1 s1 i1 h1=>⟨szl,fun p hp=>⟨d,v,p,[T,T'],_,rfl,qr,(i1.mono I1.fh).mono (qcx hp),hk d,
    k _ _ F1 _ e1 (I1.go (.side I1.fh hp)) s1 (qfa _) h1⟩⟩⟩
end
theorem qqa (hc:X.calm=true):qjg X (.builtin "sum") dSum:=(zadj hc).imp fun xs H Q xx116=>by
 obtain ⟨F,ds,q,s,i,h,k⟩:=xx116
 match ds,h,i with
 | [.list l],h,i =>
  obtain ⟨v,rfl,j⟩:=qjx i
  obtain ⟨a,xs,rfl,hs,hr⟩:=j.lst_inv
  obtain ⟨ns,rfl,hq⟩:=h
  rw [hr.ints_inv] at hs
  exact ⟨a,ns,rfl,.inl (s.seq hs),k _ _ F H (.refl s) (qab _) hq⟩
 | [.tuple l],h,i =>
  obtain ⟨v,rfl,j⟩:=qjx i
  obtain ⟨a,xs,rfl,hs,hr⟩:=j.tup_inv
  obtain ⟨ns,rfl,hq⟩:=h
  rw [hr.ints_inv] at hs
  exact ⟨a,ns,rfl,.inr (qK s hs),k _ _ F H (.refl s) (qab _) hq⟩
def zanq:List PyData→(List PyData→Prop)→Prop
 | [.list l],q => ∃ ns:List Int,l=ns.map .int∧ns.length<64 ∧ ∀ ns':List Int,ns'.Perm ns→ns'.Pairwise (· ≤ ·)→q (ns'.map .int)
 | _,_=>False
theorem zagb:qpf X (.builtin "sorted") zanq:=qtz.imp fun xs H Q xx117=>by
 obtain ⟨F,ds,q,s,i,h,k⟩:=xx117
 match ds,h,i with
 | [.list l],h,i =>
  obtain ⟨v,rfl,j⟩:=qjx i
  obtain ⟨a,xs,rfl,hs,hr⟩:=j.lst_inv
  obtain ⟨ns,rfl,hz,hq⟩:=h
  rw [hr.ints_inv] at hs
  exact ⟨a,ns,rfl,s.seq hs,hz,fun p ns' hp h1 h2=>k _ p _ F _ (.side s hp) hp (qW s hp) qr (qjs ns') (hq ns' h1 h2)⟩
def dAll:DC
 | [.list l],q => ∃ bs:List Bool,l=bs.map .bool∧q (.bool (bs.all id))
 | _,_=>False
theorem Iss.bools_inv {K:PySem.W.Frag}{H:Hp} : ∀ {bs:List Bool}{xs:List V},Iss K H (bs.map .bool) xs→xs=bs.map V.bl
 | [],_,h=>h.nil_inv
 | n::ns,_,h=>by
  obtain ⟨x,r,rfl,p,q⟩:=h.cons_inv
  rw [p.bl_inv,Iss.bools_inv q];rfl
theorem zacl (hc:X.calm=true):qjg X (.builtin "all") dAll:=(zado hc).imp fun xs H Q xx118=>by
 obtain ⟨F,ds,q,s,i,h,k⟩:=xx118
 match ds,h,i with
 | [.list l],h,i =>
  obtain ⟨v,rfl,j⟩:=qjx i
  obtain ⟨a,xs,rfl,hs,hr⟩:=j.lst_inv
  obtain ⟨bs,rfl,hq⟩:=h
  rw [hr.bools_inv] at hs
  exact ⟨a,bs,rfl,s.seq hs,k _ _ F H (.refl s) (qfa _) hq⟩
end
def qaq (N:List Str) (ds:List PyData):Sto:=ds.map .val++List.replicate (N.length-ds.length) .non
theorem qoz : ∀ (ds:List PyData) (r:Sto) (j:Nat),gS (ds.map .val++r) j=match ds[j]? with|some d => .val d|none=>gS r (j-ds.length)
 | [],r,j=>by simp
 | i::ix,r,0=>by simp [gS]
 | i::ix,r,j+1=>by simp only [List.map_cons,List.cons_append,gS,List.getElem?_cons_succ,List.length_cons,Nat.add_sub_add_right];exact qoz ix r j
theorem qou {N:List Str}{vs:List V}{j:Nat}{v:V} (h:vs[j]?=some v):vS (start N vs) j=some v:=by
 have hj:=(List.getElem?_eq_some_iff.mp h).1
 unfold vS start
 rw [List.getElem?_append_left (by simpa using hj),List.getElem?_map,h]
 rfl
theorem qhh {K:PySem.W.Frag}{F H:Hp}{N:List Str}{ds:List PyData}{vs:List V} (s:Same F H) (i:Iss K F ds vs):EnvOk K ⟨H,H,F⟩ F H (qaq N ds) (start N vs) where
 len:=by simp [qaq,start,i.len]
 slot:=fun j=>by
  unfold qaq
  rw [qoz]
  cases h:ds[j]? with
  | none=>rw [qhu];trivial
  | some d =>
   obtain ⟨x,e1,e2⟩:=i.get h
   exact ⟨x,qou e1,e2⟩
 dis:=fun i j a _ h1=>by
  unfold qaq at h1
  rw [qoz] at h1
  cases h:ds[i]? with
  | none=>rw [h,qhu] at h1;cases h1
  | some d=>rw [h] at h1;cases h1
 f0 :=.refl _
 fe:=s
 fh:=s
 bh :=.refl _
 new:=fun b o e => .inl e
 dom:=fun b o e=>⟨o,e⟩
section
variable {P:Program}{w:World}{K:PySem.W.Frag}{mg:Str→Option Value}{base:Heap}
theorem RetOk.is {F H F' H':Hp}{env:Sto}{σ:St}{r:Ret}{v:V} (I:EnvOk K ⟨H,H,F⟩ F' H' env σ) (h:RetOk K ⟨H,H,F⟩ F' H' r v) : ∃ F'',Go F H F'' H'∧Is K F'' r.data v:=by
 have g:=I.goOf
 cases r with
 | val d=>exact ⟨F',g,h⟩
 | new d=>exact ⟨F',g,IsN.is qgg h⟩
 | own ds =>
  obtain ⟨a,vs,rfl,h1,h2,h3,h4,h5⟩:=h
  have s:Same F' (upd F' a (.lst vs)):=qcx h2
  refine ⟨upd F' a (.lst vs),⟨g.f.trans s,g.h,fun b o e=>?_,fun b o e=>?_⟩,qfh (SqL.of qr) (h5.mono s)⟩
  ·by_cases z:b=a
   ·subst z;rw [qr] at e;rw [h1];exact e
   ·rw [qj z] at e;exact g.fh b o e
  ·by_cases z:b=a
   ·subst z;exact .inr h4
   ·rw [qj z] at e;exact g.new b o e
theorem Def.vok {x:Str}{st:Stmt}{N ps:List Str}{k:Nat}{sp:DC} (F:Def K mg x st ps) (S:FnScope N ps (defScope st)) (len : ∀ ds q,sp ds q→ds.length=ps.length)
 (hbody : ∀ (f:Addr) (cdv:Value) (A:Around) (outer:List Env) (s:Shared) (H:Hp) (E:XK),Room k (A.deeper (envOfC x (defScope st) s.heap.objs.size f cdv)) → ∀ ds q,sp ds q →
 ∃ W,VSs (qpv CX0 P w K mg base N x (defScope st) f cdv A outer s H E).nox (defBody st) W∧W { nx:=fun _=>q .none,rt:=fun r _=>q r.data } (qaq N ds)):Ok P w K mg base x (k+1) ps (PSp K sp) :=
  F.ok S (fun vs H Q E xx120=>by obtain ⟨F,ds,q,_,i,h,_⟩:=xx120;rw [i.len];exact len ds q h) fun f cdv A outer s H vs Q E hr xx119=>by
   obtain ⟨F,ds,q,sm,i,h,kk⟩:=xx119
   obtain ⟨W,hW,hq⟩:=hbody f cdv A outer s H E hr ds q h
   refine ⟨_,hW,⟨H,H,F⟩,qaq N ds,F,_,qhh sm i,hq,⟨fun e1 F1 H1 σ1 I1 s1 q1=>kk _ _ F1 H1 I1.goOf zagy q1,fun r v e1 F1 H1 σ1 I1 s1 r1 q1=>?_,fun _ _ _ _ _ _ h=>h.elim,fun _ _ _ _ _ _ h=>h.elim⟩⟩
   obtain ⟨F2,g,j⟩:=r1.is I1
   exact kk _ _ F2 H1 g j q1
theorem Def.vokF {x:Str}{st:Stmt}{N ps:List Str}{k:Nat}{sp:List PyData→(List PyData→Prop)→Prop} (F:Def K mg x st ps) (S:FnScope N ps (defScope st)) (len : ∀ ds q,sp ds q→ds.length=ps.length)
 (hbody : ∀ (f:Addr) (cdv:Value) (A:Around) (outer:List Env) (s:Shared) (H:Hp) (E:XK),Room k (A.deeper (envOfC x (defScope st) s.heap.objs.size f cdv)) → ∀ ds q,sp ds q →
 ∃ W,VSs (qpv CX0 P w K mg base N x (defScope st) f cdv A outer s H E).nox (defBody st) W∧W { nx:=fun _=>False,rt:=fun r _ => ∃ l,r = .own l∧q l } (qaq N ds)):Ok P w K mg base x (k+1) ps (FSp K sp) :=
  F.ok S (fun vs H Q E xx122=>by obtain ⟨F,ds,q,_,i,h,_⟩:=xx122;rw [i.len];exact len ds q h) fun f cdv A outer s H vs Q E hr xx121=>by
   obtain ⟨F,ds,q,sm,i,h,kk⟩:=xx121
   obtain ⟨W,hW,hq⟩:=hbody f cdv A outer s H E hr ds q h
   refine ⟨_,hW,⟨H,H,F⟩,qaq N ds,F,_,qhh sm i,hq,⟨fun e1 F1 H1 σ1 I1 s1 q1=>q1.elim,fun r v e1 F1 H1 σ1 I1 s1 r1 q1=>?_,fun _ _ _ _ _ _ h=>h.elim,fun _ _ _ _ _ _ h=>h.elim⟩⟩
   obtain ⟨l,rfl,q1⟩:=q1
   obtain ⟨a,vs,rfl,h1,h2,h3,h4,h5⟩:=r1
   exact kk l a vs F1 H1 I1.goOf h4 h2 h1 h5 q1
def zapq (K:PySem.W.Frag):Sp:=fun vs H Q _ => ∃ (a:Addr) (ns:List Int),vs=[.ref a]∧SqL K H a (ns.map V.int)∧ns.length≤63 ∧ ∀ H',Q (.bl true) H'
end
end L2
namespace L2
open PySem PySem.Spec PyProof.Rows
section
variable (K:PySem.W.Frag)
def zacp (W:WE):TE:=fun σ H R => ∃ M env F Q,EnvOk K M F H env σ∧W env Q ∧ ∀ d v F' H' env',EnvOk K M F' H' env' σ→Same F F'→IsN K (qlp M F') d v→Q d env'→R v H'
def zant (W:WF):TE:=fun σ H R => ∃ M env F Q,EnvOk K M F H env σ∧W env Q ∧ ∀ a vs ds F' H' env',EnvOk K M F' H' env' σ→Same F F'→H' a=some (.lst vs)→F' a=none→M.B a=none→M.He a=none →
 (∀ i,(gS env' i).mut=true→vS σ i≠some (.ref a))→IssN K (qlp M F') ds vs→Q ds env'→R (.ref a) H'
def zahk (r:DC):List V→Hp→VK→Prop:=fun vs H Q => ∃ F ds q,Same F H∧Iss K F ds vs∧r ds q ∧ ∀ d v F' H',Go F H F' H'→IsN K (qlp ⟨H,H,F⟩ F') d v→q d→Q v H'
def qpz (sp:DC):Sp:=fun vs H Q _=>zahk K sp vs H Q
structure EndsT (M:Frm) (DD:WEnds) (D:Ends):Prop where
 nx : ∀ env' F' H' σ',EnvOk K M F' H' env' σ'→DD.nx env'→D.nx σ' H'
 rt : ∀ r v env' F' H' σ',EnvOk K M F' H' env' σ'→RetOk K M F' H' r v→DD.rt r env'→D.rt v H'
 bk : ∀ env' F' H' σ',EnvOk K M F' H' env' σ'→DD.bk env'→D.bk σ' H'
 ct : ∀ env' F' H' σ',EnvOk K M F' H' env' σ'→DD.ct env'→D.ct σ' H'
def zagm (W:WS):TS:=fun D σ H => ∃ M env F DD,EnvOk K M F H env σ∧W DD env∧EndsT K M DD D
end
def VN (X:Cx) (e:Expr) (W:WE):Prop:=PE X e (zacp X.K W)
def VFN (X:Cx) (e:Expr) (W:WF):Prop:=PE X e (zant X.K W)
def VST (X:Cx) (st:Stmt) (W:WS):Prop:=PS X st (zagm X.K W)
def VSsT (X:Cx) (st:List Stmt) (W:WS):Prop:=PSs X st (zagm X.K W)
def zahx:PyData→Bool
 | .none=>true
 | .bool _=>true
 | .int _=>true
 | .str _=>true
 | _=>false
theorem zanp {K:PySem.W.Frag}{F F':Hp}{d:PyData}{v:V} (h:zahx d=true) (i:Is K F d v):IsN K F' d v:=by
 cases d with
 | none=>unfold Is at i;unfold IsN;exact i
 | bool b=>unfold Is at i;unfold IsN;exact i
 | int b=>unfold Is at i;unfold IsN;exact i
 | str b=>unfold Is at i;unfold IsN;exact i
 | _=>cases h
theorem qyh {K:PySem.W.Frag}{F F':Hp} : ∀ {ds:List PyData}{vs:List V},ds.all zahx=true→Iss K F ds vs→IssN K F' ds vs
 | [],_,_,i=>by rw [i.nil_inv];exact zaeb
 | d::l,_,h,i=>by
  obtain ⟨x,r,rfl,p,q⟩:=i.cons_inv
  rw [List.all_cons,Bool.and_eq_true] at h
  exact zabf (zanp h.1 p) (qyh h.2 q)
theorem EnvOk.newUp {K:PySem.W.Frag}{M:Frm}{F H F':Hp}{env:Sto}{σ:St} (I:EnvOk K M F H env σ):Same (qlp ⟨H,H,F⟩ F') (qlp M F'):=fun b o e=>by
 obtain ⟨z1,_,z3⟩:=zadz e
 exact qzz (I.he z1) (qW I.bh z1) z3
section
variable {X:Cx}{a b e:Expr}{W:WE}{Wf:WF}{pos p:Pos}
def zaqz (W:WE):WE:=fun env Q=>W env fun d e=>match d with | .list l=>l.all zahx=true∧Q (.tuple l) e|_=>False
theorem zaih (hm:X.mg "tuple" = none) (ha:VE X a W) (hg:Gl X "tuple":=by rfl) (hs:starEach [a] X.env=(false,eval a X.env)::starEach [] X.env:=by rfl) (hpl:(backTo pos (starEach [] X.env)).any (·.1)=false:=by rfl) :
 VN X (.Call (.Name "tuple" p) [a] [] pos) (zaqz W) :=
 (qkz qia hg hm boot_tuple (qN (te:=qcw X.K W) ha qbj hs) (by decide) (by decide) hs hpl).imp fun σ H R xx123=>by
  obtain ⟨M,env,F,Q,I,h,k⟩:=xx123
  refine ⟨M,env,F,_,I,h,fun d v F1 H1 e1 I1 s1 i1 h1=>?_⟩
  cases d with
  | list l =>
   obtain ⟨a,xs,rfl,hs,hr⟩:=i1.lst_inv
   refine ⟨a,xs,rfl,.inl ⟨I1.fh.seq hs,fun p hp=>?_⟩⟩
   have g:=Go.put (o:=HO.tup xs) I1.fh hp
   refine k _ _ _ _ e1 (I1.go g) (s1.trans g.f) ?_ h1.2
   unfold IsN
   exact ⟨p,xs,rfl,qzz (I1.he hp) (qW I1.bh hp) qr,qyh h1.1 hr⟩
  | _=>exact False.elim h1
theorem zamd {x:Str}{es:List Expr}{Wr:WF}{k:Nat}{ps:List Str}{sp:DC} (O:Ok X.prog X.w X.K X.mg X.base x k ps (qpz X.K sp)) (hr:Room k X.A) (ha:VA X (e::es) Wr) (hg:Gl X x:=by rfl) (hdb:(x==("__debug__" : Str))=false:=by decide)
 (he:starEach (e::es) X.env=(false,eval e X.env)::starEach es X.env:=by rfl) (hpl:(backTo pos (starEach es X.env)).any (·.1)=false:=by rfl):VN X (.Call (.Name x p) (e::es) [] pos) (qxb sp Wr) :=
 (qob (t:=qgl X.K Wr) O hr ha hg hdb he hpl).imp fun σ H R xx124=>by
  obtain ⟨M,env,F,Q,I,h,k⟩:=xx124
  have e:qjb (qpz X.K sp) [] E0 (qgl X.K Wr) σ H R=qgl X.K Wr σ H fun vs H1=>zahk X.K sp vs H1 R:=by unfold qjb qpz;simp only [List.append_nil]
  rw [e]
  exact ⟨M,env,F,_,I,h,fun ds vs F1 H1 e1 I1 s1 i1 h1=>⟨F1,ds,_,I1.fh,i1,h1,fun d v F2 H2 g i2 q=>k d v F2 H2 e1 (I1.go g) (s1.trans g.f) (i2.mono I1.newUp) q⟩⟩
theorem vn_e (h:VN X e W):VE X e W:=PE.imp (t:=zacp X.K W) h fun σ H R xx125=>by
 obtain ⟨M,env,F,Q,I,h,k⟩:=xx125
 exact ⟨M,env,F,_,I,h,fun d v F1 H1 e1 I1 s1 i1 h1=>k d v F1 H1 e1 I1 s1 (i1.is qgg) h1⟩
def zaqr (W:WE):WS:=fun D env=>W env fun d e=>D.rt (.new d) e
theorem zaji (he:VN X e W):VS X (.Return (some e) pos) (zaqr W):=(qmn (te:=zacp X.K W) he).imp fun D σ H xx126=>by
 obtain ⟨M,env,F,DD,I,h,k⟩:=xx126
 exact ⟨M,env,F,_,I,h,fun d v F1 H1 e1 I1 s1 i1 h1=>k.rt (.new d) v e1 F1 H1 σ I1 s1 i1 h1⟩
end
section
variable {P:Program}{w:World}{K:PySem.W.Frag}{mg:Str→Option Value}{base:Heap}
theorem Def.vokN {x:Str}{st:Stmt}{N ps:List Str}{k:Nat}{sp:DC} (F:Def K mg x st ps) (S:FnScope N ps (defScope st)) (len : ∀ ds q,sp ds q→ds.length=ps.length)
 (hbody : ∀ (f:Addr) (cdv:Value) (A:Around) (outer:List Env) (s:Shared) (H:Hp) (E:XK),Room k (A.deeper (envOfC x (defScope st) s.heap.objs.size f cdv)) → ∀ ds q,sp ds q →
 ∃ W,VSs (qpv CX0 P w K mg base N x (defScope st) f cdv A outer s H E).nox (defBody st) W∧W { nx:=fun _=>False,rt:=fun r _ => ∃ d,r = .new d∧q d } (qaq N ds)):Ok P w K mg base x (k+1) ps (qpz K sp) :=
  F.ok S (fun vs H Q E xx128=>by obtain ⟨F,ds,q,_,i,h,_⟩:=xx128;rw [i.len];exact len ds q h) fun f cdv A outer s H vs Q E hr xx127=>by
   obtain ⟨F,ds,q,sm,i,h,kk⟩:=xx127
   obtain ⟨W,hW,hq⟩:=hbody f cdv A outer s H E hr ds q h
   refine ⟨_,hW,⟨H,H,F⟩,qaq N ds,F,_,qhh sm i,hq,⟨fun e1 F1 H1 σ1 I1 s1 q1=>q1.elim,fun r v e1 F1 H1 σ1 I1 s1 r1 q1=>?_,fun _ _ _ _ _ _ h=>h.elim,fun _ _ _ _ _ _ h=>h.elim⟩⟩
   obtain ⟨d,rfl,q1⟩:=q1
   exact kk d v F1 H1 I1.goOf r1 q1
end
section
variable {X:Cx}{c e:Expr}{Tc:WT}{W:WE}{Wt Wu:WS}{st:Stmt}{sts rest:List Stmt}{pos pos':Pos}
mutual
def immD:PyData→Bool
 | .list _=>false
 | .tuple l=>qss l
 | .dict _=>false
 | _=>true
def qss:List PyData→Bool
 | []=>true
 | d::l=>immD d&&qss l
end
mutual
theorem Is.imm {K:PySem.W.Frag}{F F':Hp} (s : ∀ b o,F b=some o→(∀ xs,o ≠ .lst xs)→F' b=some o) : ∀ {d:PyData}{v:V},immD d=true→Is K F d v→Is K F' d v
 | .none,_,_,h=>by unfold Is at h ⊢;exact h
 | .bool _,_,_,h=>by unfold Is at h ⊢;exact h
 | .int _,_,_,h=>by unfold Is at h ⊢;exact h
 | .str _,_,_,h=>by unfold Is at h ⊢;exact h
 | .list l,_,m,h=>by unfold immD at m;cases m
 | .dict l,_,m,h=>by unfold immD at m;cases m
 | .tuple l,_,m,h=>by
  unfold immD at m
  unfold Is at h ⊢
  obtain ⟨a,xs,e,q,r⟩:=h
  refine ⟨a,xs,e,?_,Iss.imm s m r⟩
  rcases q with (q|⟨o,q⟩)|q
  ·exact .inl (.inl (s _ _ q (fun _ z=>nomatch z)))
  ·exact .inl (.inr ⟨o,s _ _ q (fun _ z=>nomatch z)⟩)
  ·exact .inr q
theorem Iss.imm {K:PySem.W.Frag}{F F':Hp} (s : ∀ b o,F b=some o→(∀ xs,o ≠ .lst xs)→F' b=some o) : ∀ {l:List PyData}{xs:List V},qss l=true→Iss K F l xs→Iss K F' l xs
 | [],_,_,h=>by unfold Iss at h ⊢;exact h
 | d::l,_,m,h=>by
  unfold qss at m
  rw [Bool.and_eq_true] at m
  unfold Iss at h ⊢
  obtain ⟨x,r,e,p,q⟩:=h
  exact ⟨x,r,e,Is.imm s m.1 p,Iss.imm s m.2 q⟩
end
end
section
variable {X:Cx}
def dInI:D2:=fun x y q => ∃ (i:Int) (ns:List Int),x = .int i∧qan y=some (ns.map .int)∧q (.bool (ns.any (· == i)))
theorem qoe (i:Int) : ∀ ns:List Int,inV (.int i) (ns.map V.int)=ns.any (· == i)
 | []=>rfl
 | n::ns=>by
  have:=qoe i ns
  unfold inV at this ⊢
  rw [List.map_cons,List.any_cons,List.any_cons,this]
  rfl
theorem qrb (ns:List Int):(ns.map V.int).all qly=true:=by
 rw [List.all_eq_true]
 intro x hx
 obtain ⟨i,_,rfl⟩:=List.mem_map.mp hx
 rfl
theorem zajb {neg:Bool}{x y:V}{H:Hp}{Q:VK}{F:Hp}{dy:PyData}{i:Int}{ns:List Int} (s:Same F H) (i1:Is X.K F (.int i) x) (i2:Is X.K F dy y) (e:qan dy=some (ns.map .int)) (q:Q (.bl (if neg then !ns.any (· == i) else ns.any (· == i))) H):rIn X.K neg x y H Q:=by
 rw [i1.int_inv]
 cases dy with
 | list l =>
  cases e
  obtain ⟨a,xs,rfl,hs,hr⟩:=i2.lst_inv
  rw [hr.ints_inv] at hs
  exact ⟨a,_,rfl,.inl (s.seq hs),rfl,qrb ns,by rw [qoe];exact q⟩
 | tuple l =>
  cases e
  obtain ⟨a,xs,rfl,hs,hr⟩:=i2.tup_inv
  rw [hr.ints_inv] at hs
  exact ⟨a,_,rfl,.inr (qK s hs),rfl,qrb ns,by rw [qoe];exact q⟩
 | _=>cases e
theorem zali:OpV X (compareOp .In) dInI:=OpR.imp zabp fun x y H Q xx129=>by
 obtain ⟨F,dx,dy,q,s,i1,i2,⟨i,ns,e1,e2,hq⟩,k⟩:=xx129
 subst e1
 exact zajb s i1 i2 e2 (k _ _ F H (.refl s) (qfa _) hq)
end
end L2
namespace L2
open PySem PySem.Spec PyProof.Rows
section
variable {X:Cx}{elt target iter:Expr}{scope:Scope}{pos:Pos}{caps own:List Str}{ix:List Nat}{wi:TI}{g:TG}{te:TE}
theorem qrt {i:Nat}{y:Str}{py spos:Pos} (hN:X.N.Nodup) (hiy:X.N[i]?=some y) (hy:X.env.scope.names.lookup y=some .local) (hsw:swapsWith (.ListComp elt [⟨target,iter,[],0⟩] scope pos) (some (.Name y py)) spos.line X.env=pure true) (hc:X.calm=true) (S:CompScope X.env scope caps) (hi:PI X target iter wi)
 (hg : ∀ pins s3 H ex,PG (blk X pins scope (caps++own) s3 H ex) target g)
 (he : ∀ pins s3 H ex,PE (blk X pins scope (caps++own) s3 H ex) elt te)
 (hix:caps.length=ix.length:=by rfl) (hcapB:(caps.zip ix).all (fun p=>X.N[p.2]?==some p.1)=true:=by rfl)
  (hs : ∀ x,foldedSetIterable iter X.env x=pure x:=by intro _;rfl):PS X (.Assign [.Name y py] (.ListComp elt [⟨target,iter,[],0⟩] scope pos) spos) (tAsg (qxc ix own.length wi g te) (zahy i)):=by
  intro pins s σ H D I h
  rw [exec_Assign_Name_used _ _ _ _ hsw]
  refine wpAny_bind (wpAny_standAt (wpAny_bind ?_))
  show wpAny _ _ (do let _ ← comprehension (.ListComp elt [⟨target,iter,[],0⟩] scope pos) scope X.env _ (newList []) false (eval iter X.env) (some (assign (.Name y py) X.env))) _ _ s
  refine wpAny_bind (thn (qmy (use:=some (assign (.Name y py) X.env)) (Q0:=fun _ s'=>SP X pins D .next s') hc S hi hg he hix hcapB hs I h fun D' C s6 H6 m6 ns6 IX c1 c2 c3 c4 c5 c6 q=>?_) (fun _ s' hq=>wpAny_pure (wpAny_pure hq)))
  obtain ⟨oC,esC,epC,hoC,hdC,rC⟩:=id ns6
  have IX':Inv X (pins++[(C,oC)]) σ H6 s6:=IX.pins_of fun p hp=>by
   rcases List.mem_append.mp hp with z|z
   ·exact IX.pin p (List.mem_append_right _ z)
   ·rw [List.mem_singleton.mp z]
    exact ⟨hoC,c1,c2,c3,fun v q=>by rw [hdC] at q;cases q⟩
  show wpAny _ _ (assign (.Name y py) X.env (.ref D')) _ _ _
  refine wpAny_assign_Name (qgz IX' hN hiy (Or.inl hy) (v :=.ref D') rfl (fun s7 I7=>?_) (.inr hy))
  have gC:s7.heap.get? C=some oC:=(I7.pin (C,oC) (List.mem_append_right _ (List.mem_append_right _ (List.mem_singleton.mpr rfl)))).1
  refine ⟨m6,⟨oC,esC,epC,gC,hdC,rC⟩,fun h' sb=>?_⟩
  exact ⟨_,_,I7.unpinned.turned (t':=s7.toks) (it:=C) (fun b o hb q=>sb.extBut b o hb q) c1 c2 c4 c5 c6,q⟩
end
section
variable {K:PySem.W.Frag}{ix:List Nat}{n:Nat}{Wi:WF}{G:WG}{We:WE}{σ:St}{H:Hp}{R:VK}
end
section
variable {X:Cx}{elt target iter:Expr}{scope:Scope}{pos py spos:Pos}{caps own:List Str}{ix:List Nat}{Wi:WF}{G:WG}{We:WE}{i:Nat}{y:Str}
theorem qnc (hN:X.N.Nodup) (hc:X.calm=true) (S:CompScope X.env scope caps) (hi:VI X target iter Wi) (hg : ∀ pins s3 H ex,VG (blk X pins scope (caps++own) s3 H ex) target G) (he : ∀ pins s3 H ex,VE (blk X pins scope (caps++own) s3 H ex) elt We)
 (hiy:X.N[i]?=some y:=by rfl) (hy:X.env.scope.names.lookup y=some .local:=by rfl) (hsw:swapsWith (.ListComp elt [⟨target,iter,[],0⟩] scope pos) (some (.Name y py)) spos.line X.env=pure true:=by rfl)
  (hix:caps.length=ix.length:=by rfl) (hcapB:(caps.zip ix).all (fun p=>X.N[p.2]?==some p.1)=true:=by rfl) (hs : ∀ x,foldedSetIterable iter X.env x=pure x:=by intro _;rfl) :
  VS X (.Assign [.Name y py] (.ListComp elt [⟨target,iter,[],0⟩] scope pos) spos) (wSet i (wL (zacn ix own.length Wi G We))) :=
  (qrt (wi:=qlt X.K Wi) (g:=qjo X.K G) (te:=qcw X.K We) hN hiy hy hsw hc S hi hg he hix hcapB hs).imp fun D σ H ⟨M,env,F,DD,I,h,k⟩=>qku ⟨M,env,F,_,I,h,fun a vs ds F1 H1 e1 I1 s1 h1 h2 h3 h4 h5 h6 h7=>by
   obtain ⟨J,s⟩:=I1.frz h1 h2 h4 h5
   exact k.nx _ _ H1 _ (J.setv (qfh (SqL.of qr) (h6.mono s))) (s1.trans s) h7⟩
theorem zadc (hN:X.N.Nodup) (hc:X.calm=true) (S:CompScope X.env scope caps) (hi:VI X target iter Wi) (hg : ∀ pins s3 H ex,VG (blk X pins scope (caps++own) s3 H ex) target G) (he : ∀ pins s3 H ex,VE (blk X pins scope (caps++own) s3 H ex) elt We)
 (hiy:X.N[i]?=some y:=by rfl) (hy:X.env.scope.names.lookup y=some .local:=by rfl) (hsw:swapsWith (.ListComp elt [⟨target,iter,[],0⟩] scope pos) (some (.Name y py)) spos.line X.env=pure true:=by rfl)
  (hix:caps.length=ix.length:=by rfl) (hcapB:(caps.zip ix).all (fun p=>X.N[p.2]?==some p.1)=true:=by rfl) (hs : ∀ x,foldedSetIterable iter X.env x=pure x:=by intro _;rfl) :
  VS X (.Assign [.Name y py] (.ListComp elt [⟨target,iter,[],0⟩] scope pos) spos) (zalr i (zacn ix own.length Wi G We)) :=
  (qrt (wi:=qlt X.K Wi) (g:=qjo X.K G) (te:=qcw X.K We) hN hiy hy hsw hc S hi hg he hix hcapB hs).imp fun D σ H ⟨M,env,F,DD,I,h,k⟩=>qku ⟨M,env,F,_,I,h,fun a vs ds F1 H1 e1 I1 s1 h1 h2 h3 h4 h5 h6 h7 =>
   k.nx _ F1 H1 _ (I1.seto h1 h2 h3 h4 h5 h6) s1 h7⟩
end
end L2
namespace L2
open PySem PySem.Spec PyProof.Rows
section
variable {X:Cx}{tg:Expr}
end
def qcu (H:Hp) (a:Addr):Hp:=fun b=>if b=a then none else H b
structure GoP (a:Addr) (F H F' H':Hp):Prop where
 f:Same F F'
 h:Same (qcu H a) H'
 fh:Same F' H'
 new : ∀ b o,F' b=some o→F b=some o∨H b=none
 fa:F' a=none
theorem EnvOk.goP {K:PySem.W.Frag}{M:Frm}{F H F' H':Hp}{env:Sto}{σ:St}{i:Nat}{a:Addr}{ps ps':List V}{ds':List PyData} (I:EnvOk K M F H env σ) (m:(gS env i).mut=true) (ea:vS σ i=some (.ref a)) (ha:H a=some (.lst ps))
 (g:GoP a F H F' H') (h':H' a=some (.lst ps')) (hi:Iss K F' ds' ps'):EnvOk K M F' H' (env.set i ((gS env i).upd ds')) σ:=by
  have g1:Go F H F' (upd H' a (.lst ps)):=by
   refine ⟨g.f,fun b o e=>?_,fun b o e=>?_,g.new⟩
   ·by_cases z:b=a
    ·subst z;rw [qr,← e,ha]
    ·rw [qj z]
     exact g.h b o (by unfold qcu;rw [if_neg z];exact e)
   ·rw [qj (qq e g.fa)];exact g.fh b o e
  have J:=(I.go g1).chg m ea hi
  have e:upd (upd H' a (.lst ps)) a (.lst ps')=H':=by
   rw [zaiq]
   funext b
   by_cases z:b=a
   ·subst z;rw [qr,h']
   ·rw [qj z]
  rw [e] at J
  exact J
abbrev DP:=List PyData→List PyData→(PyData→List PyData→Prop)→Prop
def zago (K:PySem.W.Frag) (r:DP):List V→Hp→VK→Prop:=fun vs H Q => ∃ F a ps rest ds0 ds q,vs = .ref a::rest∧Same F H∧F a=none∧H a=some (.lst ps)∧Iss K F ds0 ps∧Iss K F ds rest∧r ds0 ds q ∧
 ∀ d v F' H' ps' ds',GoP a F H F' H'→H' a=some (.lst ps')→Iss K F' ds' ps'→Is K F' d v→q d ds'→Q v H'
def NSp (K:PySem.W.Frag) (sp:DP):Sp:=fun vs H Q _=>zago K sp vs H Q
section
variable {X:Cx}
def zamm (i:Nat) (r:DP) (Wr:WF):WE:=fun env Q=>(gS env i).mut=true∧Wr env fun ds e=>(gS e i).mut=true∧r (gS e i).cnt ds fun d ds'=>Q d (e.set i ((gS e i).upd ds'))
theorem qae (i:Nat) {x y:Str}{p py pos:Pos}{es:List Expr}{Wr:WF}{k:Nat}{ps:List Str}{sp:DP} (O:Ok X.prog X.w X.K X.mg X.base x k ps (NSp X.K sp)) (hr:Room k X.A) (ha:VA X es Wr)
 (hN:X.N[i]?=some y:=by rfl) (hv:Vis X.env.scope y:=by first|exact Or.inl rfl|exact Or.inr (Or.inl rfl)|exact Or.inr (Or.inr rfl)) (hd:(y==("__debug__" : Str))=false:=by decide) (hcd:(y==("__classdict__" : Str))=false:=by decide)
  (hg:Gl X x:=by rfl) (hdb:(x==("__debug__" : Str))=false:=by decide)
  (he:starEach (.Name y py::es) X.env=(false,eval (.Name y py) X.env)::starEach es X.env:=by rfl) (hpl:(backTo pos (starEach es X.env)).any (·.1)=false:=by rfl):VE X (.Call (.Name x p) (.Name y py::es) [] pos) (zamm i sp Wr) :=
  (qob O hr (qN (t:=qgl X.K Wr) (qbb hN hv hd hcd) ha he) hg hdb he hpl).imp fun σ H R xx132=>by
   obtain ⟨M,env,F,Q,I,⟨m,h⟩,k⟩:=xx132
   obtain ⟨a,vs,ea,g1,g2,g3,g4⟩:=(I.slot i).addr m
   have e:qjb (NSp X.K sp) [] E0 (qwd (tVar i) (qgl X.K Wr)) σ H R=qwd (tVar i) (qgl X.K Wr) σ H fun vs H1=>zago X.K sp vs H1 R:=by unfold qjb NSp;simp only [List.append_nil]
   rw [e]
   refine ⟨_,qcl ea,M,env,F,_,I,h,fun ds us F1 H1 e1 I1 s1 i1 h1=>?_⟩
   obtain ⟨m1,h1⟩:=h1
   obtain ⟨a',vs1,ea',f1,f2,f3,f4⟩:=(I1.slot i).addr m1
   rw [ea] at ea';injection ea' with ea';injection ea' with ea';subst ea'
   exact ⟨F1,a,vs1,us,_,ds,_,rfl,I1.fh,f2,f1,f4,i1,h1,fun d v F2 H2 ps2 ds2 g e2 i2 j2 q=>k d v F2 H2 _ (I1.goP m1 ea f1 g e2 i2) (s1.trans g.f) j2 q⟩
end
theorem qwu {K:PySem.W.Frag}{F H:Hp}{N:List Str}{a:Addr}{ps:List V}{ds0 ds:List PyData}{vs:List V} (s:Same F H) (fa:F a=none) (ha:H a=some (.lst ps)) (i0:Iss K F ds0 ps) (i:Iss K F ds vs) :
 EnvOk K ⟨qcu H a,H,F⟩ F H (.pen ds0::qaq N.tail ds) (start N (.ref a::vs))↔(qaq N.tail ds).length+1=(start N (.ref a::vs)).length:=by
  constructor
  ·intro I;exact I.len
  intro hl
  refine ⟨by simpa using hl,fun j=>?_,fun i j b hij h1 h2=>?_,.refl _,s,s,fun b o e=>?_,fun b o e => .inl e,fun b o e=>⟨o,e⟩⟩
  ·cases j with
   | zero =>
    exact ⟨a,ps,qou (N:=N) (vs :=.ref a::vs) (j:=0) rfl,ha,fa,by show qcu H a a=none;unfold qcu;rw [if_pos rfl],⟨_,ha⟩,i0⟩
   | succ j =>
    show SlotOk K _ F H (gS (qaq N.tail ds) j) _
    unfold qaq
    rw [qoz]
    cases h:ds[j]? with
    | none=>rw [qhu];trivial
    | some d =>
     obtain ⟨x,e1,e2⟩:=i.get h
     exact ⟨x,qou (N:=N) (vs :=.ref a::vs) (j:=j+1) (by simpa using e1),e2⟩
  ·have no : ∀ k,(gS (qaq N.tail ds) k).mut=false:=fun k=>by
    unfold qaq
    rw [qoz]
    cases h:ds[k]? with
    | none=>rw [qhu];rfl
    | some d=>rfl
   cases i with
   | zero=>cases j with
    | zero=>exact absurd rfl hij
    | succ j=>have h2':(gS (qaq N.tail ds) j).mut=true:=h2
              rw [no] at h2';cases h2'
   | succ i=>have h1':(gS (qaq N.tail ds) i).mut=true:=h1
             rw [no] at h1';cases h1'
  ·have e:qcu H a b=some o:=e
   unfold qcu at e
   split at e
   ·cases e
   ·exact e
section
variable {P:Program}{w:World}{K:PySem.W.Frag}{mg:Str→Option Value}{base:Heap}
theorem Def.vokP {x:Str}{st:Stmt}{N ps:List Str}{k:Nat}{sp:DP} (F:Def K mg x st ps) (S:FnScope N ps (defScope st)) (len : ∀ ds0 ds q,sp ds0 ds q→ds.length+1=ps.length) (hNp:ps.length≤N.length)
 (hbody : ∀ (f:Addr) (cdv:Value) (A:Around) (outer:List Env) (s:Shared) (H:Hp) (E:XK),Room k (A.deeper (envOfC x (defScope st) s.heap.objs.size f cdv)) → ∀ ds0 ds q,sp ds0 ds q →
 ∃ W,VSs (qpv CX0 P w K mg base N x (defScope st) f cdv A outer s H E).nox (defBody st) W ∧
 W { nx:=fun e => ∃ ds',gS e 0 = .pen ds'∧q .none ds',rt:=fun r e => ∃ d ds',r = .val d∧gS e 0 = .pen ds'∧q d ds' } (.pen ds0::qaq N.tail ds)):Ok P w K mg base x (k+1) ps (NSp K sp) :=
  F.ok S (fun vs H Q E xx134=>by obtain ⟨F,a,ps',rest,ds0,ds,q,e,_,_,_,_,i,h,_⟩:=xx134;rw [e,List.length_cons,i.len];exact len ds0 ds q h) fun f cdv A outer s H vs Q E hr xx133=>by
   obtain ⟨F,a,ps',rest,ds0,ds,q,e,sm,fa,ha,i0,i,h,kk⟩:=xx133
   subst e
   obtain ⟨W,hW,hq⟩:=hbody f cdv A outer s H E hr ds0 ds q h
   have hl:=len ds0 ds q h
   have hlen:(qaq N.tail ds).length+1=(start N (.ref a::rest)).length:=by
    simp only [qaq,start,List.length_append,List.length_map,List.length_replicate,List.length_tail,List.length_cons,i.len]
    omega
   have same : ∀ {e1:Sto}{F1 H1:Hp}{σ1:St}{ds':List PyData},EnvOk K ⟨qcu H a,H,F⟩ F1 H1 e1 σ1→gS e1 0 = .pen ds'→GoP a F H F1 H1 ∧ ∃ ps2,H1 a=some (.lst ps2)∧Iss K F1 ds' ps2:=fun {e1 F1 H1 σ1 ds'} I1 e0=>by
    have T:=I1.slot 0
    rw [e0] at T
    obtain ⟨b,vs2,eb,h1,h2,h3,⟨o,h4⟩,h5⟩:=T
    have hb:b=a:=by
     rcases Nat.decEq b a with z|z
     ·have h3':qcu H a b=none:=h3
      unfold qcu at h3'
      rw [if_neg z] at h3'
      have h4':H b=some o:=h4
      rw [h4'] at h3';cases h3'
     ·exact z
    subst hb
    exact ⟨⟨I1.f0,I1.bh,I1.fh,I1.new,h2⟩,vs2,h1,h5⟩
   refine ⟨_,hW,⟨qcu H a,H,F⟩,_,F,_,(qwu sm fa ha i0 i).mpr hlen,hq,⟨fun e1 F1 H1 σ1 I1 s1 q1=>?_,fun r v e1 F1 H1 σ1 I1 s1 r1 q1=>?_,fun _ _ _ _ _ _ h=>h.elim,fun _ _ _ _ _ _ h=>h.elim⟩⟩
   ·obtain ⟨ds',e0,q1⟩:=q1
    obtain ⟨g,ps2,h1,h5⟩:=same I1 e0
    exact kk _ _ F1 H1 ps2 ds' g h1 h5 zagy q1
   ·obtain ⟨d,ds',rfl,e0,q1⟩:=q1
    obtain ⟨g,ps2,h1,h5⟩:=same I1 e0
    exact kk _ _ F1 H1 ps2 ds' g h1 h5 r1 q1
end
end L2
namespace L2
open PySem PySem.Spec PyProof.Rows
def capP (i0:Nat) (ix:List Nat) (k:Nat) (env:Sto):Sto:=ix.map (fun i=>if i=i0 then .pen (gS env i0).cnt else (gS env i).seen)++List.replicate k .non
def qxn (i0 j0:Nat) (ix:List Nat) (k:Nat) (Wi:WF) (G:WG) (We:WE):WF:=fun env Q=>Wi env fun ds e0=>ds.length<sizeLine∧(gS e0 i0).mut=true ∧ ∃ P:Nat→List PyData→Sto→Prop,P 0 [] (capP i0 ix k e0) ∧
 (∀ i d ys e,ds[i]?=some d→P i ys e→G d e fun e1=>We e1 fun y e2=>P (i+1) (ys++[y]) e2) ∧ ∀ ys e,P ds.length ys e → ∃ ds',gS e j0 = .pen ds'∧Q ys (e0.set i0 ((gS e0 i0).upd ds'))
theorem EnvOk.capP {K:PySem.W.Frag}{M:Frm}{F H:Hp}{env:Sto}{σ:St}{i0:Nat}{a:Addr} (I:EnvOk K M F H env σ) (m:(gS env i0).mut=true) (ea:vS σ i0=some (.ref a)) (ix:List Nat) (k:Nat) (nd : ∀ j j':Nat,ix[j]?=some i0→ix[j']?=some i0→j=j') :
 EnvOk K ⟨qcu H a,H,F⟩ F H (L2.capP i0 ix k env) (qoa ix k σ) where
  len:=by simp [L2.capP,qoa]
  slot:=fun j=>by
   unfold L2.capP
   rw [qpb]
   cases h:ix[j]? with
   | none=>rw [qhu];trivial
   | some i =>
    show SlotOk K _ F H (if i=i0 then .pen (gS env i0).cnt else (gS env i).seen) _
    rw [zagt ix k σ j i h]
    by_cases z:i=i0
    ·subst z
     rw [if_pos rfl]
     obtain ⟨a',vs,e,h1,h2,h3,h5⟩:=(I.slot i).addr m
     rw [ea] at e;injection e with e;injection e with e;subst e
     exact ⟨a,vs,ea,h1,h2,by show qcu H a a=none;unfold qcu;rw [if_pos rfl],⟨_,h1⟩,h5⟩
    ·rw [if_neg z]
     have S:=I.slot i
     cases q:gS env i with
     | val d=>rw [q] at S;exact S
     | non=>trivial
     | own ds=>trivial
     | pen ds=>trivial
     | new d=>rw [q] at S;obtain ⟨v,e,j⟩:=S;exact ⟨v,e,j.is qgg⟩
     | exc C=>trivial
     | obj a0 C nm fs=>trivial
  dis:=fun i j b hij h1 h2=>by
   have key : ∀ n,(gS (L2.capP i0 ix k env) n).mut=true→ix[n]?=some i0:=fun n hn=>by
    unfold L2.capP at hn
    rw [qpb] at hn
    cases h:ix[n]? with
    | none=>rw [h,qhu] at hn;cases hn
    | some c =>
     rw [h] at hn
     replace hn:(if c=i0 then Sl.pen (gS env i0).cnt else (gS env c).seen).mut=true:=hn
     by_cases z:c=i0
     ·rw [z]
     ·rw [if_neg z] at hn
      cases q:gS env c <;> rw [q] at hn <;> cases hn
   exact absurd (nd i j (key i h1) (key j h2)) hij
  f0 :=.refl _
  fe:=I.fh
  fh:=I.fh
  bh:=fun b o e=>by
   have e:qcu H a b=some o:=e
   unfold qcu at e
   split at e
   ·cases e
   ·exact e
  new:=fun b o e => .inl e
  dom:=fun b o e=>⟨o,e⟩
theorem EnvOk.penGo {K:PySem.W.Frag}{F H F1 H1:Hp}{a:Addr}{e1:Sto}{σ1:St}{j:Nat}{ds':List PyData} (I1:EnvOk K ⟨qcu H a,H,F⟩ F1 H1 e1 σ1) (e0:gS e1 j = .pen ds'):GoP a F H F1 H1 ∧ ∃ ps2,H1 a=some (.lst ps2)∧Iss K F1 ds' ps2:=by
 have T:=I1.slot j
 rw [e0] at T
 obtain ⟨b,vs2,eb,h1,h2,h3,⟨o,h4⟩,h5⟩:=T
 have hb:b=a:=by
  rcases Nat.decEq b a with z|z
  ·have h3':qcu H a b=none:=h3
   unfold qcu at h3'
   rw [if_neg z] at h3'
   have h4':H b=some o:=h4
   rw [h4'] at h3';cases h3'
  ·exact z
 subst hb
 exact ⟨⟨I1.f0,I1.bh,I1.fh,I1.new,h2⟩,vs2,h1,h5⟩
theorem qnl {K:PySem.W.Frag}{ix:List Nat}{n i0 j0:Nat}{Wi:WF}{G:WG}{We:WE}{σ:St}{H:Hp}{R:VK} (nd : ∀ j j':Nat,ix[j]?=some i0→ix[j']?=some i0→j=j') (h:qwh K (qxn i0 j0 ix n Wi G We) σ H R):qxc ix n (qlt K Wi) (qjo K G) (qcw K We) σ H R:=by
 obtain ⟨M,env,F,Q,I,h,k⟩:=h
 refine ⟨M,env,F,_,I,h,fun ds J F1 H1 e1 I1 s1 jt xx136=>?_⟩
 obtain ⟨hz,hm,P,p0,turn,fin⟩:=xx136
 obtain ⟨a,vs,ea,a1,a2,a3,a4⟩:=(I1.slot i0).addr hm
 refine ⟨fun i m ys σ1 H'=>m=ds.length-i∧i≤ds.length ∧ ∃ e' F' l,EnvOk K ⟨qcu H1 a,H1,F1⟩ F' H' e' σ1∧Iss K F' l ys∧ys.length=i∧P i l e',⟨ds.length,by simp,Nat.zero_le _,capP i0 ix n e1,F1,[],I1.capP hm ea ix n nd,qS,rfl,p0⟩,?_⟩
 rintro i m ys σ1 H2 ⟨hm',hi,e2,F2,l,I2,i2,hl,p2⟩
 by_cases he:i=ds.length
 ·subst he
  obtain ⟨ds',e0,q⟩:=fin l e2 p2
  obtain ⟨g,ps2,h1,h5⟩:=I2.penGo e0
  exact .inl ⟨jt.stop H2 (I2.f0.trans I2.fh),by omega,qke (I1.goP hm ea a1 g h1 h5) (s1.trans g.f) i2 q k⟩
 ·have hlt:i<ds.length:=by omega
  refine .inr ⟨jt.go i H2 (I2.f0.trans I2.fh) hlt,by omega,fun y σ' H' => ∃ e' F' l',EnvOk K ⟨qcu H1 a,H1,F1⟩ F' H' e' σ'∧Iss K F' l' (ys++[y])∧P (i+1) l' e',
   fun y σ' H' xx135=>by obtain ⟨e',F',l',I',i',p'⟩:=xx135;exact ⟨ds.length-(i+1),by omega,rfl,hlt,e',F',l',I',i',by simp [hl],p'⟩,fun x H3 hy=>?_⟩
  obtain ⟨d,F3,hd,g,j⟩:=jt.yld i H2 x H3 F2 I2.f0 I2.fh hlt hy
  refine ⟨_,e2,F3,d,_,I2.go g,j,turn i d l e2 hd p2,fun F4 H4 e4 σ4 I4 s4 h4=>⟨_,e4,F4,_,I4,h4,fun d5 v5 F5 H5 e5 I5 s5 i5 h5=>?_⟩⟩
  exact ⟨e5,F5,l++[d5],I5,qal ((i2.mono (g.f.trans s4)).mono s5) (qB i5 qS),h5⟩
section
variable {X:Cx}{elt target iter:Expr}{scope:Scope}{pos py spos:Pos}{caps own:List Str}{ix:List Nat}{Wi:WF}{G:WG}{We:WE}{i i0 j0:Nat}{y:Str}
theorem qop (hc:X.calm=true) (S:CompScope X.env scope caps) (hi:VI X target iter Wi) (hg : ∀ pins s3 H ex,VG (blk X pins scope (caps++own) s3 H ex) target G) (he : ∀ pins s3 H ex,VE (blk X pins scope (caps++own) s3 H ex) elt We)
 (nd : ∀ j j':Nat,ix[j]?=some i0→ix[j']?=some i0→j=j')
 (hix:caps.length=ix.length:=by rfl) (hcapB:(caps.zip ix).all (fun p=>X.N[p.2]?==some p.1)=true:=by rfl) (hs : ∀ x,foldedSetIterable iter X.env x=pure x:=by intro _;rfl):VF X (.ListComp elt [⟨target,iter,[],0⟩] scope pos) (qxn i0 j0 ix own.length Wi G We) :=
  (qyg (wi:=qlt X.K Wi) (g:=qjo X.K G) (te:=qcw X.K We) hc S hi hg he hix hcapB hs).imp fun σ H R h=>qnl nd h
theorem zaff (hN:X.N.Nodup) (hc:X.calm=true) (S:CompScope X.env scope caps) (hi:VI X target iter Wi) (hg : ∀ pins s3 H ex,VG (blk X pins scope (caps++own) s3 H ex) target G) (he : ∀ pins s3 H ex,VE (blk X pins scope (caps++own) s3 H ex) elt We)
 (nd : ∀ j j':Nat,ix[j]?=some i0→ix[j']?=some i0→j=j')
 (hiy:X.N[i]?=some y:=by rfl) (hy:X.env.scope.names.lookup y=some .local:=by rfl) (hsw:swapsWith (.ListComp elt [⟨target,iter,[],0⟩] scope pos) (some (.Name y py)) spos.line X.env=pure true:=by rfl)
  (hix:caps.length=ix.length:=by rfl) (hcapB:(caps.zip ix).all (fun p=>X.N[p.2]?==some p.1)=true:=by rfl) (hs : ∀ x,foldedSetIterable iter X.env x=pure x:=by intro _;rfl) :
  VS X (.Assign [.Name y py] (.ListComp elt [⟨target,iter,[],0⟩] scope pos) spos) (wSet i (wL (qxn i0 j0 ix own.length Wi G We))) :=
  (qrt (wi:=qlt X.K Wi) (g:=qjo X.K G) (te:=qcw X.K We) hN hiy hy hsw hc S hi hg he hix hcapB hs).imp fun D σ H ⟨M,env,F,DD,I,h,k⟩=>qnl nd ⟨M,env,F,_,I,h,fun a vs ds F1 H1 e1 I1 s1 h1 h2 h3 h4 h5 h6 h7=>by
   obtain ⟨J,s⟩:=I1.frz h1 h2 h4 h5
   exact k.nx _ _ H1 _ (J.setv (qfh (SqL.of qr) (h6.mono s))) (s1.trans s) h7⟩
end
theorem qjt {ix:List Nat}{i0:Nat} (h:(List.range ix.length).all (fun j=>(List.range ix.length).all fun j' => !(ix[j]?==some i0&&ix[j']?==some i0)||j==j')=true) : ∀ j j':Nat,ix[j]?=some i0→ix[j']?=some i0→j=j':=fun j j' h1 h2=>by
 have a:=(List.getElem?_eq_some_iff.mp h1).1
 have b:=(List.getElem?_eq_some_iff.mp h2).1
 have q:=List.all_eq_true.mp (List.all_eq_true.mp h j (List.mem_range.mpr a)) j' (List.mem_range.mpr b)
 simpa [h1,h2] using q
end L2
namespace L2
open PySem PySem.Spec PyProof.Rows
section
variable {X:Cx}{pins:List (Addr×Obj)}{σ:St}{H:Hp}{s:Shared}
end
section
variable {P:Program}{w:World}{K:PySem.W.Frag}{mg:Str→Option Value}{base:Heap}{N:List Str}{qual:Str}{scope:Scope}{f:Addr}{cd:Value}{A:Around}{outer:List Env}{s:Shared}{H:Hp}{E:XK}
end
end L2
namespace L2
open PySem PySem.Spec PyProof.Rows
section
variable {X:Cx}{x:Str}{C:Addr}{E:XK}{e:Expr}{es:List Expr}{t:TA}{np cpos pos:Pos}
end
end L2
namespace L2
open PySem PySem.Spec PyProof.Rows
section
variable {M:Model}{A:Around}{E:Value→Shared→Prop}{C N C' N':Addr}{nm nm' q q':Str}{bs bm bs' bm':List Value}
end
section
variable {X:Cx}{pins:List (Addr×Obj)}{σ:St}{H1 H2:Hp}{s1 s':Shared}{B h5:Heap}
end
section
variable {X:Cx}{pins:List (Addr×Obj)}{σ:St}{H:Hp}{s:Shared}
end
end L2
namespace L2
open PySem PySem.Spec PyProof.Rows
section
variable {X:Cx}{pins pins0:List (Addr×Obj)}{σ:St}{H:Hp}{s:Shared}
end
section
variable {X:Cx}{body suite:List Stmt}{b₀:Stmt}{x n:Str}{np hpos pos:Pos}{C':Addr}{i:Nat}{tb:(St→XK)→TS}{ts:TS}
end
end L2
namespace L2
open PySem PySem.Spec PyProof.Rows
section
variable {K:PySem.W.Frag}{M:Frm}{F H:Hp}{env:Sto}{σ:St}
end
abbrev WX:=Addr→Sto→Prop
def ExOk (K:PySem.W.Frag) (M:Frm) (F:Hp) (Wx:WX) (Ex:St→XK):Prop := ∀ C env' F' H' σ',EnvOk K M F' H' env' σ'→Same F F'→Wx C env'→Ex σ' (.ref C) none H'
def zaoo (K:PySem.W.Frag) (Ex:St→XK) (W:WX→WE):TE:=fun σ H R => ∃ M env F Wx Q,EnvOk K M F H env σ∧W Wx env Q∧ExOk K M F Wx Ex ∧ ∀ d v F' H' env',EnvOk K M F' H' env' σ→Same F F'→Is K F' d v→Q d env'→R v H'
def zags (K:PySem.W.Frag) (Ex:St→XK) (W:WX→WS):TS:=fun D σ H => ∃ M env F Wx DD,EnvOk K M F H env σ∧W Wx DD env∧ExOk K M F Wx Ex∧EndsOk K M F DD D
def VEX (X:Cx) (Ex:St→XK) (e:Expr) (W:WX→WE):Prop:=PE X e (zaoo X.K Ex W)
def VSX (X:Cx) (Ex:St→XK) (st:Stmt) (W:WX→WS):Prop:=PS X st (zags X.K Ex W)
def VSsX (X:Cx) (Ex:St→XK) (st:List Stmt) (W:WX→WS):Prop:=PSs X st (zags X.K Ex W)
abbrev DE:=List PyData→(PyData→Prop)→(Addr→Prop)→Prop
section
variable {X:Cx}{Ex:St→XK}{x:Str}{k:Nat}{ps:List Str}{sp:DE}{e c:Expr}{es:List Expr}{p pos:Pos}{Wr:WF}{st:Stmt}{rest A B:List Stmt}{Tc:WT}{W:WX→WE}{Wt Wu:WX→WS}{W0:WS}
end
end L2
namespace L2
open PySem PySem.Spec PyProof.Rows
section
variable {X:Cx}{Ex:St→XK}{E:XK}{x y n:Str}{k i j:Nat}{ps:List Str}{sp:DE}{e:Expr}{es:List Expr}{p np cpos hpos pos pos':Pos}{Wr:WF}{st b₀:Stmt}{body suite:List Stmt}{C C':Addr}{Wb:WX→WS}{Ws:WS}
end
section
variable {P:Program}{w:World}{K:PySem.W.Frag}{mg:Str→Option Value}{base:Heap}
end
end L2
namespace L2
open PySem PySem.Spec PyProof.Rows
section
variable {prog:Program}{w:World}{A:Around}{E:Value→Shared→Prop}{h:Heap}{g:Array GenState}{d:Drawn}{t:Nat}{os:OsState}{a:Addr}{o:Obj}{K:PySem.W.Frag}
 {nm q:Str}{C N:Addr}{bs bm:List Value}{hdct:Bool}{sn:List Str}{sub:List Value}{ab:Bool}{col:Option Bool}{dd:Option Addr}{k0 k1 k2 k3 k5:Option Value}{newId:String}
end
end L2
namespace L2
open PySem PySem.Spec PyProof.Rows
section
variable {X:Cx}
section
variable {y:Str}{c:Expr}{cs:List Expr}{v:V}{vs:List V}{u:Value}{us:List Value}{p py pt pos:Pos}{x1:Nat}
end
end
end L2
namespace L2
open PySem PySem.Spec PyProof.Rows
section
variable {prog:Program}{w:World}{A:Around}{E:Value→Shared→Prop}{s:Shared}
def SqIt (b:Bool) (h:Heap) (j l:Addr) (i:Nat):Prop:=match b with
 | true=>h.IsTupleIter j l i
 | false=>h.IsListIter j l i
def SqOf (b:Bool) (h:Heap) (l:Addr) (us:Array Value):Prop:=match b with
 | true=>h.IsTuple l us
 | false=>h.IsList l us
def itTy:Bool→String
 | true => "tuple_iterator"
 | false => "list_iterator"
abbrev itO (b:Bool) (l:Addr):Obj:={ cls :=.type (itTy b),data :=.fields #[.ref l,.int 0 0] }
theorem SqIt.at' {b:Bool}{h h':Heap}{j l:Addr}{i:Nat} (x:SqIt b h j l i) (e : ∀ o,h.get? j=some o→h'.get? j=some o):SqIt b h' j l i:=by
 cases b with
 | true=>exact Heap.IsTupleIter.at x e
 | false=>exact Heap.IsListIter.at x e
theorem SqIt.but {b:Bool}{h h':Heap}{j l c:Addr}{i:Nat} (x:SqIt b h j l i) (e:Heap.SameBut c h h') (n:j≠c):SqIt b h' j l i:=x.at' fun o q=>e.extBut j o n q
theorem SqIt.obj {b:Bool}{h:Heap}{j l:Addr}{i:Nat} (x:SqIt b h j l i) : ∃ o,h.get? j=some o ∧ ∀ v,o.data ≠ .cell v:=by
 cases b with
 | true=>obtain ⟨o,q,_,d⟩:=x;exact ⟨o,q,fun v z=>by rw [d] at z;cases z⟩
 | false=>obtain ⟨o,q,_,d⟩:=x;exact ⟨o,q,fun v z=>by rw [d] at z;cases z⟩
theorem SqOf.at' {b:Bool}{h h':Heap}{l:Addr}{us:Array Value} (x:SqOf b h l us) (e : ∀ o,h.get? l=some o→h'.get? l=some o):SqOf b h' l us:=by
 cases b with
 | true=>obtain ⟨o,q,r⟩:=x;exact ⟨o,e o q,r⟩
 | false=>exact Heap.IsList.at x e
theorem SqOf.but {b:Bool}{h h':Heap}{l c:Addr}{us:Array Value} (x:SqOf b h l us) (e:Heap.SameBut c h h') (n:l≠c):SqOf b h' l us:=x.at' fun o q=>e.extBut l o n q
theorem SqOf.lt {b:Bool}{h:Heap}{l:Addr}{us:Array Value} (x:SqOf b h l us):l<h.objs.size:=by
 cases b with
 | true=>obtain ⟨o,q,_⟩:=x;exact Heap.lt_size q
 | false=>obtain ⟨o,q,_⟩:=x;exact Heap.lt_size q
theorem qui {j t:Addr}{k:Nat}{us:Array Value}{u:Value}{Q:Value→Shared→Prop} (hj:s.heap.IsTupleIter j t k) (ht:s.heap.IsTuple t us) (hu:us[k]?=some u)
 (q : ∀ h',h'.IsTupleIter j t (k+1)→Heap.SameBut j s.heap h'→Q u { s with heap:=h' }):wpAny (model prog w) A (Builtin.SmallTypes.nextOf (.ref j)) Q E s:=by
  obtain ⟨ob,e1,e2,e3⟩:=id hj
  obtain ⟨ot,f1,_,nt,f3⟩:=ht
  unfold Builtin.SmallTypes.nextOf
  refine wpAny_bind (wpAny_callSpecial?_slot (name:=Str.ofString "__next__") hj.typeIs F.slot_tuple_iterator_next (wpAny_call_entry F.slot_tuple_iterator_next hj.typeIs F.entry_tuple_iterator_next ?_ (F.args_tuple_iterator_next_1 _)))
  show wpAny _ _ (field (.ref j) 0 >>= _) _ _ s
  refine wpAny_bind (wpAny_field e1 e3 (x :=.ref t) rfl ?_)
  show wpAny _ _ (if (Value.ref t==Value.none)=true then _ else _) _ _ s
  rw [if_neg (fun z:(Value.ref t==Value.none)=true=>Bool.false_ne_true z)]
  show wpAny _ _ (field (.ref j) 1 >>= _) _ _ s
  refine wpAny_bind (wpAny_field e1 e3 (x :=.int k 0) rfl ?_)
  show wpAny _ _ (seqItems? (.ref t) >>= _) _ _ s
  refine wpAny_bind (wpAny_seqItems f1 f3 ?_)
  simp only [Int.toNat_natCast,hu]
  refine wpAny_bind (wpAny_setField e1 e3 (by simp) (wpAny_pure ⟨u,rfl,wpAny_pure (q _ ?_ (Heap.SameBut.update ..))⟩))
  exact ⟨_,Heap.get?_update_self _ e1 (Obj.isFreed_of_fields (Obj.data_mapFields e3 _)),(Obj.cls_mapFields ..).trans e2,by rw [Obj.data_mapFields e3];simp [rawInt]⟩
theorem qzo {j t:Addr}{k:Nat}{us:Array Value}{Q:Value→Shared→Prop} (hh:A.handled=none) (hj:s.heap.IsTupleIter j t k) (ht:s.heap.IsTuple t us) (hu:us[k]?=none)
 (q : ∀ h' e,Heap.ExtBut j s.heap h'→(∃ o,h'.get? e=some o∧o.cls = .type "StopIteration")→E (.ref e) { s with heap:=h' }):wpAny (model prog w) A (Builtin.SmallTypes.nextOf (.ref j)) Q E s:=by
  obtain ⟨ob,e1,e2,e3⟩:=id hj
  obtain ⟨ot,f1,_,nt,f3⟩:=ht
  unfold Builtin.SmallTypes.nextOf
  refine wpAny_bind (wpAny_callSpecial?_slot (name:=Str.ofString "__next__") hj.typeIs F.slot_tuple_iterator_next (wpAny_call_entry F.slot_tuple_iterator_next hj.typeIs F.entry_tuple_iterator_next ?_ (F.args_tuple_iterator_next_1 _)))
  show wpAny _ _ (field (.ref j) 0 >>= _) _ _ s
  refine wpAny_bind (wpAny_field e1 e3 (x :=.ref t) rfl ?_)
  show wpAny _ _ (if (Value.ref t==Value.none)=true then _ else _) _ _ s
  rw [if_neg (fun z:(Value.ref t==Value.none)=true=>Bool.false_ne_true z)]
  show wpAny _ _ (field (.ref j) 1 >>= _) _ _ s
  refine wpAny_bind (wpAny_field e1 e3 (x :=.int k 0) rfl ?_)
  show wpAny _ _ (seqItems? (.ref t) >>= _) _ _ s
  refine wpAny_bind (wpAny_seqItems f1 f3 ?_)
  simp only [Int.toNat_natCast,hu]
  refine wpAny_bind (wpAny_rule (wpAny_bind (wpAny_setField e1 e3 (by simp) ?_)))
  show wpAny _ _ (newExc (.type "StopIteration") [] >>= _) _ _ _
  refine wpAny_bind (?_:wpAny _ _ (newExc (.type "StopIteration") []) _ _ _)
  simp only [newExc,newTuple]
  refine wpAny_bind (wpAny_newObj_type (?_:_) (by size_fits))
  refine wpAny_bind (m:=firstArgMember _ _) (wpAny_of_eq (a:=Value.none) (by first|rfl|(simp only [firstArgMember];rfl)|skip) ?_)
  refine wpAny_newObj_type (?_:_) (by size_fits)
  simp only [raiseNew]
  refine wpAny_bind (wpAny_handled (?_:_))
  first|rw [hh]|rw [show A.in1.handled=none from hh]
  refine wpAny_bind (wpAny_pure (wpAny_throw (?_:_)))
  exact q _ _ (((Heap.SameBut.update ..).extBut.push _).push _) ⟨_,Heap.get?_push_size _ rfl,rfl⟩
theorem qox {b:Bool}{j l:Addr}{k:Nat}{us:Array Value}{u:Value}{Q:Value→Shared→Prop} (hj:SqIt b s.heap j l k) (hl:SqOf b s.heap l us) (hu:us[k]?=some u)
 (q : ∀ h',SqIt b h' j l (k+1)→Heap.SameBut j s.heap h'→Q u { s with heap:=h' }):wpAny (model prog w) A (Builtin.SmallTypes.nextOf (.ref j)) Q E s:=by
  cases b with
  | true=>exact qui hj hl hu q
  | false=>exact wpAny_nextOf_list_item hj hl hu q
theorem qyr {b:Bool}{j l:Addr}{k:Nat}{us:Array Value}{Q:Value→Shared→Prop} (hh:A.handled=none) (hj:SqIt b s.heap j l k) (hl:SqOf b s.heap l us) (hu:us[k]?=none)
 (q : ∀ h' e,Heap.ExtBut j s.heap h'→(∃ o,h'.get? e=some o∧o.cls = .type "StopIteration")→E (.ref e) { s with heap:=h' }):wpAny (model prog w) A (Builtin.SmallTypes.nextOf (.ref j)) Q E s:=by
  cases b with
  | true=>exact qzo hh hj hl hu q
  | false=>exact wpAny_nextOf_list_end hh hj hl hu q
theorem qyl {b:Bool}{l:Addr}{us:Array Value}{Q:Value→Shared→Prop} (hl:SqOf b s.heap l us) (q:Q (.ref s.heap.objs.size) { s with heap:=s.heap.push (itO b l) }):wpAny (model prog w) A (pyIter (.ref l)) Q E s:=by
 cases b with
 | true=>exact wpAny_pyIter_tuple hl q
 | false=>exact wpAny_pyIter_list hl q
theorem zaew {b c:Bool}{z TI TO j1 j2 l1 l2:Addr}{k1 k2:Nat}{us vs:Array Value}{u v x0 y0:Value}{Q:Value→Shared→Prop} (D:ZipApart z TI TO j1 j2 l1 l2)
 (a0:IsZip s.heap z TI TO .none) (a1:IsPair s.heap TI (.ref j1) (.ref j2)) (a2:IsPair s.heap TO x0 y0)
 (e1:SqIt b s.heap j1 l1 k1) (e2:SqIt c s.heap j2 l2 k2) (g1:SqOf b s.heap l1 us) (g2:SqOf c s.heap l2 vs) (hu:us[k1]?=some u) (hv:vs[k2]?=some v)
 (q : ∀ h',IsZip h' z TI TO (rawInt s.heap.objs.size)→IsPair h' TO u v→SqIt b h' j1 l1 (k1+1)→SqIt c h' j2 l2 (k2+1)→IsPair h' s.heap.objs.size u v→h'.objs.size=s.heap.objs.size+1 →
 (∀ a o,a≠z→a≠TO→a≠j1→a≠j2→s.heap.get? a=some o→h'.get? a=some o)→Q (.ref s.heap.objs.size) { s with heap:=h' }) :
  wpAny (model prog w) A (Builtin.«zip.__next__» ⟨[.ref z],[]⟩) (fun r s' => ∃ y,r = .done (.ret y)∧Q y s') E s:=by
  show wpAny _ _ (field (.ref z) 2 >>= _) _ _ _
  refine wpAny_bind (wpAny_field a0 rfl (x :=.bool false) rfl ?_)
  show wpAny _ _ (field (.ref z) 3 >>= _) _ _ _
  refine wpAny_bind (wpAny_field a0 rfl (x :=.ref TI) rfl ?_)
  refine wpAny_bind (wpAny_seqItems a1 rfl ?_)
  show wpAny _ _ (Builtin.SmallTypes.ownedTupleIsFree (.ref z) >>= _) _ _ _
  refine wpAny_bind (?_:wpAny _ _ (Builtin.SmallTypes.ownedTupleIsFree (.ref z)) _ _ _)
  unfold Builtin.SmallTypes.ownedTupleIsFree
  refine wpAny_bind (wpAny_field a0 rfl (x :=.none) rfl (wpAny_pure ?_))
  simp only [if_true]
  refine wpAny_bind (wpAny_rule (?_:_))
  refine wpAny_bind (wpAny_field a0 rfl (x :=.ref TO) rfl ?_)
  refine wpAny_bind (wpAny_setField_rec a0 (by simp) fun p1 b0 m1=>?_)
  replace b0:IsZip p1 z TI TO .ellipsis:=b0
  refine wpAny_bind (?_:_)
  simp only [List.zipIdx_cons,List.zipIdx_nil,List.forIn_cons,List.forIn_nil]
  refine wpAny_bind (wpAny_bind (wpAny_onRaise (?_:_)))
  show wpAny _ _ (Builtin.SmallTypes.nextOf (.ref j1) >>= _) _ _ _
  refine wpAny_bind (qox (e1.but m1 D.i1z) (g1.but m1 D.l1z) hu fun p2 f1 m2=>wpAny_pure ?_)
  have c2:IsPair p2 TO x0 y0:=m2.extBut _ _ D.TOi1 (m1.extBut _ _ D.TOz a2)
  refine wpAny_bind (wpAny_seqItems c2 rfl ?_)
  refine wpAny_bind (wpAny_updateSeq_pair c2 fun p3 c3 m3=>?_)
  replace c3:IsPair p3 TO u y0:=c3
  refine wpAny_bind (wpAny_letGo (wpAny_pure (?_:_)))
  refine wpAny_bind (wpAny_bind (wpAny_onRaise (?_:_)))
  show wpAny _ _ (Builtin.SmallTypes.nextOf (.ref j2) >>= _) _ _ _
  refine wpAny_bind (qox (((e2.but m1 D.i2z).but m2 D.i12.symm).but m3 D.TOi2.symm) (((g2.but m1 D.l2z).but m2 D.l2i1).but m3 D.l2TO) hv fun p4 f2 m4=>wpAny_pure ?_)
  have c4:IsPair p4 TO u y0:=m4.extBut _ _ D.TOi2 c3
  refine wpAny_bind (wpAny_seqItems c4 rfl ?_)
  refine wpAny_bind (wpAny_updateSeq_pair c4 fun p5 c5 m5=>?_)
  replace c5:IsPair p5 TO u v:=c5
  refine wpAny_bind (wpAny_letGo (wpAny_pure (wpAny_pure (?_:_))))
  refine wpAny_bind (wpAny_seqItems c5 rfl ?_)
  refine wpAny_bind (wpAny_newTuple (?_:_))
  have sz:p5.objs.size=s.heap.objs.size:=by rw [m5.1,m4.1,m3.1,m2.1,m1.1]
  have b5:IsZip p5 z TI TO .ellipsis:=m5.extBut _ _ D.TOz.symm (m4.extBut _ _ D.i2z.symm (m3.extBut _ _ D.TOz.symm (m2.extBut _ _ D.i1z.symm b0)))
  have k5 : ∀ a o,a≠z→a≠TO→a≠j1→a≠j2→s.heap.get? a=some o→p5.get? a=some o:=fun a o n1 n2 n3 n4 e =>
   m5.extBut _ _ n2 (m4.extBut _ _ n4 (m3.extBut _ _ n2 (m2.extBut _ _ n3 (m1.extBut _ _ n1 e))))
  have f5:SqIt b p5 j1 l1 (k1+1):=((f1.but m3 D.TOi1.symm).but m4 D.i12).but m5 D.TOi1.symm
  have f6:SqIt c p5 j2 l2 (k2+1):=f2.but m5 D.TOi2.symm
  have zlt:z<p5.objs.size:=Heap.lt_size b5
  show wpAny _ _ (Builtin.SmallTypes.ownedTupleHandOut (.ref z) (.ref p5.objs.size) >>= _) _ _ _
  refine wpAny_bind (?_:wpAny _ _ (Builtin.SmallTypes.ownedTupleHandOut (.ref z) (.ref p5.objs.size)) _ _ _)
  unfold Builtin.SmallTypes.ownedTupleHandOut
  have b6:IsZip (p5.push { cls :=.type "tuple",data :=.seq #[u,v] }) z TI TO .ellipsis:=Heap.get?_push_of_some _ b5
  refine wpAny_bind (wpAny_setField_rec b6 (by simp) fun p7 b7 m7=>?_)
  replace b7:IsZip p7 z TI TO (rawInt p5.objs.size):=b7
  refine wpAny_setField_rec b7 (by simp) fun p8 b8 m8=>?_
  replace b8:IsZip p8 z TI TO (rawInt p5.objs.size):=b8
  have up : ∀ a o,a≠z→p5.get? a=some o→p8.get? a=some o:=fun a o n e=>m8.extBut _ _ n (m7.extBut _ _ n (Heap.get?_push_of_some _ e))
  have t8:IsPair p8 p5.objs.size u v:=m8.extBut _ _ (Nat.ne_of_gt zlt) (m7.extBut _ _ (Nat.ne_of_gt zlt) (Heap.get?_push_size _ rfl))
  have z8:p8.objs.size=p5.objs.size+1:=by rw [m8.1,m7.1,Heap.size_push]
  rw [sz] at b8 t8 z8
  refine wpAny_pure ⟨_,rfl,(?_:Q (.ref p5.objs.size) _)⟩
  rw [sz]
  exact q p8 b8 (up _ _ D.TOz c5) (f5.at' fun o e=>up _ o D.i1z e) (f6.at' fun o e=>up _ o D.i2z e) t8 z8 fun a o n1 n2 n3 n4 e=>up a o n1 (k5 a o n1 n2 n3 n4 e)
theorem zakn {b c:Bool}{z TI TO j1 j2 l1 l2:Addr}{k1 k2:Nat}{us vs:Array Value}{x0 y0:Value}{Q:Fin→Shared→Prop} (hh:A.handled=none) (D:ZipApart z TI TO j1 j2 l1 l2)
 (a0:IsZip s.heap z TI TO .none) (a1:IsPair s.heap TI (.ref j1) (.ref j2)) (a2:IsPair s.heap TO x0 y0)
 (e1:SqIt b s.heap j1 l1 k1) (e2:SqIt c s.heap j2 l2 k2) (g1:SqOf b s.heap l1 us) (g2:SqOf c s.heap l2 vs) (hend:us[k1]?=none∨vs[k2]?=none)
 (q : ∀ h' e,(∀ a o,a≠z→a≠TO→a≠j1→a≠j2→s.heap.get? a=some o→h'.get? a=some o)→(∃ o,h'.get? e=some o∧o.cls = .type "StopIteration")→E (.ref e) { s with heap:=h' }) :
  wpAny (model prog w) A (Builtin.«zip.__next__» ⟨[.ref z],[]⟩) Q E s:=by
  show wpAny _ _ (field (.ref z) 2 >>= _) _ _ _
  refine wpAny_bind (wpAny_field a0 rfl (x :=.bool false) rfl ?_)
  show wpAny _ _ (field (.ref z) 3 >>= _) _ _ _
  refine wpAny_bind (wpAny_field a0 rfl (x :=.ref TI) rfl ?_)
  refine wpAny_bind (wpAny_seqItems a1 rfl ?_)
  show wpAny _ _ (Builtin.SmallTypes.ownedTupleIsFree (.ref z) >>= _) _ _ _
  refine wpAny_bind (?_:wpAny _ _ (Builtin.SmallTypes.ownedTupleIsFree (.ref z)) _ _ _)
  unfold Builtin.SmallTypes.ownedTupleIsFree
  refine wpAny_bind (wpAny_field a0 rfl (x :=.none) rfl (wpAny_pure ?_))
  simp only [if_true]
  refine wpAny_bind (wpAny_rule (?_:_))
  refine wpAny_bind (wpAny_field a0 rfl (x :=.ref TO) rfl ?_)
  refine wpAny_bind (wpAny_setField_rec a0 (by simp) fun p1 b0 m1=>?_)
  replace b0:IsZip p1 z TI TO .ellipsis:=b0
  refine wpAny_bind (?_:_)
  simp only [List.zipIdx_cons,List.zipIdx_nil,List.forIn_cons,List.forIn_nil]
  refine wpAny_bind (wpAny_bind (wpAny_onRaise (?_:_)))
  show wpAny _ _ (Builtin.SmallTypes.nextOf (.ref j1) >>= _) _ _ _
  cases hu:us[k1]? with
  | none =>
   refine wpAny_bind (qyr hh (e1.but m1 D.i1z) (g1.but m1 D.l1z) hu fun p2 e m2 he=>?_)
   obtain ⟨oe,h3,h4⟩:=he
   have b2:IsZip p2 z TI TO .ellipsis:=m2 _ _ D.i1z.symm b0
   have nz:e≠z:=fun x=>by subst x;rw [b2] at h3;cases h3;simp at h4
   exact wpAny_setField_rec b2 (by simp) fun p3 _ m3=>q p3 e (fun a o n1 _ n3 _ x=>m3.extBut _ _ n1 (m2 _ _ n3 (m1.extBut _ _ n1 x))) ⟨oe,m3.extBut _ _ nz h3,h4⟩
  | some u =>
   have hv:vs[k2]?=none:=by
    rcases hend with h|h
    ·rw [hu] at h;cases h
    ·exact h
   refine wpAny_bind (qox (e1.but m1 D.i1z) (g1.but m1 D.l1z) hu fun p2 f1 m2=>wpAny_pure ?_)
   have c2:IsPair p2 TO x0 y0:=m2.extBut _ _ D.TOi1 (m1.extBut _ _ D.TOz a2)
   refine wpAny_bind (wpAny_seqItems c2 rfl ?_)
   refine wpAny_bind (wpAny_updateSeq_pair c2 fun p3 c3 m3=>?_)
   refine wpAny_bind (wpAny_letGo (wpAny_pure (?_:_)))
   refine wpAny_bind (wpAny_bind (wpAny_onRaise (?_:_)))
   show wpAny _ _ (Builtin.SmallTypes.nextOf (.ref j2) >>= _) _ _ _
   refine wpAny_bind (qyr hh (((e2.but m1 D.i2z).but m2 D.i12.symm).but m3 D.TOi2.symm) (((g2.but m1 D.l2z).but m2 D.l2i1).but m3 D.l2TO) hv fun p4 e m4 he=>?_)
   obtain ⟨oe,h3,h4⟩:=he
   have b4:IsZip p4 z TI TO .ellipsis:=m4 _ _ D.i2z.symm (m3.extBut _ _ D.TOz.symm (m2.extBut _ _ D.i1z.symm b0))
   have nz:e≠z:=fun x=>by subst x;rw [b4] at h3;cases h3;simp at h4
   exact wpAny_setField_rec b4 (by simp) fun p5 _ m5=>q p5 e (fun a o n1 n2 n3 n4 x=>m5.extBut _ _ n1 (m4 _ _ n4 (m3.extBut _ _ n2 (m2.extBut _ _ n3 (m1.extBut _ _ n1 x))))) ⟨oe,m5.extBut _ _ nz h3,h4⟩
theorem zaey {b c:Bool}{z TI TO j1 j2 l1 l2:Addr}{k1 k2:Nat}{us vs:Array Value}{u v x0 y0:Value}{Q:Option Value→Shared→Prop} (D:ZipApart z TI TO j1 j2 l1 l2)
 (a0:IsZip s.heap z TI TO .none) (a1:IsPair s.heap TI (.ref j1) (.ref j2)) (a2:IsPair s.heap TO x0 y0)
 (e1:SqIt b s.heap j1 l1 k1) (e2:SqIt c s.heap j2 l2 k2) (g1:SqOf b s.heap l1 us) (g2:SqOf c s.heap l2 vs) (hu:us[k1]?=some u) (hv:vs[k2]?=some v)
 (q : ∀ h',IsZip h' z TI TO (rawInt s.heap.objs.size)→IsPair h' TO u v→SqIt b h' j1 l1 (k1+1)→SqIt c h' j2 l2 (k2+1)→IsPair h' s.heap.objs.size u v→h'.objs.size=s.heap.objs.size+1 →
 (∀ a o,a≠z→a≠TO→a≠j1→a≠j2→s.heap.get? a=some o→h'.get? a=some o)→Q (some (.ref s.heap.objs.size)) { s with heap:=h' }) :
  wpAny (model prog w) A (pyNext (.ref z)) Q E s:=by
  have ty:s.TypeIs (.ref z) "zip":=⟨_,a0,rfl⟩
  unfold pyNext
  exact wpAny_bind (wpAny_attempt (wpAny_callSpecial?_slot (name:=Str.ofString "__next__") ty F.slot_zip_next (wpAny_call_entry F.slot_zip_next ty F.entry_zip_next
   (zaew D a0 a1 a2 e1 e2 g1 g2 hu hv fun h' r1 r2 r3 r4 r5 r6 r7=>wpAny_pure (q h' r1 r2 r3 r4 r5 r6 r7)) (F.args_zip_next_1 _))))
theorem zajm {b c:Bool}{z TI TO j1 j2 l1 l2:Addr}{k1 k2:Nat}{us vs:Array Value}{x0 y0:Value}{Q:Option Value→Shared→Prop} (hh:A.handled=none) (D:ZipApart z TI TO j1 j2 l1 l2)
 (a0:IsZip s.heap z TI TO .none) (a1:IsPair s.heap TI (.ref j1) (.ref j2)) (a2:IsPair s.heap TO x0 y0)
 (e1:SqIt b s.heap j1 l1 k1) (e2:SqIt c s.heap j2 l2 k2) (g1:SqOf b s.heap l1 us) (g2:SqOf c s.heap l2 vs) (hend:us[k1]?=none∨vs[k2]?=none)
 (q : ∀ h',(∀ a o,a≠z→a≠TO→a≠j1→a≠j2→s.heap.get? a=some o→h'.get? a=some o)→Q none { s with heap:=h' }):wpAny (model prog w) A (pyNext (.ref z)) Q E s:=by
  have ty:s.TypeIs (.ref z) "zip":=⟨_,a0,rfl⟩
  unfold pyNext
  refine wpAny_bind (wpAny_attempt (wpAny_callSpecial?_slot (name:=Str.ofString "__next__") ty F.slot_zip_next (wpAny_call_entry F.slot_zip_next ty F.entry_zip_next (zakn hh D a0 a1 a2 e1 e2 g1 g2 hend fun h' e hk he=>?_) (F.args_zip_next_1 _))))
  obtain ⟨o,ho,hc⟩:=he
  exact wpAny_bind (wpAny_isInstance (T := "StopIteration") (b:=true) ⟨o,ho,hc⟩ isSubtype_stop (wpAny_pure (q _ hk)))
abbrev zh1 (b:Bool) (h:Heap) (l:Addr):Heap:=h.push (itO b l)
abbrev zh2 (b c:Bool) (h:Heap) (l1 l2:Addr):Heap:=(zh1 b h l1).push (itO c l2)
abbrev zh3 (b c:Bool) (h:Heap) (l1 l2:Addr):Heap:=(zh2 b c h l1 l2).push { cls :=.type "tuple",data :=.seq #[.ref h.objs.size,.ref (zh1 b h l1).objs.size] }
abbrev zh4 (b c:Bool) (h:Heap) (l1 l2:Addr):Heap:=(zh3 b c h l1 l2).push { cls :=.type "tuple",data :=.seq #[.none,.none] }
abbrev zh5 (b c:Bool) (h:Heap) (l1 l2:Addr):Heap:=(zh4 b c h l1 l2).push { cls :=.type "zip",data :=.fields #[.none,.bool false,.bool false,.ref (zh2 b c h l1 l2).objs.size,.ref (zh3 b c h l1 l2).objs.size] }
theorem zams (b c:Bool) (l1 l2:Addr) (us vs:Array Value):Meets (Builtin.«zip.__new__» ⟨[.type "zip",.ref l1,.ref l2],[]⟩)
 (fun _ R s=>SqOf b s.heap l1 us∧SqOf c s.heap l2 vs∧R (.ok (.ret (.ref (zh4 b c s.heap l1 l2).objs.size))) { s with heap:=zh5 b c s.heap l1 l2 }) :=
  .of_wp fun prog w A R s h=>by
   obtain ⟨hp,g,d,tk,os⟩:=s
   obtain ⟨g1,g2,h⟩:=h
   have hsub:=sub_zip
   have y1:SqOf b (Shared.heap ⟨hp,g,d,tk,os⟩) l1 us:=g1
   have y2:SqOf c (Shared.heap ⟨hp.push (itO b l1),g,d,tk,os⟩) l2 vs:=SqOf.at' g2 fun o e=>Heap.get?_push_of_some _ e
   wp_walk using qyl y1,qyl y2
   exact ⟨_,rfl,h⟩
theorem zaic {b c:Bool}{l1 l2:Addr}{us vs:Array Value}{Q:Value→Shared→Prop} (g1:SqOf b s.heap l1 us) (g2:SqOf c s.heap l2 vs)
 (q : ∀ h',IsZip h' (s.heap.objs.size+4) (s.heap.objs.size+2) (s.heap.objs.size+3) .none→IsPair h' (s.heap.objs.size+2) (.ref s.heap.objs.size) (.ref (s.heap.objs.size+1)) →
 IsPair h' (s.heap.objs.size+3) .none .none→SqIt b h' s.heap.objs.size l1 0→SqIt c h' (s.heap.objs.size+1) l2 0→(∀ a o,s.heap.get? a=some o→h'.get? a=some o)→Q (.ref (s.heap.objs.size+4)) { s with heap:=h' }) :
  wpAny (model prog w) A (call (.type "zip") [.ref l1,.ref l2]) Q E s:=by
  refine callType_new F.called_zip (by decide) (F.typeCall_zip_2 _ _) (F.newCall_zip_2 _ _) (fun ob=>F.args_object_init_3 ob _ _) F.entry_zip_new (zams b c l1 l2 us vs) ⟨g1,g2,?_⟩
  have n1:(zh1 b s.heap l1).objs.size=s.heap.objs.size+1:=Heap.size_push ..
  have n2:(zh2 b c s.heap l1 l2).objs.size=s.heap.objs.size+2:=by rw [Heap.size_push,n1]
  have n3:(zh3 b c s.heap l1 l2).objs.size=s.heap.objs.size+3:=by rw [Heap.size_push,n2]
  have n4:(zh4 b c s.heap l1 l2).objs.size=s.heap.objs.size+4:=by rw [Heap.size_push,n3]
  have r5:(zh5 b c s.heap l1 l2).get? (zh4 b c s.heap l1 l2).objs.size=some _:=Heap.get?_push_size _ rfl
  have r4:(zh5 b c s.heap l1 l2).get? (zh3 b c s.heap l1 l2).objs.size=some _:=Heap.get?_push_of_some _ (Heap.get?_push_size _ rfl)
  have r3:(zh5 b c s.heap l1 l2).get? (zh2 b c s.heap l1 l2).objs.size=some _:=Heap.get?_push_of_some _ (Heap.get?_push_of_some _ (Heap.get?_push_size _ rfl))
  have r2:(zh5 b c s.heap l1 l2).get? (zh1 b s.heap l1).objs.size=some (itO c l2):=Heap.get?_push_of_some _ (Heap.get?_push_of_some _ (Heap.get?_push_of_some _ (Heap.get?_push_size _ rfl)))
  have r1:(zh5 b c s.heap l1 l2).get? s.heap.objs.size=some (itO b l1):=Heap.get?_push_of_some _ (Heap.get?_push_of_some _ (Heap.get?_push_of_some _ (Heap.get?_push_of_some _ (Heap.get?_push_size _ rfl))))
  show _∧_
  rw [n2,n3,n4] at r5
  rw [n1,n2] at r3
  rw [n3] at r4
  rw [n1] at r2
  rw [n4]
  have si : ∀ {b:Bool}{h:Heap}{a l:Addr},h.get? a=some (itO b l)→SqIt b h a l 0:=fun {b}{h}{a}{l} e=>by
   cases b with
   | true=>exact ⟨_,e,rfl,rfl⟩
   | false=>exact ⟨_,e,rfl,rfl⟩
  exact ⟨⟨_,r5,rfl⟩,q _ r5 r3 r4 (si r1) (si r2) fun a o x=>Heap.get?_push_of_some _ (Heap.get?_push_of_some _ (Heap.get?_push_of_some _ (Heap.get?_push_of_some _ (Heap.get?_push_of_some _ x))))⟩
end
end L2
namespace L2
open PySem PySem.Spec PyProof.Rows
def SqX (b:Bool) (K:PySem.W.Frag) (H:Hp) (a:Addr) (xs:List V):Prop:=match b with
 | true=>SqT K H a xs
 | false=>SqL K H a xs
section
variable {X:Cx}{pins:List (Addr×Obj)}{σ:St}{H:Hp}{s:Shared}{b:Bool}{a:Addr}{xs ys:List V}
theorem Inv.sqx (I:Inv X pins σ H s) (h:SqX b X.K H a xs) : ∃ its:List Value,Vals xs its∧SqOf b s.heap a its.toArray:=by
 cases b with
 | true =>
  obtain ⟨its,r,p,_⟩:=I.tuple h
  obtain ⟨o,ho,hc,n,hd⟩:=p
  exact ⟨its,r,o,ho,hc,n,hd⟩
 | false =>
  obtain ⟨its,r,p,_⟩:=I.list h
  exact ⟨its,r,p.isList⟩
theorem Inv.sqx_inj (I:Inv X pins σ H s) (h:SqX b X.K H a xs) (h':SqX b X.K H a ys):xs=ys:=by
 cases b with
 | true=>exact I.tuple_inj h h'
 | false=>exact I.list_inj h h'
end
def Itz (K:PySem.W.Frag) (b c:Bool) (l m:Addr):It :=
 ⟨fun i H => ∃ xs ys x y,SqX b K H l xs∧SqX c K H m ys∧xs[i]?=some x∧ys[i]?=some y,fun i H v H' => ∃ p x y,(∀ xs,SqX b K H l xs→xs[i]?=some x)∧(∀ ys,SqX c K H m ys→ys[i]?=some y)∧H p=none∧v = .ref p∧H'=upd H p (.tup [x,y]),
  fun i H => ∃ xs ys,SqX b K H l xs∧SqX c K H m ys∧(xs.length≤i∨ys.length≤i)⟩
theorem zaez {P:Program}{w:World}{K:PySem.W.Frag}{elts:List Expr}{x1:Nat}{tpos:Pos}{b c:Bool} (z TI TO j1 j2 l m:Addr) (D:ZipApart z TI TO j1 j2 l m) :
 Turn P w K (.Tuple elts x1 tpos) (Itz K b c l m) [z,TI,TO,j1,j2] z (fun i h=>IsZip h z TI TO .none∧IsPair h TI (.ref j1) (.ref j2)∧(∃ x0 y0,IsPair h TO x0 y0)∧SqIt b h j1 l i∧SqIt c h j2 m i) where
  mem:=by simp
  obj:=fun i h st a ha=>by
   obtain ⟨s0,s1,⟨x0,y0,s2⟩,s3,s4⟩:=st
   simp only [List.mem_cons,List.not_mem_nil,or_false] at ha
   rcases ha with rfl|rfl|rfl|rfl|rfl
   ·exact ⟨_,s0,fun v z=>by have z':Data.fields _=Data.cell v:=z;cases z'⟩
   ·exact ⟨_,s1,fun v z=>by have z':Data.seq _ _=Data.cell v:=z;cases z'⟩
   ·exact ⟨_,s2,fun v z=>by have z':Data.seq _ _=Data.cell v:=z;cases z'⟩
   ·exact s3.obj
   ·exact s4.obj
  keep:=fun i h h' st k=>by
   obtain ⟨s0,s1,⟨x0,y0,s2⟩,s3,s4⟩:=st
   exact ⟨k z (by simp) _ s0,k TI (by simp) _ s1,⟨x0,y0,k TO (by simp) _ s2⟩,s3.at' fun o q=>k j1 (by simp) o q,s4.at' fun o q=>k j2 (by simp) o q⟩
  item:=by
   intro X hP hw hK hc i pins s σ H E I hf st hg
   subst hP hw hK
   obtain ⟨xs,ys,x,y,hq,hq',hx,hy⟩:=hg
   obtain ⟨us,rv,p1⟩:=I.sqx hq
   obtain ⟨vs,rw',p2⟩:=I.sqx hq'
   obtain ⟨u,hu,ru⟩:=rv.get hx
   obtain ⟨v,hv,rv'⟩:=rw'.get hy
   obtain ⟨s0,s1,⟨x0,y0,s2⟩,s3,s4⟩:=st
   obtain ⟨z0,z1,z2,z3,z4,z5⟩:=hf z (by simp)
   obtain ⟨o0,o1,o2,o3,o4,o5⟩:=hf TO (by simp)
   obtain ⟨f0,f1,f2,f3,f4,f5⟩:=hf j1 (by simp)
   obtain ⟨g0,g1,g2,g3,g4,g5⟩:=hf j2 (by simp)
   have zlt:z<s.heap.objs.size:=Heap.lt_size s0
   refine zaey D s0 s1 s2 s3 s4 p1 p2 (u:=u) (v:=v) (by simpa using hu) (by simpa using hv) fun h₁ a0 a2 a3 a4 ht hz₁ hk=>⟨_,rfl,?_⟩
   refine wpAny_letOwnedTupleGo_zip (s:={ s with heap:=h₁ }) a0 fun h₂ he₂ hs₂=>?_
   replace hs₂:Heap.SameBut z h₁ h₂:=hs₂
   have fresh:H s.heap.objs.size=none:=I.hok.fresh (Nat.le_refl _)
   have kk : ∀ a o,a≠z→a≠TO→a≠j1→a≠j2→s.heap.get? a=some o→h₂.get? a=some o:=fun a o b1 b2 b3 b4 q=>hs₂.extBut a o b1 (hk a o b1 b2 b3 b4 q)
   have kc : ∀ a o,a ∉ [z,TO,j1,j2]→s.heap.get? a=some o→h₂.get? a=some o:=fun a o hc q=>kk a o (fun z=>hc (by simp [z])) (fun z=>hc (by simp [z])) (fun z=>hc (by simp [z])) (fun z=>hc (by simp [z])) q
   have nb : ∀ a o v,s.heap.get? a=some o→H a=some v→h₂.get? a=some o:=fun a o v e q=>kk a o (fun n=>by rw [n,z0] at q;cases q) (fun n=>by rw [n,o0] at q;cases q) (fun n=>by rw [n,f0] at q;cases q) (fun n=>by rw [n,g0] at q;cases q) e
   have ht₂:h₂.get? s.heap.objs.size=some { cls :=.type "tuple",data :=.seq #[u,v] }:=(hs₂.2 _ (Nat.ne_of_gt zlt)).trans ht
   have I1:Inv X pins σ (upd H s.heap.objs.size (.tup [x,y])) { s with heap:=h₂ }:=by
    refine I.step (t':=s.toks) (g':=s.gens) (d':=s.drawn) (ch:=[z,TO,j1,j2]) (fun a ha=>?_) (fun a o _ _ hc q _=>kc a o hc q)
     (fun a o _ _ hc q _=>⟨o.slots,kc a o hc q⟩) (fun a o _ q n=>by rw [qj (Nat.ne_of_lt (Heap.lt_size q))];exact n)
     (fun a o hc q=>⟨o,kc a o hc q⟩) (fun a ys q=>by rw [qj (qq q fresh)];exact q) (fun a o v q=>by rw [qj (qq q fresh)];exact q)
     (fun a ps q=>⟨#[],by rw [qj (qq q fresh),q];simp,.nil⟩) (fun m hm=>?_) (fun a v' q=>?_) I.bare
    ·simp only [List.mem_cons,List.not_mem_nil,or_false] at ha
     rcases ha with rfl|rfl|rfl|rfl
     ·exact ⟨z3,z1,z4,z5⟩
     ·exact ⟨o3,o1,o4,o5⟩
     ·exact ⟨f3,f1,f4,f5⟩
     ·exact ⟨g3,g1,g4,g5⟩
    ·obtain ⟨o,es,ep,ho',r⟩:=hm
     exact ⟨o,es,ep,kk _ o (Ne.symm z1) (Ne.symm o1) (Ne.symm f1) (Ne.symm g1) ho',r⟩
    ·by_cases hb:a=s.heap.objs.size
     ·subst hb
      rw [qr] at q
      cases q
      exact ⟨(by show 2≤sizeLine;decide),[u,v],.cons ru (.cons rv' .nil),⟨_,ht₂,rfl,_,rfl⟩⟩
     ·rw [qj hb] at q
      refine (I.hok a v' q).stay (fun d ob hd e=>?_) (fun d e=>by rw [qj (qq e fresh)];exact e) fun d ws e=>by rw [qj (qq e fresh)];exact e
      rcases hd with hd|hd
      ·subst hd;exact nb _ _ _ e q
      ·exact nb _ _ _ e hd
   refine ⟨.ref s.heap.objs.size,_,I1,rfl,⟨s.heap.objs.size,x,y,fun ws hw=>by rw [I.sqx_inj hw hq];exact hx,fun ws hw=>by rw [I.sqx_inj hw hq'];exact hy,fresh,rfl,rfl⟩,⟨he₂,?_,⟨u,v,?_⟩,?_,?_⟩,fun a ha=>?_⟩
   ·exact hs₂.extBut _ _ D.TIz (hk _ _ D.TIz D.TITO D.TIi1 D.TIi2 s1)
   ·exact hs₂.extBut _ _ D.TOz a2
   ·exact a3.but hs₂ D.i1z
   ·exact a4.but hs₂ D.i2z
   ·have hlt:a<s.heap.objs.size:=by
     simp only [List.mem_cons,List.not_mem_nil,or_false] at ha
     rcases ha with rfl|rfl|rfl|rfl|rfl
     ·exact zlt
     ·exact Heap.lt_size s1
     ·exact Heap.lt_size s2
     ·obtain ⟨o,q,_⟩:=s3.obj;exact Heap.lt_size q
     ·obtain ⟨o,q,_⟩:=s4.obj;exact Heap.lt_size q
    rw [qj (Nat.ne_of_lt hlt)]
    exact (hf a ha).1
  done:=by
   intro X hP hw hK hc i pins s σ H E I hf st hg
   subst hP hw hK
   obtain ⟨xs,ys,hq,hq',hx⟩:=hg
   obtain ⟨us,rv,p1⟩:=I.sqx hq
   obtain ⟨vs,rw',p2⟩:=I.sqx hq'
   obtain ⟨s0,s1,⟨x0,y0,s2⟩,s3,s4⟩:=st
   obtain ⟨z0,z1,z2,z3,z4,z5⟩:=hf z (by simp)
   obtain ⟨o0,o1,o2,o3,o4,o5⟩:=hf TO (by simp)
   obtain ⟨f0,f1,f2,f3,f4,f5⟩:=hf j1 (by simp)
   obtain ⟨g0,g1,g2,g3,g4,g5⟩:=hf j2 (by simp)
   have l1:=rv.length
   have l2:=rw'.length
   refine zajm (I.ok.hd hc) D s0 s1 s2 s3 s4 p1 p2 (by rcases hx with hx|hx;exact .inl (by simp;omega);exact .inr (by simp;omega)) fun h' hk=>⟨rfl,?_⟩
   have kc : ∀ a o,a ∉ [z,TO,j1,j2]→s.heap.get? a=some o→h'.get? a=some o:=fun a o hc q=>hk a o (fun z=>hc (by simp [z])) (fun z=>hc (by simp [z])) (fun z=>hc (by simp [z])) (fun z=>hc (by simp [z])) q
   have nb : ∀ a o v,s.heap.get? a=some o→H a=some v→h'.get? a=some o:=fun a o v e q=>hk a o (fun n=>by rw [n,z0] at q;cases q) (fun n=>by rw [n,o0] at q;cases q) (fun n=>by rw [n,f0] at q;cases q) (fun n=>by rw [n,g0] at q;cases q) e
   refine I.step (t':=s.toks) (g':=s.gens) (d':=s.drawn) (ch:=[z,TO,j1,j2]) (fun a ha=>?_) (fun a o _ _ hc q _=>kc a o hc q)
    (fun a o _ _ hc q _=>⟨o.slots,kc a o hc q⟩) (fun a o _ q n=>n) (fun a o hc q=>⟨o,kc a o hc q⟩) (fun a ys q=>q) (fun a o v q=>q) (fun a ps q=>⟨#[],by rw [q];simp,.nil⟩) (fun m hm=>?_) (fun a v' q=>?_) I.bare
   ·simp only [List.mem_cons,List.not_mem_nil,or_false] at ha
    rcases ha with rfl|rfl|rfl|rfl
    ·exact ⟨z3,z1,z4,z5⟩
    ·exact ⟨o3,o1,o4,o5⟩
    ·exact ⟨f3,f1,f4,f5⟩
    ·exact ⟨g3,g1,g4,g5⟩
   ·obtain ⟨o,es,ep,ho',r⟩:=hm
    exact ⟨o,es,ep,hk _ o (Ne.symm z1) (Ne.symm o1) (Ne.symm f1) (Ne.symm g1) ho',r⟩
   ·refine (I.hok a v' q).stay (fun d ob hd e=>?_) (fun d e=>e) fun d ws e=>e
    rcases hd with hd|hd
    ·subst hd;exact nb _ _ _ e q
    ·exact nb _ _ _ e hd
  self:=fun A i s Q E st h=>wpAny_pyIter_zip st.1 h
theorem zafi:bootBuiltins "zip" = some (.type "zip"):=by decide +kernel
section
variable {X:Cx}{elts:List Expr}{x1:Nat}{tpos:Pos}
def iZip (K:PySem.W.Frag) (ta:TA):TI:=fun σ H R=>ta σ H fun vs H1 => ∃ b c l m,vs=[.ref l,.ref m]∧(∃ xs,SqX b K H1 l xs)∧(∃ ys,SqX c K H1 m ys)∧R (Itz K b c l m) H1
theorem zamg {a b:Expr}{ta:TA}{p pos:Pos} (hg:Gl X "zip") (hm:X.mg "zip" = none) (ha:PA X [a,b] ta) (hs:starEach [a,b] X.env=[(false,eval a X.env),(false,eval b X.env)]:=by rfl) (hs2:starEach [b] X.env=[(false,eval b X.env)]:=by rfl) :
 PI X (.Tuple elts x1 tpos) (.Call (.Name "zip" p) [a,b] [] pos) (iZip X.K ta):=by
 intro pins s σ H R I h
 refine Call_ (qho I hg hm zafi (PyProof.Rows.callWith_type1 (thn (ha pos pins s σ H _ I h) fun us s1 xx139=>?_) (by rw [hs,hs2]) (by rw [hs2];rfl)))
 obtain ⟨vs,H1,I1,r1,q1⟩:=xx139
 obtain ⟨kb,kc,l,m,e,⟨xs,hq⟩,⟨ys,hq'⟩,q⟩:=q1
 subst e
 cases r1 with
 | cons r rr =>
  cases rr with
  | cons r' rr =>
   cases rr
   cases r
   cases r'
   obtain ⟨its,rv,pl⟩:=I1.sqx hq
   obtain ⟨its',rv',pl'⟩:=I1.sqx hq'
   refine zaic pl pl' fun h' a0 a1 a2 a3 a4 hk=>?_
   refine wpAny_pyIter_zip a0 ?_
   have I2:Inv X pins σ H1 { s1 with heap:=h' }:=I1.kept (t':=s1.toks) hk
   refine ⟨s1.heap.objs.size+4,[s1.heap.objs.size+4,s1.heap.objs.size+2,s1.heap.objs.size+3,s1.heap.objs.size,s1.heap.objs.size+1],_,_,H1,rfl,I2,zaez (b:=kb) (c:=kc) _ _ _ _ _ l m (zipApart_new pl.lt pl'.lt),⟨a0,a1,⟨_,_,a2⟩,a3,a4⟩,fun b hb=>?_,q⟩
   have hle:s1.heap.objs.size≤b:=by
    simp only [List.mem_cons,List.not_mem_nil,or_false] at hb
    rcases hb with rfl|rfl|rfl|rfl|rfl
    ·exact Nat.le_add_right _ 4
    ·exact Nat.le_add_right _ 2
    ·exact Nat.le_add_right _ 3
    ·exact Nat.le_refl _
    ·exact Nat.le_add_right _ 1
   exact I1.fpOk hle (I1.hok.fresh hle)
end
def zipD (l m:List PyData):List PyData:=(l.zip m).map fun p => .tuple [p.1,p.2]
theorem qek (l m:List PyData):(zipD l m).length=min l.length m.length:=by simp [zipD]
theorem qvw {l m:List PyData}{i:Nat}{x y:PyData} (h1:l[i]?=some x) (h2:m[i]?=some y):(zipD l m)[i]?=some (.tuple [x,y]):=by
 unfold zipD
 rw [List.getElem?_map,List.getElem?_zip_eq_some (z:=(x,y)) |>.mpr ⟨h1,h2⟩];rfl
theorem qja {l m:List PyData}{i:Nat}{d:PyData} (h:(zipD l m)[i]?=some d) : ∃ x y,l[i]?=some x∧m[i]?=some y∧d = .tuple [x,y]:=by
 have hi:=(List.getElem?_eq_some_iff.mp h).1
 rw [qek] at hi
 have h1:i<l.length:=by omega
 have h2:i<m.length:=by omega
 have e:=qvw (List.getElem?_eq_getElem h1) (List.getElem?_eq_getElem h2)
 rw [h] at e
 exact ⟨_,_,List.getElem?_eq_getElem h1,List.getElem?_eq_getElem h2,Option.some.inj e⟩
theorem qck {b:Bool}{K:PySem.W.Frag}{F H:Hp}{a:Addr}{xs:List V} (s:Same F H) (h:SqX b K F a xs):SqX b K H a xs:=by
 cases b with
 | true=>exact qK s h
 | false=>exact s.seq h
theorem zajx {b c:Bool}{K:PySem.W.Frag}{F:Hp}{a a':Addr}{xs ys:List V}{l m:List PyData} (hs:SqX b K F a xs) (hr:Iss K F l xs) (hs':SqX c K F a' ys) (hr':Iss K F m ys):ItD K (Itz K b c a a') F (zipD l m) where
 go:=fun i H s hi=>by
  rw [qek] at hi
  exact ⟨xs,ys,xs[i]'(by rw [hr.len];omega),ys[i]'(by rw [hr'.len];omega),qck s hs,qck s hs',List.getElem?_eq_getElem _,List.getElem?_eq_getElem _⟩
 stop:=fun H s=>by
  rw [qek]
  refine ⟨xs,ys,qck s hs,qck s hs',?_⟩
  rw [hr.len,hr'.len];omega
 yld:=fun i H x H' F1 s1 s2 hi hy=>by
  obtain ⟨p,y,y',hy,hy',hp,rfl,rfl⟩:=hy
  obtain ⟨d,e1,e2⟩:=hr.get' (hy xs (qck (s1.trans s2) hs))
  obtain ⟨d',e1',e2'⟩:=hr'.get' (hy' ys (qck (s1.trans s2) hs'))
  have g:=Go.put (o:=HO.tup [y,y']) s2 hp
  exact ⟨_,_,qvw e1 e1',g,qmm (SqT.of qr) (qB ((e2.mono s1).mono g.f) (qB ((e2'.mono s1).mono g.f) qS))⟩
theorem zahj {K:PySem.W.Frag}{F:Hp}{d:PyData}{l:List PyData}{v:V} (e:qan d=some l) (i:Is K F d v) : ∃ b a xs,v = .ref a∧SqX b K F a xs∧Iss K F l xs:=by
 cases d with
 | list m=>cases e;obtain ⟨a,xs,rfl,hs,hr⟩:=i.lst_inv;exact ⟨false,a,xs,rfl,hs,hr⟩
 | tuple m=>cases e;obtain ⟨a,xs,rfl,hs,hr⟩:=i.tup_inv;exact ⟨true,a,xs,rfl,hs,hr⟩
 | _=>cases e
section
variable {X:Cx}{a b:Expr}{p pos:Pos}{elts:List Expr}{x1:Nat}{tpos:Pos}
def zare (Wa Wb:WE):WF:=fun env Q=>Wa env fun x e1=>Wb e1 fun y e=>(qan x).elim False fun l=>(qan y).elim False fun m=>Q (zipD l m) e
theorem qnf {Wa Wb:WE} (hm:X.mg "zip" = none) (ha:VE X a Wa) (hb:VE X b Wb) (hg:Gl X "zip":=by rfl) (hs:starEach [a,b] X.env=[(false,eval a X.env),(false,eval b X.env)]:=by rfl) (hs2:starEach [b] X.env=[(false,eval b X.env)]:=by rfl)
 (hs3:starEach [a,b] X.env=(false,eval a X.env)::starEach [b] X.env:=by rfl) (hs4:starEach [b] X.env=(false,eval b X.env)::starEach [] X.env:=by rfl):VI X (.Tuple elts x1 tpos) (.Call (.Name "zip" p) [a,b] [] pos) (zare Wa Wb) :=
 (zamg hg hm (qN ha (qN hb qbj hs4) hs3) hs hs2).imp fun σ H R xx140=>by
  obtain ⟨M,env,F,Q,I,h,k⟩:=xx140
  refine ⟨M,env,F,_,I,h,fun d v F1 H1 e1 I1 s1 i1 h1=>⟨M,e1,F1,_,I1,h1,fun d2 v2 F2 H2 e2 I2 s2 i2 h2=>?_⟩⟩
  cases q1:qan d with
  | none=>rw [q1] at h2;exact h2.elim
  | some l =>
   cases q2:qan d2 with
   | none=>rw [q1,q2] at h2;exact h2.elim
   | some m =>
    rw [q1,q2] at h2
    obtain ⟨kb,a1,xs,rfl,z1,z2⟩:=zahj q1 (i1.mono s2)
    obtain ⟨kc,a2,ys,rfl,z3,z4⟩:=zahj q2 i2
    exact ⟨kb,kc,a1,a2,rfl,⟨xs,qck I2.fh z1⟩,⟨ys,qck I2.fh z3⟩,k _ _ F2 H2 e2 I2 (s1.trans s2) (zajx z1 z2 z3 z4) h2⟩
end
end L2
namespace L2
open PySem PySem.Spec PyProof.Rows
section
variable {X:Cx}
end
end L2
namespace L2
open PySem PySem.Spec PyProof.Rows
section
variable {X:Cx}{e:Expr}{W:WF}{We:WE}{pos:Pos}
def wExt (i:Nat) (W:WF):WS:=fun D env=>(gS env i).mut=true∧W env fun l e=>(gS e i).mut=true∧(gS e i).cnt.length+l.length≤sizeLine∧D.nx (e.set i ((gS e i).upd ((gS e i).cnt++l)))
theorem zacf (i:Nat) {x:Str}{px apos cpos:Pos} (he:VF X e W) (hN:X.N[i]?=some x:=by rfl) (hv:Vis X.env.scope x:=by first|exact Or.inl rfl|exact Or.inr (Or.inl rfl)|exact Or.inr (Or.inr rfl)) (hd:(x==("__debug__" : Str))=false:=by decide)
 (hcd:(x==("__classdict__" : Str))=false:=by decide)
 (hbase:attributeBase (.Name x px) "extend" X.env (eval (.Name x px) X.env)=eval (.Name x px) X.env:=by rfl)
 (hfew:((backTo cpos (starEach [e] X.env)).all (fun x => !x.1)&&(backToKw cpos (keywordEach [] X.env)).all (fun x=>x.1.isSome)
  && decide ([e].length+([]:List Keyword).length+(if ([]:List Keyword).isEmpty then 0 else 1)<30))=true:=by rfl)
 (hline:(apos.endLine==cpos.line)=true:=by rfl) (hst:starEach [e] X.env=(false,eval e X.env)::starEach [] X.env:=by rfl) (hplain:(backTo cpos (starEach [] X.env)).any (·.1)=false:=by rfl)
 (hs:swapsWith (.Call (.Attribute (.Name x px) "extend" apos) [e] [] cpos) none pos.line X.env=pure false:=by rfl):VS X (.Expr (.Call (.Attribute (.Name x px) "extend" apos) [e] [] cpos) pos) (wExt i W) :=
 (qjy (qwi PySem.F.plainAttrs_list PySem.F.slot_list_extend PySem.F.type_list_extend zabw (qbb hN hv hd hcd) (qN he qbj hst) hbase hfew hline hst hplain) hs).imp fun D σ H xx141=>by
  obtain ⟨M,env,F,DD,I,⟨hm,h⟩,k⟩:=xx141
  obtain ⟨p,vs,ep,g1,g2,g3,g4⟩:=(I.slot i).addr hm
  refine ⟨_,qcl ep,.inl ⟨rfl,_,SqL.of g1⟩,M,env,F,_,I,h,fun a us ds F1 H1 e1 I1 s1 hH hF _ _ _ i1 h1=>?_⟩
  obtain ⟨m1,z1,q1⟩:=h1
  obtain ⟨p',vs1,ep',f1,f2,f3,f4⟩:=(I1.slot i).addr m1
  rw [ep] at ep';injection ep' with ep';injection ep' with ep';subst ep'
  exact ⟨p,a,vs1,us,rfl,rfl,f1,hH,by rw [f4.len,i1.len];exact z1,k.nx _ F1 _ σ (I1.chg m1 ep (qal f4 i1)) s1 q1⟩
theorem qqw {K:PySem.W.Frag}{H:Hp} : ∀ {l:List PyData}{xs:List V} (j:Nat),Iss K H l xs→Iss K H (l.eraseIdx j) (xs.eraseIdx j)
 | [],_,j,r=>by rw [r.nil_inv];simpa using qS
 | x::l,_,0,r=>by obtain ⟨y,ys,rfl,p,q⟩:=r.cons_inv;exact q
 | x::l,_,j+1,r=>by obtain ⟨y,ys,rfl,p,q⟩:=r.cons_inv;exact qB p (qqw j q)
def zaqg (i:Nat) (Wj:WE):WE:=fun env Q=>(gS env i).mut=true∧Wj env fun y e=>match y with
 | .int n=>(gS e i).mut=true∧(0≤n∧n<2^62) ∧ ∃ d,(gS e i).cnt[n.toNat]?=some d∧Q d (e.set i ((gS e i).upd ((gS e i).cnt.eraseIdx n.toNat)))
 | _=>False
theorem zakk (i:Nat) {x:Str}{px apos cpos:Pos} (he:VE X e We) (hN:X.N[i]?=some x:=by rfl) (hv:Vis X.env.scope x:=by first|exact Or.inl rfl|exact Or.inr (Or.inl rfl)|exact Or.inr (Or.inr rfl)) (hd:(x==("__debug__" : Str))=false:=by decide)
 (hcd:(x==("__classdict__" : Str))=false:=by decide)
 (hbase:attributeBase (.Name x px) "pop" X.env (eval (.Name x px) X.env)=eval (.Name x px) X.env:=by rfl)
 (hfew:((backTo cpos (starEach [e] X.env)).all (fun x => !x.1)&&(backToKw cpos (keywordEach [] X.env)).all (fun x=>x.1.isSome)
  && decide ([e].length+([]:List Keyword).length+(if ([]:List Keyword).isEmpty then 0 else 1)<30))=true:=by rfl)
 (hline:(apos.endLine==cpos.line)=true:=by rfl) (hst:starEach [e] X.env=(false,eval e X.env)::starEach [] X.env:=by rfl) (hplain:(backTo cpos (starEach [] X.env)).any (·.1)=false:=by rfl) :
 VE X (.Call (.Attribute (.Name x px) "pop" apos) [e] [] cpos) (zaqg i We) :=
 (qwi PySem.F.plainAttrs_list PySem.F.slot_list_pop PySem.F.type_list_pop zafn (qbb hN hv hd hcd) (qN he qbj hst) hbase hfew hline hst hplain).imp fun σ H R xx142=>by
  obtain ⟨M,env,F,Q,I,⟨hm,h⟩,k⟩:=xx142
  obtain ⟨p,vs,ep,g1,g2,g3,g4⟩:=(I.slot i).addr hm
  refine ⟨_,qcl ep,.inl ⟨rfl,_,SqL.of g1⟩,M,env,F,_,I,h,fun d2 v2 F1 H1 e1 I1 s1 i1 h1=>?_⟩
  cases d2 with
  | int n =>
   obtain ⟨m1,⟨n0,n1⟩,d,hd',q1⟩:=h1
   obtain ⟨p',vs1,ep',f1,f2,f3,f4⟩:=(I1.slot i).addr m1
   rw [ep] at ep';injection ep' with ep';injection ep' with ep';subst ep'
   obtain ⟨v,hv',iv⟩:=f4.get hd'
   have hlt:=(List.getElem?_eq_some_iff.mp hv').1
   refine ⟨p,vs1,n,n.toNat,v,rfl,by rw [i1.int_inv],f1,by omega,by omega,seqIndex_of n0 (by omega),hv',k d v F1 _ _ (I1.chg m1 ep (qqw n.toNat f4)) s1 iv q1⟩
  | _=>exact False.elim h1
end
end L2
namespace L2
open PySem PySem.Spec PyProof.Rows
section
variable {prog:Program}{w:World}{A:Around}{E:Value→Shared→Prop}{s:Shared}
end
section
variable {X:Cx}
end
end L2
namespace L2
open PySem PySem.Spec PyProof.Rows
section
variable {X:Cx}{a b c d:Expr}{pos:Pos}{ta tb tc td:TE}
def zaij (r r' r'':R2) (ta tb tc td:TE):TT:=fun σ H Q=>ta σ H fun x H1=>tb σ H1 fun y H2=>r x y H2 fun z H3 => ∃ k,z = .bl k ∧
 (if k=true then tc σ H3 fun w' H4=>r' y w' H4 fun z' H5 => ∃ k',z' = .bl k'∧(if k'=true then td σ H5 fun u' H6=>r'' w' u' H6 fun z2 H7 => ∃ k2,z2 = .bl k2∧Q k2 H7 else Q false H5) else Q false H3)
theorem zabb {op op' op'':CmpOp}{r r' r'':R2} (ho:OpR X (compareOp op) r) (ho':OpR X (compareOp op') r') (ho'':OpR X (compareOp op'') r'') (ha:PE X a ta) (hb:PE X b tb) (hc:PE X c tc) (hd:PE X d td)
 (hm:lastMarks [op,op',op''] [b,c,d]=false:=by with_unfolding_all rfl):PT X (.Compare a [op,op',op''] [b,c,d] pos) (zaij r r' r'' ta tb tc td):=by
  intro pins s σ H Q I h
  refine isTrue_chain (thn (ha pins s σ H _ I h) fun v s1 ⟨x,H1,I1,r1,q1⟩=>test_link (thn (hb pins s1 σ H1 _ I1 q1) fun u s2 ⟨y,H2,I2,r2,q2⟩ =>
   thn (ho pins s2 σ H2 x y v u _ I2 r1 r2 q2) fun e s3 ⟨z,H3,I3,r3,k,ee,q3⟩=>?_)) hm
  subst ee
  cases r3
  refine wpAny_truthy_bool ?_
  cases k with
  | false=>exact ite_ff ⟨H3,I3,q3⟩
  | true =>
   refine ite_tt (test_link (thn (hc pins s3 σ H3 _ I3 q3) fun w' s4 ⟨z',H4,I4,r4,q4⟩=>thn (ho' pins s4 σ H4 y z' u w' _ I4 r2 r4 q4) fun d' s5 xx145=>?_))
   obtain ⟨z2,H5,I5,r5,k2,e2,q5⟩:=xx145
   subst e2
   cases r5
   refine wpAny_truthy_bool ?_
   cases k2 with
   | false=>exact ite_ff ⟨H5,I5,q5⟩
   | true =>
    refine ite_tt (test_last (thn (hd pins s5 σ H5 _ I5 q5) fun w2 s6 ⟨z3,H6,I6,r6,q6⟩=>thn (ho'' pins s6 σ H6 z' z3 w' w2 _ I6 r4 r6 q6) fun d2 s7 xx143=>?_))
    obtain ⟨z4,H7,I7,r7,k4,e4,q7⟩:=xx143
    subst e4
    cases r7
    exact wpAny_truthy_bool ⟨H7,I7,q7⟩
variable {Wa Wb Wc Wd:WE}
def zakq (r r' r'':D2) (Wa Wb Wc Wd:WE):WT:=fun env Q=>Wa env fun x e1=>Wb e1 fun y e2=>r x y fun z=>match z with
 | .bool k=>if k=true then Wc e2 fun w e3=>r' y w fun z=>match z with
  | .bool k=>if k=true then Wd e3 fun u e4=>r'' w u fun z=>match z with
   | .bool k=>Q k e4
   | _=>False
   else Q false e3
  | _=>False
  else Q false e2
 | _=>False
theorem zabm {op op' op'':CmpOp}{r r' r'':D2} (ho:OpV X (compareOp op) r) (ho':OpV X (compareOp op') r') (ho'':OpV X (compareOp op'') r'') (ha:VE X a Wa) (hb:VE X b Wb) (hc:VE X c Wc) (hd:VE X d Wd)
 (hm:lastMarks [op,op',op''] [b,c,d]=false:=by with_unfolding_all rfl):VT X (.Compare a [op,op',op''] [b,c,d] pos) (zakq r r' r'' Wa Wb Wc Wd) :=
  (zabb ho ho' ho'' ha hb hc hd hm).imp fun σ H R xx150=>by
   obtain ⟨M,env,F,Q,I,h,k⟩:=xx150
   refine ⟨M,env,F,_,I,h,fun d v F1 H1 e1 I1 s1 i1 h1=>⟨M,e1,F1,_,I1,h1,fun d2 v2 F2 H2 e2 I2 s2 i2 h2=>⟨F2,d,d2,_,I2.fh,i1.mono s2,i2,h2,fun d3 v3 F3 H3 g i3 q=>?_⟩⟩⟩
   have I3:=I2.go g
   have s3:=s1.trans (s2.trans g.f)
   cases d3 with
   | bool b =>
    refine ⟨b,i3.bl_inv,?_⟩
    cases b with
    | false=>exact qvr (k _ F3 H3 e2 I3 s3 q)
    | true =>
     refine qsc ⟨M,e2,F3,_,I3,q,fun d4 v4 F4 H4 e4 I4 s4 i4 h4=>⟨F4,d2,d4,_,I4.fh,(i2.mono g.f).mono s4,i4,h4,fun d5 v5 F5 H5 g5 i5 q5=>?_⟩⟩
     have I5:=I4.go g5
     have s5:=s3.trans (s4.trans g5.f)
     cases d5 with
     | bool b =>
      refine ⟨b,i5.bl_inv,?_⟩
      cases b with
      | false=>exact qvr (k _ F5 H5 e4 I5 s5 q5)
      | true =>
       refine qsc ⟨M,e4,F5,_,I5,q5,fun d6 v6 F6 H6 e6 I6 s6 i6 h6=>⟨F6,d4,d6,_,I6.fh,(i4.mono g5.f).mono s6,i6,h6,fun d7 v7 F7 H7 g7 i7 q7=>?_⟩⟩
       cases d7 with
       | bool b=>exact ⟨b,i7.bl_inv,k _ F7 H7 e6 (I6.go g7) (s5.trans (s6.trans g7.f)) q7⟩
       | _=>exact False.elim q7
     | _=>exact False.elim q5
   | _=>exact False.elim q
end
end L2
namespace L2
open PySem PySem.Spec PyProof.Rows
def qxx (ix:List Nat) (k:Nat) (wi:TI) (g:TG) (tt:TT) (te:TE):TE:=fun σ H Q=>wi σ H fun J H1 => ∃ W:Nat→Nat→List V→St→Hp→Prop,(∃ m,W 0 m [] (qoa ix k σ) H1) ∧ ∀ i m ys σ1 H2,W i m ys σ1 H2 →
 (J.stop i H2∧ys.length≤sizeLine ∧ ∀ p,H2 p=none→Q (.ref p) (upd H2 p (.lst ys))) ∨
 (J.go i H2∧ys.length<sizeLine ∧ ∃ (N:V→St→Hp→Prop) (N0:St→Hp→Prop),(∀ y σ2 H5,N y σ2 H5 → ∃ m',m'<m∧W (i+1) m' (ys++[y]) σ2 H5)∧(∀ σ2 H5,N0 σ2 H5 → ∃ m',m'<m∧W (i+1) m' ys σ2 H5) ∧
  ∀ x H3,J.yld i H2 x H3→g x σ1 H3 fun σ2 H4=>tt σ2 H4 fun b H5=>match b with|true=>te σ2 H5 fun y H6=>N y σ2 H6|false=>N0 σ2 H5)
theorem qhc {prog:Program}{w:World}{A:Around}{R:Result→Shared→Prop}{s:Shared}{elt target iter cnd:Expr}{scope:Scope}{pos:Pos}{it acc:Value}{env:Env} (I:Nat→Shared→Prop)
 (turn : ∀ n s,I n s→wpAny (model prog w) A (pyNext it) (fun r s₁=>match r with
  | none=>R (.ok .next) s₁
  | some v=>wpAny (model prog w) A (letOwnedTupleGo target it v) (fun _ s₁'=>wpAny (model prog w) A (assign target env v) (fun _ s₂=>wpAny (model prog w) A (isTrue cnd env (eval cnd env)) (fun b s₂'=>match b with
   | true=>wpAny (model prog w) A (eval elt env) (fun x s₃ =>
    wpAny (model prog w) A (call (.builtin "list.append") [acc,x]) (fun _ s₄ => ∃ m,m<n∧I m s₄) (notedBy (model prog w) A env fun e s'=>R (.error e) s') s₃)
    (notedBy (model prog w) A env fun e s'=>R (.error e) s') s₂'
   | false => ∃ m,m<n∧I m s₂') (notedBy (model prog w) A env fun e s'=>R (.error e) s') s₂) (notedBy (model prog w) A env fun e s'=>R (.error e) s') s₁') (notedBy (model prog w) A env fun e s'=>R (.error e) s') s₁) (notedBy (model prog w) A env fun e s'=>R (.error e) s') s)
  (n:Nat) (h:I n s):codeAny (model prog w) A (.compLoop (.ListComp elt [⟨target,iter,[cnd],0⟩] scope pos) 0 it acc env) R s:=by
  refine codeAny_loop rfl I (fun n s hI=>?_) n h
  show wpAny _ _ ((compTurn (.ListComp elt [⟨target,iter,[cnd],0⟩] scope pos) 0 it acc env).onRaise (fun x=>do noteFrame x env;theTreesLotGoes x)) _ _ s
  refine wpAny_noted (?_:_)
  rw [compTurn_list]
  refine wpAny_bind (wpAny_standAt (wpAny_bind (wpAny_mono (turn n s hI) (fun r s₁ h₁=>?_) fun _ _ z=>z)))
  cases r with
  | none=>exact wpAny_pure h₁
  | some v =>
   refine wpAny_bind (wpAny_mono h₁ (fun _ s₁' h₁'=>wpAny_bind (wpAny_mono h₁' (fun _ s₂ h₂=>?_) fun _ _ z=>z)) fun _ _ z=>z)
   refine wpAny_bind (wpAny_tests_one (wpAny_mono h₂ (fun b s₂' hb=>?_) fun _ _ z=>z))
   cases b with
   | true =>
    refine wpAny_bind (wpAny_bind (wpAny_mono hb (fun x s₃ h₃=>wpAny_bind (wpAny_mono h₃ (fun _ s₄ h₄=>wpAny_pure (wpAny_pure ⟨rfl,h₄⟩)) fun _ _ z=>z)) fun _ _ z=>z))
   | false=>exact wpAny_bind (wpAny_pure (wpAny_pure ⟨rfl,hb⟩))
section
variable {X:Cx}{elt target iter cnd:Expr}{scope:Scope}{pos:Pos}{caps own:List Str}{ix:List Nat}{wi:TI}{g:TG}{te:TE}{tt:TT}
theorem zaaj (hc:X.calm=true) (S:CompScope X.env scope caps) (hi:PI X target iter wi)
 (hg : ∀ pins s3 H ex,PG (blk X pins scope (caps++own) s3 H ex) target g)
 (he : ∀ pins s3 H ex,PE (blk X pins scope (caps++own) s3 H ex) elt te)
 (ht : ∀ pins s3 H ex,PT (blk X pins scope (caps++own) s3 H ex) cnd tt)
 (hix:caps.length=ix.length:=by rfl) (hcapB:(caps.zip ix).all (fun p=>X.N[p.2]?==some p.1)=true:=by rfl)
  (hs : ∀ x,foldedSetIterable iter X.env x=pure x:=by intro _;rfl):PE X (.ListComp elt [⟨target,iter,[cnd],0⟩] scope pos) (qxx ix own.length wi g tt te):=by
  intro pins s σ H Q I h
  rw [eval_ListComp]
  refine qrh (cs:=[cnd]) (tt:=tt) (Tst:=fun env P E s=>wpAny (model X.prog X.w) X.A (isTrue cnd env (eval cnd env)) P E s) (fun J turn n h=>qhc J turn n h) (use:=none) (Q0:=EP X pins σ Q) hc S hi hg he (fun pins s3 H ex pins' s σ H' Qb P E I q k=>wpAny_mono (ht pins s3 H ex pins' s σ H' Qb I q) (fun b s' z=>?_) fun _ _ z=>z.elim) hix hcapB hs I h (fun J H1 z=>z) fun D C s6 H6 m6 ns6 IX c1 c2 c3 c4 c5 c6 q=>⟨m6,ns6,fun h' sb=>⟨.ref D,H6,IX.turned (t':=s6.toks) (it:=C) (fun b o hb q=>sb.extBut b o hb q) c1 c2 c4 c5 c6,rfl,q⟩⟩
  obtain ⟨H'',I'',q''⟩:=z
  exact k b s' H'' I'' q''
def qye (ix:List Nat) (k:Nat) (Wi:WF) (G:WG) (Wt:WT) (We:WE):WF:=fun env Q=>Wi env fun ds e0=>ds.length<sizeLine ∧ ∃ P:Nat→List PyData→Sto→Prop,P 0 [] (qvi ix k e0) ∧
 (∀ i d ys e,ds[i]?=some d→P i ys e→G d e fun e1=>Wt e1 fun b e2=>if b=true then We e2 fun y e3=>P (i+1) (ys++[y]) e3 else P (i+1) ys e2) ∧ ∀ ys e,P ds.length ys e→Q ys e0
section
variable {K:PySem.W.Frag}{ix:List Nat}{n:Nat}{Wi:WF}{G:WG}{Wt:WT}{We:WE}{σ:St}{H:Hp}{R:VK}
theorem qtr (h:qwh K (qye ix n Wi G Wt We) σ H R):qxx ix n (qlt K Wi) (qjo K G) (qta K Wt) (qcw K We) σ H R:=by
 obtain ⟨M,env,F,Q,I,h,k⟩:=h
 refine ⟨M,env,F,_,I,h,fun ds J F1 H1 e1 I1 s1 jt xx153=>?_⟩
 obtain ⟨hz,P,p0,turn,fin⟩:=xx153
 refine ⟨fun i m ys σ1 H'=>m=ds.length-i∧i≤ds.length ∧ ∃ e' F' l,EnvOk K ⟨H1,H1,F1⟩ F' H' e' σ1∧Iss K F' l ys∧ys.length≤i∧P i l e',⟨ds.length,by simp,Nat.zero_le _,qvi ix n e1,F1,[],I1.cap ix n,qS,Nat.le_refl _,p0⟩,?_⟩
 rintro i m ys σ1 H2 ⟨hm,hi,e2,F2,l,I2,i2,hl,p2⟩
 have g2:=I2.goOf
 by_cases he:i=ds.length
 ·subst he
  exact .inl ⟨jt.stop H2 (g2.f.trans g2.fh),by omega,qke (I1.go g2) (s1.trans g2.f) i2 (fin l e2 p2) k⟩
 ·have hlt:i<ds.length:=by omega
  refine .inr ⟨jt.go i H2 (g2.f.trans g2.fh) hlt,by omega,fun y σ' H' => ∃ e' F' l',EnvOk K ⟨H1,H1,F1⟩ F' H' e' σ'∧Iss K F' l' (ys++[y])∧P (i+1) l' e',fun σ' H' => ∃ e' F' l',EnvOk K ⟨H1,H1,F1⟩ F' H' e' σ'∧Iss K F' l' ys∧P (i+1) l' e',
   fun y σ' H' xx152=>by obtain ⟨e',F',l',I',i',p'⟩:=xx152;exact ⟨ds.length-(i+1),by omega,rfl,hlt,e',F',l',I',i',by simp;omega,p'⟩,fun σ' H' xx151=>by obtain ⟨e',F',l',I',i',p'⟩:=xx151;exact ⟨ds.length-(i+1),by omega,rfl,hlt,e',F',l',I',i',by omega,p'⟩,fun x H3 hy=>?_⟩
  obtain ⟨d,F3,hd,g,j⟩:=jt.yld i H2 x H3 F2 g2.f g2.fh hlt hy
  refine ⟨_,e2,F3,d,_,I2.go g,j,turn i d l e2 hd p2,fun F4 H4 e4 σ4 I4 s4 h4=>⟨_,e4,F4,_,I4,h4,fun b F5 H5 e5 I5 s5 h5=>?_⟩⟩
  cases b with
  | true =>
   rw [if_pos rfl] at h5
   refine ⟨_,e5,F5,_,I5,h5,fun d6 v6 F6 H6 e6 I6 s6 i6 h6=>?_⟩
   exact ⟨e6,F6,l++[d6],I6,qal (((i2.mono (g.f.trans s4)).mono s5).mono s6) (qB i6 qS),h6⟩
  | false =>
   rw [if_neg Bool.false_ne_true] at h5
   exact ⟨e5,F5,l,I5,(i2.mono (g.f.trans s4)).mono s5,h5⟩
end
theorem zaam {elt target iter cnd:Expr}{scope:Scope}{pos:Pos}{caps own:List Str}{ix:List Nat}{Wi:WF}{G:WG}{Wt:WT}{We:WE} (hc:X.calm=true) (S:CompScope X.env scope caps) (hi:VI X target iter Wi)
 (hg : ∀ pins s3 H ex,VG (blk X pins scope (caps++own) s3 H ex) target G) (ht : ∀ pins s3 H ex,VT (blk X pins scope (caps++own) s3 H ex) cnd Wt)
 (he : ∀ pins s3 H ex,VE (blk X pins scope (caps++own) s3 H ex) elt We)
 (hix:caps.length=ix.length:=by rfl) (hcapB:(caps.zip ix).all (fun p=>X.N[p.2]?==some p.1)=true:=by rfl)
  (hs : ∀ x,foldedSetIterable iter X.env x=pure x:=by intro _;rfl):VF X (.ListComp elt [⟨target,iter,[cnd],0⟩] scope pos) (qye ix own.length Wi G Wt We) :=
  (zaaj (g:=qjo X.K G) (tt:=qta X.K Wt) (te:=qcw X.K We) hc S hi hg he ht hix hcapB hs).imp fun _ _ _ h=>qtr h
end
end L2
namespace L2
open PySem PySem.Spec PyProof.Rows
def isIn (k:Int):Value→Bool
 | .int b _=>b==k
 | _=>false
theorem qnm : ∀ {ns:List Int}{us:List Value},Vals (ns.map V.int) us → ∀ (i:Nat) (u:Value),us[i]?=some u → ∃ n t,ns[i]?=some n∧u = .int n t
 | [],_,.nil,i,u,h=>by simp at h
 | n::ns,_,.cons r q,0,u,h=>by
  obtain ⟨t,rfl⟩:=r
  simp at h
  exact ⟨n,t,rfl,h.symm⟩
 | n::ns,_,.cons r q,i+1,u,h=>by
  obtain ⟨m,t,a,b⟩:=qnm q i u (by simpa using h)
  exact ⟨m,t,by simpa using a,b⟩
section
variable {X:Cx}
theorem zabs:MtM X "list.index" (fun x vs H Q => ∃ (a:Addr) (ns:List Int) (k:Int) (j:Nat),x = .ref a∧vs=[.int k]∧SqL X.K H a (ns.map V.int)∧ns[j]?=some k∧(∀ m,m<j→ns[m]?≠some k)∧Q (.int (j:Nat)) H):=by
 intro pins s σ H x vs v us Q I rx rv h
 obtain ⟨a,ns,k,j,rfl,rfl,hs,hj,hno,q⟩:=h
 cases rx
 obtain ⟨u,rfl,ru⟩:=rv.one
 obtain ⟨tk,rfl⟩:=ru
 obtain ⟨its,r,⟨⟨cls,dd,data,sl⟩,n,e,hc,hd,hdt⟩,hz⟩:=I.list hs
 simp only at hc hd hdt
 subst hc hd hdt
 have hl:ns.length=its.length:=by have:=r.length;simpa using this
 have hjl:=(List.getElem?_eq_some_iff.mp hj).1
 have hjs:j<its.toArray.size:=by simp;omega
 refine call_meets F.slot_list_index ⟨_,e,rfl⟩ F.entry_list_index (F.args_list_index_2 _ _) (SeqAt.list_indexAt a its.toArray n none sl (.int k tk) (isIn k) j hjs ?_ ?_ ?_) ⟨e,fun y hy=>?_,?_⟩
 ·have hz':ns.length≤sizeLine:=by simpa using hz
  have:sizeLine<2^62:=by decide
  omega
 ·obtain ⟨m,t,a1,a2⟩:=qnm r j its[j] (List.getElem?_eq_getElem _)
  rw [hj] at a1
  cases a1
  show isIn k its[j]=true
  rw [a2];simp [isIn]
 ·intro m hm hmj
  have hml:m<its.length:=by simpa using hm
  obtain ⟨z,t,a1,a2⟩:=qnm r m its[m] (List.getElem?_eq_getElem _)
  have h2:z≠k:=fun q=>hno m hmj (by rw [a1,q])
  show isIn k its[m]=false
  rw [a2];simp [isIn,h2]
 ·have hy':y ∈ its:=by simpa using hy
  obtain ⟨i,hi,rfl⟩:=List.getElem_of_mem hy'
  obtain ⟨z,t,a1,a2⟩:=qnm r i its[i] (List.getElem?_eq_getElem _)
  rw [a2]
  exact SeqAt.EqAt.int_int z t k tk
 ·exact ⟨.int (j:Nat),H,I.tok _,⟨_,rfl⟩,q⟩
end
theorem iss_ints' {K:PySem.W.Frag}{F:Hp} : ∀ {ns:List Int}{xs:List V},Iss K F (ns.map PyData.int) xs→xs=ns.map V.int
 | [],_,h=>h.nil_inv
 | b::bs,_,h=>by obtain ⟨y,ys,rfl,p,q⟩:=h.cons_inv;rw [p.int_inv,iss_ints' q];rfl
section
variable {X:Cx}{e:Expr}{We:WE}{pos:Pos}
def zapr (i:Nat) (f:PyData→PyData→(PyData→Prop)→Prop) (W:WE):WE:=fun env Q => ∃ l,gS env i = .val (.list l)∧W env fun d e=>f (.list l) d fun r=>Q r e
def zaja:PyData→PyData→(PyData→Prop)→Prop:=fun l d q => ∃ (ns:List Int) (k:Int) (j:Nat),l = .list (ns.map .int)∧d = .int k∧ns[j]?=some k∧(∀ m,m<j→ns[m]?≠some k)∧q (.int (j:Nat))
variable {x:Str}{px apos cpos:Pos}
theorem zacd (i:Nat) (he:VE X e We) (hN:X.N[i]?=some x:=by rfl) (hv:Vis X.env.scope x:=by first|exact Or.inl rfl|exact Or.inr (Or.inl rfl)|exact Or.inr (Or.inr rfl)) (hd:(x==("__debug__" : Str))=false:=by decide)
 (hcd:(x==("__classdict__" : Str))=false:=by decide) (hbase:attributeBase (.Name x px) "index" X.env (eval (.Name x px) X.env)=eval (.Name x px) X.env:=by rfl)
 (hfew:((backTo cpos (starEach [e] X.env)).all (fun x => !x.1)&&(backToKw cpos (keywordEach [] X.env)).all (fun x=>x.1.isSome)&&decide ([e].length+([]:List Keyword).length+(if ([]:List Keyword).isEmpty then 0 else 1)<30))=true:=by rfl)
 (hline:(apos.endLine==cpos.line)=true:=by rfl) (hst:starEach [e] X.env=(false,eval e X.env)::starEach [] X.env:=by rfl) (hplain:(backTo cpos (starEach [] X.env)).any (·.1)=false:=by rfl) :
 VE X (.Call (.Attribute (.Name x px) "index" apos) [e] [] cpos) (zapr i zaja We) :=
 (qwi PySem.F.plainAttrs_list PySem.F.slot_list_index PySem.F.type_list_index zabs (qbb hN hv hd hcd) (qN he qbj hst) hbase hfew hline hst hplain).imp fun σ H R xx154=>by
  obtain ⟨M,env,F,Q,I,⟨l,hm,h⟩,k⟩:=xx154
  have S:=I.slot i
  rw [hm] at S
  obtain ⟨v,ev,jv⟩:=S
  obtain ⟨a,xs,rfl,hs,hr⟩:=jv.lst_inv
  refine ⟨_,qcl ev,.inl ⟨rfl,xs,I.fh.seq hs⟩,M,env,F,_,I,h,fun d v F1 H1 e1 I1 s1 i1 h1=>?_⟩
  obtain ⟨bs,kb,j,el,rfl,hj,hno,q⟩:=h1
  cases el
  have ex:=iss_ints' hr
  subst ex
  exact ⟨a,bs,kb,j,rfl,by rw [i1.int_inv],(s1.trans I1.fh).seq hs,hj,hno,k _ _ F1 H1 e1 I1 s1 (qab _) q⟩
end
end L2
namespace L2
open PySem PySem.Spec PyProof.Rows
theorem qxi {h:Heap}{a:Addr}{us:Array Value} (p:IsTup h a us):h.IsTuple a us:=p
section
variable {prog:Program}{w:World}{A:Around}{E:Value→Shared→Prop}{s:Shared}
theorem zadl {e j l:Addr}{k:Nat}{us:Array Value}{u old:Value}{Q:Value→Shared→Prop} (a0:IsEnum s.heap e j k old) (a1:s.heap.IsTupleIter j l k) (g1:s.heap.IsTuple l us) (hu:us[k]?=some u) (hne:e≠j)
 (q : ∀ h',IsEnumOut h' e j ((k:Int)+1) u s.heap.objs.size→h'.IsTupleIter j l (k+1)→h'.get? s.heap.objs.size=some { cls :=.type "tuple",data :=.seq #[.int k s.toks,u] }→h'.objs.size=s.heap.objs.size+1 →
  (∀ b o,b≠e→b≠j→s.heap.get? b=some o→h'.get? b=some o)→Q (.ref s.heap.objs.size) { s with heap:=h',toks:=s.toks+1 }) :
  wpAny (model prog w) A (Builtin.«enumerate.__next__» ⟨[.ref e],[]⟩) (fun r s' => ∃ v,r = .done (.ret v)∧Q v s') E s:=by
  obtain ⟨p0,g,d,t0,os⟩:=s
  show wpAny _ _ (field (.ref e) 2 >>= _) _ _ _
  refine wpAny_bind (wpAny_field a0 rfl (x :=.ref j) rfl ?_)
  refine wpAny_bind (qui a1 g1 hu fun p1 b1 m1=>?_)
  replace m1:Heap.SameBut j p0 p1:=m1
  have c1:IsEnum p1 e j k old:=(m1.2 e hne).trans a0
  show wpAny _ _ (field (.ref e) 3 >>= _) _ _ ⟨p1,g,d,t0,os⟩
  refine wpAny_bind (wpAny_field c1 rfl (x:=rawInt k) rfl ?_)
  show wpAny _ _ (field (.ref e) 4 >>= _) _ _ ⟨p1,g,d,t0,os⟩
  refine wpAny_bind (wpAny_field c1 rfl (x :=.none) rfl ?_)
  show wpAny _ _ (mkInt k >>= _) _ _ ⟨p1,g,d,t0,os⟩
  refine wpAny_bind (wpAny_mkInt (?_:_))
  show wpAny _ _ (setField (.ref e) 3 (rawInt ((k:Int)+1)) >>= _) _ _ ⟨p1,g,d,t0+1,os⟩
  refine wpAny_bind (wpAny_setField_rec c1 (by simp) fun p2 c2 m2=>?_)
  replace m2:Heap.SameBut e p1 p2:=m2
  replace c2:IsEnum p2 e j ((k:Int)+1) old:=c2
  show wpAny _ _ (setField (.ref e) 4 .none >>= _) _ _ ⟨p2,g,d,t0+1,os⟩
  refine wpAny_bind (wpAny_setField_rec c2 (by simp) fun p3 c3 m3=>?_)
  replace m3:Heap.SameBut e p2 p3:=m3
  replace c3:IsEnum p3 e j ((k:Int)+1) old:=c3
  show wpAny _ _ (newTuple [.int k t0,u] >>= _) _ _ ⟨p3,g,d,t0+1,os⟩
  refine wpAny_bind (wpAny_newTuple (?_:_))
  have c4:IsEnum (p3.push { cls :=.type "tuple",data :=.seq #[.int k t0,u] }) e j ((k:Int)+1) old:=Heap.get?_push_of_some _ c3
  generalize hp4:p3.push { cls :=.type "tuple",data :=.seq #[.int k t0,u] }=p4 at c4
  have z3:p3.objs.size=p0.objs.size:=by rw [m3.1,m2.1,m1.1]
  have elt:e<p0.objs.size:=Heap.lt_size a0
  have t4:p4.get? p0.objs.size=some { cls :=.type "tuple",data :=.seq #[.int k t0,u] }:=by rw [← hp4,← z3];exact Heap.get?_push_size _ rfl
  have z4:p4.objs.size=p0.objs.size+1:=by rw [← hp4,Heap.size_push,z3]
  have k4 : ∀ b o,b≠e→b≠j→p0.get? b=some o→p4.get? b=some o:=fun b o n1 n2 h=>by
   rw [← hp4];exact Heap.get?_push_of_some _ (m3.extBut b o n1 (m2.extBut b o n1 (m1.extBut b o n2 h)))
  have b4:p4.IsTupleIter j l (k+1):=by
   rw [← hp4];obtain ⟨o,ho,r⟩:=(b1.extBut m2.extBut (Ne.symm hne)).extBut m3.extBut (Ne.symm hne);exact ⟨o,Heap.get?_push_of_some _ ho,r⟩
  show wpAny _ _ (Builtin.SmallTypes.ownedTupleIsFree (.ref e) >>= _) _ _ ⟨p4,g,d,t0+1,os⟩
  rw [z3]
  clear hp4 c3 m3 c2 m2 c1 m1 b1 z3 p3 p2 p1
  refine wpAny_bind (?_:wpAny _ _ (Builtin.SmallTypes.ownedTupleIsFree (.ref e)) _ _ _)
  unfold Builtin.SmallTypes.ownedTupleIsFree
  refine wpAny_bind (wpAny_field c4 rfl (x :=.none) rfl (wpAny_pure ?_))
  simp only [if_true]
  refine wpAny_bind (wpAny_rule (?_:_))
  refine wpAny_bind (wpAny_field c4 rfl (x:=old) rfl ?_)
  refine wpAny_bind (wpAny_setField_rec c4 (by simp) fun p5 c5 m5=>?_)
  replace m5:Heap.SameBut e p4 p5:=m5
  replace c5:IsEnum p5 e j ((k:Int)+1) u:=c5
  show wpAny _ _ (Builtin.SmallTypes.ownedTupleHandOut (.ref e) (.ref p0.objs.size) >>= _) _ _ ⟨p5,g,d,t0+1,os⟩
  refine wpAny_bind (?_:wpAny _ _ (Builtin.SmallTypes.ownedTupleHandOut (.ref e) (.ref p0.objs.size)) _ _ _)
  unfold Builtin.SmallTypes.ownedTupleHandOut
  refine wpAny_bind (wpAny_setField_rec c5 (by simp) fun p6 c6 m6=>?_)
  replace m6:Heap.SameBut e p5 p6:=m6
  replace c6:IsEnumOut p6 e j ((k:Int)+1) u p0.objs.size:=c6
  refine wpAny_setField_rec c6 (by simp) fun p7 c7 m7=>?_
  replace m7:Heap.SameBut e p6 p7:=m7
  replace c7:IsEnumOut p7 e j ((k:Int)+1) u p0.objs.size:=c7
  refine wpAny_bind (wpAny_letGo (wpAny_pure ⟨_,rfl,q p7 c7 ?_ ?_ ?_ ?_⟩))
  ·exact ((b4.extBut m5.extBut (Ne.symm hne)).extBut m6.extBut (Ne.symm hne)).extBut m7.extBut (Ne.symm hne)
  ·exact m7.extBut _ _ (Nat.ne_of_gt elt) (m6.extBut _ _ (Nat.ne_of_gt elt) (m5.extBut _ _ (Nat.ne_of_gt elt) t4))
  ·rw [m7.1,m6.1,m5.1,z4]
  ·exact fun b o n1 n2 h=>m7.extBut b o n1 (m6.extBut b o n1 (m5.extBut b o n1 (k4 b o n1 n2 h)))
theorem zacg {e j l:Addr}{k:Nat}{us:Array Value}{x old:Value}{Q:Option Value→Shared→Prop} (a0:IsEnum s.heap e j k old) (a1:s.heap.IsTupleIter j l k) (g1:s.heap.IsTuple l us) (hu:us[k]?=some x) (hne:e≠j)
 (q : ∀ h',IsEnumOut h' e j ((k:Int)+1) x s.heap.objs.size→h'.IsTupleIter j l (k+1)→h'.get? s.heap.objs.size=some { cls :=.type "tuple",data :=.seq #[.int k s.toks,x] }→h'.objs.size=s.heap.objs.size+1 →
  (∀ b o,b≠e→b≠j→s.heap.get? b=some o→h'.get? b=some o)→Q (some (.ref s.heap.objs.size)) { s with heap:=h',toks:=s.toks+1 }):wpAny (model prog w) A (pyNext (.ref e)) Q E s:=by
  have ty:s.TypeIs (.ref e) "enumerate":=⟨_,a0,rfl⟩
  unfold pyNext
  exact wpAny_bind (wpAny_attempt (wpAny_callSpecial?_slot (name:=Str.ofString "__next__") ty F.slot_enumerate_next (wpAny_call_entry F.slot_enumerate_next ty F.entry_enumerate_next
   (zadl a0 a1 g1 hu hne fun h' r1 r2 r3 r4 r5=>wpAny_pure (q h' r1 r2 r3 r4 r5)) (F.args_enumerate_next_1 _))))
theorem zadt {e j l:Addr}{k:Nat}{us:Array Value}{old:Value}{Q:Option Value→Shared→Prop} (hh:A.handled=none) (a0:IsEnum s.heap e j k old) (a1:s.heap.IsTupleIter j l k) (g1:s.heap.IsTuple l us) (hu:us[k]?=none)
 (q : ∀ h',Heap.ExtBut j s.heap h'→Q none { s with heap:=h' }):wpAny (model prog w) A (pyNext (.ref e)) Q E s:=by
  have ty:s.TypeIs (.ref e) "enumerate":=⟨_,a0,rfl⟩
  unfold pyNext
  refine wpAny_bind (wpAny_attempt (wpAny_callSpecial?_slot (name:=Str.ofString "__next__") ty F.slot_enumerate_next (wpAny_call_entry F.slot_enumerate_next ty F.entry_enumerate_next (?_:_) (F.args_enumerate_next_1 _))))
  show wpAny _ _ (field (.ref e) 2 >>= _) _ _ _
  refine wpAny_bind (wpAny_field a0 rfl (x :=.ref j) rfl ?_)
  refine wpAny_bind (qzo hh a1 g1 hu fun h' x m hx=>?_)
  obtain ⟨o,ho,hc⟩:=hx
  exact wpAny_bind (wpAny_isInstance (T := "StopIteration") (b:=true) ⟨o,ho,hc⟩ isSubtype_stop (wpAny_pure (q _ m)))
theorem zafd (l:Addr) (us:Array Value):Meets (Builtin.«enumerate.__new__» ⟨[.type "enumerate",.ref l],[]⟩) (fun _ R s=>s.heap.IsTuple l us ∧
 R (.ok (.ret (.ref (s.heap.push (itO true l)).objs.size))) { s with heap:=(s.heap.push (itO true l)).push { cls :=.type "enumerate",data :=.fields #[.none,.bool false,.ref s.heap.objs.size,rawInt 0,.none,.none] } }) :=
  .of_wp fun prog w A R s h=>by
   obtain ⟨p0,g,d,tk,os⟩:=s
   obtain ⟨hl,h⟩:=h
   obtain ⟨ob,o1,o2,n,o3⟩:=id hl
   have hsub:=sub_enumerate
   have y1:Heap.IsTuple (Shared.heap ⟨p0,g,d,tk,os⟩) l us:=hl
   wp_walk using AutoSeq1.wpAny_loadPart' o1
   refine wpAny_stack_any fun st=>wpAny_pure ?_
   split
   ·rename_i c _ _ _ _ _
    cases (c==Value.type "enumerate")
    ·wp_walk using AutoSeq1.wpAny_loadPart' o1,wpAny_pyIter_tuple y1
     exact ⟨_,rfl,h⟩
    ·wp_walk using AutoSeq1.wpAny_loadPart' o1,wpAny_pyIter_tuple y1
     exact ⟨_,rfl,h⟩
   ·wp_walk using AutoSeq1.wpAny_loadPart' o1,wpAny_pyIter_tuple y1
    exact ⟨_,rfl,h⟩
theorem zabu {l:Addr}{us:Array Value}{Q:Value→Shared→Prop} (hL:s.heap.IsTuple l us)
 (h : ∀ h',IsEnum h' (s.heap.objs.size+1) s.heap.objs.size 0 .none→h'.IsTupleIter s.heap.objs.size l 0→h'.objs.size=s.heap.objs.size+2→(∀ b o,s.heap.get? b=some o→h'.get? b=some o)→Q (.ref (s.heap.objs.size+1)) { s with heap:=h' }) :
  wpAny (model prog w) A (call (.type "enumerate") [.ref l]) Q E s:=by
  refine callType_new F.called_enumerate (by decide) (F.typeCall_enumerate_1 _) (F.newCall_enumerate_1 _) (fun ob=>F.args_object_init_2 ob _) F.entry_enumerate_new (zafd l us) ⟨hL,?_⟩
  have hz:(s.heap.push (itO true l)).objs.size=s.heap.objs.size+1:=Heap.size_push ..
  have g2:((s.heap.push (itO true l)).push { cls :=.type "enumerate",data :=.fields #[.none,.bool false,.ref s.heap.objs.size,rawInt 0,.none,.none] }).get? (s.heap.push (itO true l)).objs.size=some _:=Heap.get?_push_size _ rfl
  have g1:((s.heap.push (itO true l)).push { cls :=.type "enumerate",data :=.fields #[.none,.bool false,.ref s.heap.objs.size,rawInt 0,.none,.none] }).get? s.heap.objs.size=some (itO true l):=Heap.get?_push_of_some _ (Heap.get?_push_size _ rfl)
  show _∧_
  rw [hz] at g2 ⊢
  exact ⟨⟨_,g2,rfl⟩,h _ g2 ⟨_,g1,rfl,rfl⟩ (by rw [Heap.size_push,hz]) fun b o x=>Heap.get?_push_of_some _ (Heap.get?_push_of_some _ x)⟩
end
def IteT (K:PySem.W.Frag) (a:Addr):It :=
 ⟨fun i H => ∃ xs x,SqT K H a xs∧xs[i]?=some x,fun i H v H' => ∃ p x,(∀ xs,SqT K H a xs→xs[i]?=some x)∧H p=none∧v = .ref p∧H'=upd H p (.tup [.int i,x]),fun i H => ∃ xs,SqT K H a xs∧xs.length≤i⟩
theorem qwt {P:Program}{w:World}{K:PySem.W.Frag}{elts:List Expr}{x1:Nat}{tpos:Pos} (a e it:Addr) (hne:e≠it) :
 Turn P w K (.Tuple elts x1 tpos) (IteT K a) [e,it] e (fun i h=>(∃ old,IsEnum h e it (i:Nat) old)∧h.IsTupleIter it a i) where
  mem:=by simp
  obj:=fun i h st b hb=>by
   obtain ⟨⟨old,s1⟩,s2⟩:=st
   have hb':b=e∨b=it:=by simpa using hb
   rcases hb' with rfl|rfl
   ·exact ⟨_,s1,fun v z=>by have z':Data.fields _=Data.cell v:=z;cases z'⟩
   ·obtain ⟨o,q,c,d⟩:=s2
    exact ⟨o,q,fun v z=>by rw [d] at z;cases z⟩
  keep:=fun i h h' st k=>by
   obtain ⟨⟨old,s1⟩,s2⟩:=st
   exact ⟨⟨old,k e (by simp) _ s1⟩,s2.at fun o q=>k it (by simp) o q⟩
  item:=by
   intro X hP hw hK hc i pins s σ H E I hf st hg
   subst hP hw hK
   obtain ⟨xs,x,hq,hx⟩:=hg
   obtain ⟨its,rv,p,hz⟩:=I.tuple hq
   obtain ⟨u,hu,ru⟩:=rv.get hx
   obtain ⟨⟨old,s1⟩,s2⟩:=st
   obtain ⟨f0,f1,f2,f3,f4,f5⟩:=hf e (by simp)
   obtain ⟨g0,g1,g2,g3,g4,g5⟩:=hf it (by simp)
   have hel:e<s.heap.objs.size:=Heap.lt_size s1
   refine zacg s1 s2 (qxi p) (x:=u) (by simpa using hu) hne fun h₁ ho hi ht hz₁ hk=>⟨_,rfl,?_⟩
   refine wpAny_letOwnedTupleGo_enum (s:={ s with heap:=h₁,toks:=s.toks+1 }) ho fun h₂ he₂ hs₂=>?_
   replace hs₂:Heap.SameBut e h₁ h₂:=hs₂
   have fresh:H s.heap.objs.size=none:=I.hok.fresh (Nat.le_refl _)
   have kk : ∀ b o,b≠e→b≠it→s.heap.get? b=some o→h₂.get? b=some o:=fun b o b1 b2 q=>hs₂.extBut b o b1 (hk b o b1 b2 q)
   have nb : ∀ b v,H b=some v→b≠e∧b≠it:=fun b v q=>⟨fun z=>(by rw [z,f0] at q;cases q),fun z=>(by rw [z,g0] at q;cases q)⟩
   have ht₂:h₂.get? s.heap.objs.size=some { cls :=.type "tuple",data :=.seq #[.int i s.toks,u] }:=(hs₂.2 _ (Nat.ne_of_gt hel)).trans ht
   have I1:Inv X pins σ (upd H s.heap.objs.size (.tup [.int i,x])) { s with heap:=h₂,toks:=s.toks+1 }:=by
    refine I.step (g':=s.gens) (d':=s.drawn) (ch:=[e,it]) (fun b hb=>?_) (fun b o _ _ hc q _=>kk b o (fun z=>hc (by simp [z])) (fun z=>hc (by simp [z])) q)
     (fun b o _ _ hc q _=>⟨o.slots,kk b o (fun z=>hc (by simp [z])) (fun z=>hc (by simp [z])) q⟩) (fun b o _ q n=>by rw [qj (Nat.ne_of_lt (Heap.lt_size q))];exact n)
     (fun b o hc q=>⟨o,kk b o (fun z=>hc (by simp [z])) (fun z=>hc (by simp [z])) q⟩) (fun b ys q=>by rw [qj (qq q fresh)];exact q) (fun b o v q=>by rw [qj (qq q fresh)];exact q)
     (fun b ps q=>⟨#[],by rw [qj (qq q fresh),q];simp,.nil⟩) (fun m hm=>?_) (fun b v q=>?_) I.bare
    ·have hb':b=e∨b=it:=by simpa using hb
     rcases hb' with rfl|rfl
     ·exact ⟨f3,f1,f4,f5⟩
     ·exact ⟨g3,g1,g4,g5⟩
    ·obtain ⟨o,es,ep,ho',r⟩:=hm
     exact ⟨o,es,ep,kk _ o (Ne.symm f1) (Ne.symm g1) ho',r⟩
    ·by_cases hb:b=s.heap.objs.size
     ·subst hb
      rw [qr] at q
      cases q
      exact ⟨(by show 2≤sizeLine;decide),[.int i s.toks,u],.cons ⟨s.toks,rfl⟩ (.cons ru .nil),⟨_,ht₂,rfl,_,rfl⟩⟩
     ·rw [qj hb] at q
      refine (I.hok b v q).stay (fun c ob hc z=>?_) (fun c z=>by rw [qj (qq z fresh)];exact z) fun c ys z=>by rw [qj (qq z fresh)];exact z
      rcases hc with hc|hc
      ·subst hc;exact kk _ _ (nb _ _ q).1 (nb _ _ q).2 z
      ·exact kk _ _ (nb _ _ hc).1 (nb _ _ hc).2 z
   refine ⟨.ref s.heap.objs.size,_,I1,rfl,⟨s.heap.objs.size,x,fun ys hy=>by rw [I.tuple_inj hy hq];exact hx,fresh,rfl,rfl⟩,⟨⟨u,?_⟩,?_⟩,fun b hb=>?_⟩
   ·have e1:((i+1:Nat):Int)=(i:Int)+1:=by push_cast;rfl
    rw [e1];exact he₂
   ·exact hi.extBut hs₂.extBut (Ne.symm hne)
   ·have hb':b=e∨b=it:=by simpa using hb
    have hlt:b<s.heap.objs.size:=by
     rcases hb' with rfl|rfl
     ·exact hel
     ·obtain ⟨o,q,_⟩:=s2;exact Heap.lt_size q
    rw [qj (Nat.ne_of_lt hlt)]
    exact (hf b hb).1
  done:=by
   intro X hP hw hK hc i pins s σ H E I hf st hg
   subst hP hw hK
   obtain ⟨xs,hq,hx⟩:=hg
   obtain ⟨its,rv,p,hz⟩:=I.tuple hq
   obtain ⟨⟨old,s1⟩,s2⟩:=st
   obtain ⟨g0,g1,g2,g3,g4,g5⟩:=hf it (by simp)
   have hl:=rv.length
   exact zadt (I.ok.hd hc) s1 s2 (qxi p) (by simp;omega) fun h' eb=>⟨rfl,I.turned (t':=s.toks) (fun b o hb q=>eb b o hb q) g0 g1 g3 g4 g5⟩
  self:=fun A i s Q E st h=>by
   obtain ⟨⟨old,s1⟩,s2⟩:=st
   exact wpAny_pyIter_enum s1 h
section
variable {X:Cx}{elts:List Expr}{x1:Nat}{tpos:Pos}
def zane (K:PySem.W.Frag) (ta:TA):TI:=fun σ H R=>ta σ H fun vs H1 => ∃ a,vs=[.ref a]∧(∃ xs,SqT K H1 a xs)∧R (IteT K a) H1
theorem zafc {a:Expr}{ta:TA}{p pos:Pos} (hg:Gl X "enumerate") (hm:X.mg "enumerate" = none) (ha:PA X [a] ta) (hs:starEach [a] X.env=[(false,eval a X.env)]:=by rfl) :
 PI X (.Tuple elts x1 tpos) (.Call (.Name "enumerate" p) [a] [] pos) (zane X.K ta):=by
 intro pins s σ H R I h
 refine Call_ (qho I hg hm boot_enumerate (PyProof.Rows.callWith_type1 (thn (ha pos pins s σ H _ I h) fun us s1 xx155=>?_) hs rfl))
 obtain ⟨vs,H1,I1,r1,q1⟩:=xx155
 obtain ⟨l,e,⟨xs,hq⟩,q⟩:=q1
 subst e
 cases r1 with
 | cons r rr =>
  cases rr
  cases r
  obtain ⟨its,rv,pl,hz⟩:=I1.tuple hq
  refine zabu (qxi pl) fun h' he hi hz' hk=>?_
  refine wpAny_pyIter_enum he ?_
  have I2:Inv X pins σ H1 { s1 with heap:=h' }:=I1.kept (t':=s1.toks) hk
  refine ⟨s1.heap.objs.size+1,[s1.heap.objs.size+1,s1.heap.objs.size],_,_,H1,rfl,I2,qwt l _ _ (Nat.succ_ne_self _),⟨⟨_,he⟩,hi⟩,fun b hb=>?_,q⟩
  have hb':b=s1.heap.objs.size+1∨b=s1.heap.objs.size:=by simpa using hb
  have hle:s1.heap.objs.size≤b:=by
   rcases hb' with rfl|rfl
   ·exact Nat.le_succ _
   ·exact Nat.le_refl _
  exact I1.fpOk hle (I1.hok.fresh hle)
end
theorem zabv {K:PySem.W.Frag}{F:Hp}{a:Addr}{xs:List V}{l:List PyData} (hs:SqT K F a xs) (hr:Iss K F l xs):ItD K (IteT K a) F (qmd l) where
 go:=fun i H s hi=>by rw [qdl] at hi;exact ⟨xs,xs[i]'(by rw [hr.len];exact hi),qK s hs,List.getElem?_eq_getElem _⟩
 stop:=fun H s=>by rw [qdl];exact ⟨xs,qK s hs,by rw [hr.len];exact Nat.le_refl _⟩
 yld:=fun i H x H' F1 s1 s2 hi hy=>by
  obtain ⟨p,y,hy,hp,rfl,rfl⟩:=hy
  obtain ⟨d,e1,e2⟩:=hr.get' (hy xs (qK (s1.trans s2) hs))
  have g:=Go.put (o:=HO.tup [.int i,y]) s2 hp
  exact ⟨_,_,qkt e1,g,qmm (SqT.of qr) (qB (qab _) (qB ((e2.mono s1).mono g.f) qS))⟩
section
variable {X:Cx}{a:Expr}{W:WE}{p pos:Pos}
def zarc (W:WE):WF:=fun env Q=>W env fun d e=>match d with
 | .tuple l=>Q (qmd l) e
 | _=>False
theorem zafb {elts:List Expr}{x1:Nat}{tpos:Pos} (hm:X.mg "enumerate" = none) (ha:VE X a W) (hg:Gl X "enumerate":=by rfl) (hs:starEach [a] X.env=[(false,eval a X.env)]:=by rfl) (hs':starEach [a] X.env=(false,eval a X.env)::starEach [] X.env:=by rfl) :
 VI X (.Tuple elts x1 tpos) (.Call (.Name "enumerate" p) [a] [] pos) (zarc W) :=
 (zafc hg hm (qN ha qbj hs') hs).imp fun σ H R xx156=>by
  obtain ⟨M,env,F,Q,I,h,k⟩:=xx156
  refine ⟨M,env,F,_,I,h,fun d v F1 H1 e1 I1 s1 i1 h1=>?_⟩
  cases d with
  | tuple l =>
   obtain ⟨b,xs,rfl,hs,hr⟩:=i1.tup_inv
   exact ⟨b,rfl,⟨xs,qK I1.fh hs⟩,k _ _ F1 H1 e1 I1 s1 (zabv hs hr) h1⟩
  | _=>exact False.elim h1
def qik {α:Type} (l:List α) (k:Nat) (y:α):List α:=l.take k++y::l.drop k
theorem Vals.ins {xs:List V}{us:List Value}{y:V}{u:Value} (k:Nat) (r:Vals xs us) (ry:RelV y u):Vals (qik xs k y) (qik us k u):=(r.take k).append (.cons ry (r.drop k))
def zajv:V→List V→Hp→VK→Prop:=fun x vs H Q => ∃ l xs i y,x = .ref l∧vs=[.int i,y]∧H l=some (.lst xs)∧0≤i∧i≤xs.length∧xs.length<sizeLine∧Q .non (upd H l (.lst (qik xs i.toNat y)))
theorem zabk:MtM X "list.insert" zajv:=by
 intro pins s σ H x vs v us Q I rx rv h
 obtain ⟨l,xs,i,y,rfl,rfl,hH,i0,i1,hz,q⟩:=h
 cases rx
 obtain ⟨u,w',rfl,ru,rw'⟩:=rv.two
 obtain ⟨t,rfl⟩:=ru
 obtain ⟨z,its,n,r,hl,e⟩:=I.lstM hH
 have hsl:sizeLine<2^62:=by decide
 refine call_meets F.slot_list_insert ⟨_,e,rfl⟩ F.entry_list_insert (F.args_list_insert_3 _ _ _) (AutoSeq1.list_insert_list_int_val_1 l its.toArray n i t w' (by rw [fitsIndex_both (by omega) (by omega)];decide) (by rw [List.size_toArray];omega)) ⟨e,?_⟩
 refine ⟨.non,_,I.lset (its':=qik its i.toNat w') hH e ?_ (Vals.ins i.toNat r rw') ?_,rfl,q⟩
 ·have hk:(if i<0 then (i+(its.toArray.size:Int)).toNat else min i.toNat its.toArray.size)=i.toNat:=by
   rw [if_neg (by omega),List.size_toArray,Nat.min_eq_left (by omega)]
  simp only [hk]
  unfold qik
  apply Array.toList_inj.mp
  simp
  exact List.take_of_length_le (by simp)
 ·unfold qik
  simp only [List.length_append,List.length_cons,List.length_take,List.length_drop]
  omega
theorem zajd {K:PySem.W.Frag}{H:Hp}{l:List PyData}{xs:List V}{d:PyData}{y:V} (k:Nat) (r:Iss K H l xs) (h:Is K H d y):Iss K H (qik l k d) (qik xs k y):=qal (qvd k r) (qB h (quj k r))
variable {e1 e2:Expr}{W1 W2:WE}
def wIns (i:Nat) (W1 W2:WE):WS:=fun D env=>(gS env i).mut=true∧W1 env fun d e=>W2 e fun y e'=>match d with
 | .int n=>(gS e' i).mut=true∧(0≤n∧n≤(gS e' i).cnt.length∧(gS e' i).cnt.length<sizeLine)∧D.nx (e'.set i ((gS e' i).upd (qik (gS e' i).cnt n.toNat y)))
 | _=>False
theorem zace (i:Nat) {x:Str}{px apos cpos:Pos} (h1:VE X e1 W1) (h2:VE X e2 W2) (hN:X.N[i]?=some x:=by rfl) (hv:Vis X.env.scope x:=by first|exact Or.inl rfl|exact Or.inr (Or.inl rfl)|exact Or.inr (Or.inr rfl)) (hd:(x==("__debug__" : Str))=false:=by decide)
 (hcd:(x==("__classdict__" : Str))=false:=by decide)
 (hbase:attributeBase (.Name x px) "insert" X.env (eval (.Name x px) X.env)=eval (.Name x px) X.env:=by rfl)
 (hfew:((backTo cpos (starEach [e1,e2] X.env)).all (fun x => !x.1)&&(backToKw cpos (keywordEach [] X.env)).all (fun x=>x.1.isSome)
  && decide ([e1,e2].length+([]:List Keyword).length+(if ([]:List Keyword).isEmpty then 0 else 1)<30))=true:=by rfl)
 (hline:(apos.endLine==cpos.line)=true:=by rfl) (hst:starEach [e1,e2] X.env=(false,eval e1 X.env)::starEach [e2] X.env:=by rfl) (hst2:starEach [e2] X.env=(false,eval e2 X.env)::starEach [] X.env:=by rfl) (hplain:(backTo cpos (starEach [e2] X.env)).any (·.1)=false:=by rfl)
 (hs:swapsWith (.Call (.Attribute (.Name x px) "insert" apos) [e1,e2] [] cpos) none pos.line X.env=pure false:=by rfl):VS X (.Expr (.Call (.Attribute (.Name x px) "insert" apos) [e1,e2] [] cpos) pos) (wIns i W1 W2) :=
 (qjy (qwi PySem.F.plainAttrs_list PySem.F.slot_list_insert PySem.F.type_list_insert zabk (qbb hN hv hd hcd) (qN h1 (qN h2 qbj hst2) hst) hbase hfew hline hst hplain) hs).imp fun D σ H xx157=>by
  obtain ⟨M,env,F,DD,I,⟨hm,h⟩,k⟩:=xx157
  obtain ⟨p,vs,ep,g1,g2,g3,g4⟩:=(I.slot i).addr hm
  refine ⟨_,qcl ep,.inl ⟨rfl,_,SqL.of g1⟩,M,env,F,_,I,h,fun d v F1 H1 e1 I1 s1 i1 h1=>⟨M,e1,F1,_,I1,h1,fun d2 v2 F2 H2 e2 I2 s2 i2 h2=>?_⟩⟩
  cases d with
  | int n =>
   obtain ⟨m1,⟨n0,n1,z1⟩,q1⟩:=h2
   obtain ⟨p',vs1,ep',f1,f2,f3,f4⟩:=(I2.slot i).addr m1
   rw [ep] at ep';injection ep' with ep';injection ep' with ep';subst ep'
   have fl:=f4.len
   exact ⟨p,vs1,n,v2,rfl,by rw [i1.int_inv],f1,n0,by omega,by omega,k.nx _ F2 _ σ (I2.chg m1 ep (zajd n.toNat f4 i2)) (s1.trans s2) q1⟩
  | _=>exact False.elim h2
def wPar (i j:Nat) (Wr:WF):WS:=fun D env=>Wr env fun ds e=>match ds with
 | [d,d']=>D.nx ((e.set i (.val d)).set j (.val d'))
 | _=>False
theorem zaml {i j:Nat}{x y:Str}{a b:Expr}{Wr:WF}{px py pt pos:Pos}{kt k2 pt2} (hc:X.calm=true) (hN:X.N.Nodup) (ha:VA X [a,b] Wr) (hi:X.N[i]?=some x:=by rfl) (hj:X.N[j]?=some y:=by rfl) (hij:i≠j:=by decide)
 (hx:X.env.scope.names.lookup x=some .local:=by rfl) (hy:X.env.scope.names.lookup y=some .local:=by rfl)
 (hw:swappedStores [.Tuple [.Name x px,.Name y py] kt pt] (.Tuple [a,b] k2 pt2) X.env=pure (some [x,y]):=by rfl)
 (hs:swapsWithSole [.Tuple [.Name x px,.Name y py] kt pt] (.Tuple [a,b] k2 pt2) pos.line X.env=pure false:=by rfl) :
 VS X (.Assign [.Tuple [.Name x px,.Name y py] kt pt] (.Tuple [a,b] k2 pt2) pos) (wPar i j Wr) :=
 (zank hc hN hi hj hij hx hy ha hw hs).imp fun D σ H xx158=>by
  obtain ⟨M,env,F,DD,I,h,k⟩:=xx158
  refine ⟨M,env,F,_,I,h,fun ds vs F1 H1 e1 I1 s1 i1 h1=>?_⟩
  cases ds with
  | nil=>exact h1.elim
  | cons d r=>cases r with
   | nil=>exact h1.elim
   | cons d' r=>cases r with
    | cons _ _=>exact h1.elim
    | nil =>
     obtain ⟨v,w',rfl,j1,j2⟩:=iss2 i1
     exact ⟨v,w',rfl,k.nx _ F1 H1 _ ((I1.setv j1).setv j2) s1 h1⟩
end
end L2
namespace L2
open PySem PySem.Spec PyProof.Rows
section
variable {X:Cx}
theorem zabl (hc:X.calm=true):CallR X (.builtin "max") (fun xs H Q => ∃ (a:Addr) (ns:List Int),xs=[.ref a]∧SqL X.K H a (ns.map V.int)∧ns≠[] ∧ ∀ M,M ∈ ns→(∀ x ∈ ns,x≤M)→Q (.int M) H):=by
 intro pins s σ H xs us Q I r h
 obtain ⟨a,ns,rfl,ha,hn,q⟩:=h
 obtain ⟨u,rfl,rx⟩:=qju r
 cases rx
 obtain ⟨its,rv,pl,_⟩:=I.list ha
 have ii:IntsAre its ns:=qim rv
 obtain ⟨ys,ey⟩:=ii.allInts.items
 have en:ns=ys.toList.map (·.1):=by rw [← ii.numsOf,← nums_intItems,← ey]
 have ys0:0<ys.size:=by
  have z:=List.length_pos_iff.mpr hn
  rw [en,List.length_map,Array.length_toList] at z
  exact z
 have hl:=pl.isList
 rw [ey] at hl
 refine max_intList (I.ok.hd hc) hl ys0 fun v h' tk hv hk=>?_
 obtain ⟨t,rfl⟩:=intItems_at hv
 obtain ⟨_,h2⟩:=argBest_gt (numAt ys) (ys.size-1)
 refine ⟨.int _,H,I.kept (t':=tk) hk,⟨t,rfl⟩,q _ ?_ fun x hx=>?_⟩
 ·rw [en,numAt_eq];exact getD_mem (by rw [List.length_map,Array.length_toList];omega)
 ·rw [en] at hx
  obtain ⟨j,hj,rfl⟩:=mem_getD hx
  rw [List.length_map,Array.length_toList] at hj
  rw [← numAt_eq]
  exact h2 j (by omega)
def zaqw:DC
 | [.list l],q => ∃ ns:List Int,l=ns.map .int∧ns≠[] ∧ ∀ M,M ∈ ns→(∀ x ∈ ns,x≤M)→q (.int M)
 | _,_=>False
theorem zamn (hc:X.calm=true):qjg X (.builtin "max") zaqw:=(zabl hc).imp fun xs H Q xx159=>by
 obtain ⟨F,ds,q,s,i,h,k⟩:=xx159
 match ds,h,i with
 | [.list l],⟨ns,e,hn,hq⟩,i =>
  subst e
  obtain ⟨v,rfl,j⟩:=qjx i
  obtain ⟨a,xs,rfl,hs,hr⟩:=j.lst_inv
  have ex:=iss_ints' hr
  subst ex
  exact ⟨a,ns,rfl,s.seq hs,hn,fun M h1 h2=>k _ _ F H (.refl s) (qab _) (hq M h1 h2)⟩
end
end L2
namespace L2
open PySem PySem.Spec PyProof.Rows
section
variable {X:Cx}
end
end L2
namespace L2
open PySem PySem.Spec PyProof.Rows
section
variable {X:Cx}
end
section
variable {P:Program}{w:World}{K:PySem.W.Frag}{mg:Str→Option Value}{base:Heap}
end
end L2
namespace L2
open PySem PySem.Spec PyProof.Rows
section
variable {X:Cx}{elt target iter cnd:Expr}{scope:Scope}{pos:Pos}{caps own:List Str}{ix:List Nat}{wi:TI}{g:TG}{te:TE}{tt:TT}
end
section
variable {X:Cx}{elt target iter cnd:Expr}{scope:Scope}{pos py spos:Pos}{caps own:List Str}{ix:List Nat}{Wi:WF}{G:WG}{Wt:WT}{We:WE}{i:Nat}{y:Str}
end
end L2
namespace L2
open PySem PySem.Spec PyProof.Rows
section
variable {κ:Type} [DecidableEq κ]
def qms (kvs:List (κ×V)) (k:κ):Option V:=(kvs.find? fun kv=>decide (kv.1=k)).map (·.2)
def quu (kvs:List (κ×V)) (k:κ) (v:V):List (κ×V) :=
 if (kvs.any fun kv=>decide (kv.1=k))=true then kvs.map (fun kv=>if kv.1=k then (kv.1,v) else kv) else kvs++[(k,v)]
theorem qog {p:κ×V}{r:List (κ×V)}{k:κ} (e:p.1=k):qms (p::r) k=some p.2:=by simp [qms,List.find?_cons,e]
theorem qok {p:κ×V}{r:List (κ×V)}{k:κ} (e : ¬ p.1=k):qms (p::r) k=qms r k:=by simp [qms,List.find?_cons,e]
theorem qoi (k:κ) : ∀ kvs:List (κ×V),(kvs.any fun kv=>decide (kv.1=k))=(qms kvs k).isSome
 | []=>rfl
 | p::r=>by
  rw [List.any_cons]
  by_cases e:p.1=k
  ·simp only [qog e,decide_eq_true e,Bool.true_or,Option.isSome_some]
  ·rw [qok e,decide_eq_false e,Bool.false_or];exact qoi k r
theorem qtu (kvs:List (κ×V)) (k:κ) (v:V):(quu kvs k v).length≤kvs.length+1:=by
 unfold quu
 split
 ·rw [List.length_map];omega
 ·rw [List.length_append,List.length_cons,List.length_nil];omega
theorem zaes {kvs:List (κ×V)}{k:κ} (v:V) (h:qms kvs k=none):quu kvs k v=kvs++[(k,v)]:=by
 unfold quu
 rw [qoi,h]
 exact if_neg (by decide)
theorem RelO.isSome_eq {o:Option V}{u:Option Value} (r:RelO o u):o.isSome=u.isSome:=by
 cases o with
 | none=>cases u with
  | none=>rfl
  | some _=>exact (show False from r).elim
 | some _=>cases u with
  | none=>exact (show False from r).elim
  | some _=>rfl
end
theorem zaqx {P:Program}{w:World}{k:Key}{u:Value} (r:RelV (kV k) u):(qcj P w).is k u=true:=by
 cases k with
 | inl i=>obtain ⟨t,e⟩:=(show ∃ t,u=Value.int i t from r);subst e;exact qtw P w i t
 | inr x=>obtain ⟨t,e⟩:=(show ∃ t,u=Value.str x t from r);subst e;exact qtj P w x t
theorem qqh {P:Program}{w:World} : ∀ {ks:List Key}{us:List Value},Vals (ks.map kV) us→ItemsAre (qcj P w) ks us
 | [],_,r=>by rw [List.map_nil] at r;cases r;exact .nil
 | k::ks,_,r=>by
  rw [List.map_cons] at r
  cases r with
  | cons h t=>exact .cons (zaqx h) (qqh t)
abbrev KT (H:Hp):List (List Key×V)→List (List Key×Addr×Value)→Prop:=Paired fun p q=>p.1=q.1∧H q.2.1=some (.tup (p.1.map kV))∧RelV p.2 q.2.2
theorem KT.val {H:Hp}{kvs:List (List Key×V)}{xs:List (List Key×Addr×Value)} (r:KT H kvs xs) (k:List Key):RelO (qms kvs k) ((atKey xs k).map (·.2)):=by
 induction r with
 | nil=>exact True.intro
 | @cons p q ps qs h t ih =>
  obtain ⟨h1,_,h2⟩:=h
  by_cases e:p.1=k
  ·have e':q.1=k:=h1.symm.trans e
   have b:atKey (q::qs) k=some q.2:=by simp [atKey,List.find?_cons,e']
   rw [qog e,b];exact h2
  ·have e' : ¬ q.1=k:=fun z=>e (h1.trans z)
   have b:atKey (q::qs) k=atKey qs k:=by simp [atKey,List.find?_cons,e']
   rw [qok e,b];exact ih
theorem KT.repl {H:Hp}{kvs:List (List Key×V)}{xs:List (List Key×Addr×Value)} (r:KT H kvs xs) (k:List Key) {y:V}{u:Value} (ry:RelV y u) :
 KT H (kvs.map fun kv=>if kv.1=k then (kv.1,y) else kv) (xs.map (putAt k u)):=by
  induction r with
  | nil=>exact .nil
  | @cons p q ps qs h t ih =>
   rw [List.map_cons,List.map_cons]
   refine .cons ?_ ih
   obtain ⟨h1,h2,h3⟩:=h
   unfold putAt
   by_cases e:p.1=k
   ·rw [if_pos e,if_pos (h1.symm.trans e)];exact ⟨h1,h2,ry⟩
   ·rw [if_neg e,if_neg (fun z=>e (h1.trans z))];exact ⟨h1,h2,h3⟩
theorem KT.put {H:Hp}{kvs:List (List Key×V)}{xs:List (List Key×Addr×Value)} (r:KT H kvs xs) (k:List Key) {b:Addr}{y:V}{u:Value} (hb:H b=some (.tup (k.map kV))) (ry:RelV y u) :
 KT H (quu kvs k y) (storedH xs k b u):=by
  have e:(kvs.any fun kv=>decide (kv.1=k))=(atKey xs k).isSome:=by
   rw [qoi,(r.val k).isSome_eq,Option.isSome_map]
  unfold quu storedH
  rw [e]
  by_cases q:(atKey xs k).isSome=true
  ·rw [if_pos q,if_pos q];exact r.repl k ry
  ·rw [if_neg q,if_neg q];exact Paired.snoc r ⟨rfl,hb,ry⟩
theorem KT.keeps {H H':Hp}{kvs:List (List Key×V)}{xs:List (List Key×Addr×Value)} (r:KT H kvs xs) (ht : ∀ b ys,H b=some (.tup ys)→H' b=some (.tup ys)):KT H' kvs xs :=
 Paired.mapP r fun _ _ z=>⟨z.1,ht _ _ z.2.1,z.2.2⟩
section
variable {P:Program}{w:World}{H:Hp}{h:Heap}{a:Addr}
theorem zals {u:HO} (ok:HOk P w H h) (e:Rd H a u):ObjOk P w H h a u:=e.ok ok
theorem zaqn {kvs:List (Key×V)} (ok:HOk P w H h) (e:Rd H a (.dK kvs)):kvs.length≤sizeLine∧(a==sysModules)=false ∧ ∃ vs,KV kvs vs∧h.DictOf (qcj P w) a vs :=
 show ObjOk P w H h a (.dK kvs) from zals ok e
theorem zahm {ks:List Key} (ok:HOk P w H h) (e:H a=some (.tup (ks.map kV))):(tupleKind (qcj P w)).is h ks a:=by
 obtain ⟨_,its,r,o,h1,h2,n,h3⟩:=(show ObjOk P w H h a (.tup (ks.map kV)) from ok a _ e)
 exact ⟨o,its.toArray,n,h1,h2,h3,by simpa using qqh r⟩
theorem zama {kvs:List (List Key×V)} (ok:HOk P w H h) (e:Rd H a (.dT kvs)):kvs.length≤sizeLine∧(a==sysModules)=false ∧
 ∃ xs,KT H kvs xs∧h.DictOfH (tupleKind (qcj P w)) a xs:=by
  obtain ⟨z,y,xs,r,o,es,ep,h1,h2,h3,h4,h5⟩:=(show ObjOk P w H h a (.dT kvs) from zals ok e)
  refine ⟨z,y,xs,r,o,es,ep,h1,h2,h3,h4,fun x hx=>?_,h5⟩
  have all : ∀ {l:List (List Key×V)}{m:List (List Key×Addr×Value)},KT H l m → ∀ x ∈ m,(tupleKind (qcj P w)).is h x.1 x.2.1:=by
   intro l m q
   induction q with
   | nil=>intro x hx;exact nomatch hx
   | @cons p q ps qs hq t ih =>
    intro x hx
    rcases List.mem_cons.mp hx with e|hx
    ·subst e
     exact zahm ok (by rw [← hq.1];exact hq.2.1)
    ·exact ih x hx
  exact all r x hx
theorem zahs {kvs:List (List Key×V)} (ok:HOk P w H h) (e:H a=some (.dT kvs)):kvs.length≤sizeLine∧(a==sysModules)=false ∧
 ∃ xs,KT H kvs xs∧h.DictOfH (tupleKind (qcj P w)) a xs:=zama ok (.inl e)
end
section
variable {X:Cx}{pins:List (Addr×Obj)}{σ:St}{H:Hp}{s:Shared}{a:Addr}{y v:V}{u r:Value}{o:Option V}{A:Around}{E:Value→Shared→Prop}
theorem Inv.big (I:Inv X pins σ H s):sysModules<s.heap.objs.size:=by
 have h:mainGlobals<s.heap.objs.size:=(I.mod.glob.keeps I.bk).lt
 exact Nat.lt_trans (by decide) h
theorem zajf {h':Heap}{t':Nat}{ob:HO} (I:Inv X pins σ H s) (mu:Mut (H a)) (hs:Heap.SameBut a s.heap h') (he : ∃ q,h'.get? a=some q) (new:ObjOk X.prog X.w (upd H a ob) h' a ob) :
 Inv X pins σ (upd H a ob) { s with heap:=h',toks:=t' } :=
  I.write (x:=a) (e:=a) mu (.inl rfl) (fun b q hb z=>(hs.2 b hb).trans z) he new
end
section
variable {X:Cx}{pins:List (Addr×Obj)}{σ:St}{H:Hp}{s:Shared}{a:Addr}{kvs:List (Key×V)}{k:Key}{u:Value}{A:Around}{E:Value→Shared→Prop}
end
section
variable {X:Cx}{o i e value:Expr}{pos pos' tpos:Pos}{td ty tv:TE}
end
theorem zaeo {P:Program}{w:World}{H:Hp} (h:Heap) (hb:sysModules<h.objs.size):ObjOk P w H (h.push { cls :=.type "dict",data :=.dict #[] }) h.objs.size (.dT []) :=
 ⟨Nat.zero_le _,beq_eq_false_iff_ne.mpr (Ne.symm (Nat.ne_of_lt hb)),[],.nil,_,#[],0,Heap.get?_push_size _ rfl,⟨rfl,rfl,rfl⟩,rfl,rfl,List.nodup_nil⟩
def zanr:TE:=fun _ H Q => ∀ p,H p=none→Q (.ref p) (upd H p (.dT []))
section
variable {X:Cx}{pos:Pos}
theorem zadr:PE X (.Dict [] [] pos) zanr:=fun pins s σ H Q I h =>
 wpAny_Dict_empty ⟨.ref s.heap.objs.size,_,I.laid (a:=s.heap.objs.size) (o :=.dT []) (t':=s.toks) (fun _ _ q=>Heap.get?_push_of_some _ q) (Nat.le_refl _) (zaeo s.heap I.big),rfl,h _ (I.hok.fresh (Nat.le_refl _))⟩
end
structure M2 (X:Cx) (o:Expr) (m:Str) (apos:Pos) (e f:Expr) (cpos:Pos):Prop where
 base:attributeBase o m X.env (eval o X.env)=eval o X.env
 few:((backTo cpos (starEach [e,f] X.env)).all (fun x => !x.1)&&(backToKw cpos (keywordEach [] X.env)).all (fun x=>x.1.isSome)
  && decide (([e,f]:List Expr).length+([]:List Keyword).length+(if ([]:List Keyword).isEmpty then 0 else 1)<30))=true
 line:(apos.endLine==cpos.line)=true
 trees:backTo cpos (starEach [e,f] X.env)=[(false,eval e X.env),(false,eval f X.env)]
def IsD (H:Hp) (a:Addr):Prop:=(∃ kvs,Rd H a (.dK kvs)) ∨ ∃ kvs,Rd H a (.dT kvs)
theorem zahq {X:Cx}{pins:List (Addr×Obj)}{σ:St}{H:Hp}{s:Shared}{a:Addr} (I:Inv X pins σ H s) (d:IsD H a) :
 s.TypeIs (.ref a) "dict" ∧ (∀ b,Value.ref a = .ref b → ∃ ob,s.heap.get? b=some ob∧ob.dict=none)∧(a==sysModules)=false:=by
  rcases d with ⟨kvs,e⟩|⟨kvs,e⟩
  ·obtain ⟨_,hd,vs,_,dd⟩:=zaqn I.hok e
   refine ⟨dd.typeIs,fun b q=>?_,hd⟩
   cases q
   obtain ⟨ob,_,_,h1,h2,_⟩:=dd
   exact ⟨ob,h1,h2.2.1⟩
  ·obtain ⟨_,hd,xs,_,dd⟩:=zama I.hok e
   refine ⟨dd.typeIs,fun b q=>?_,hd⟩
   cases q
   obtain ⟨ob,_,_,h1,h2,_⟩:=dd
   exact ⟨ob,h1,h2.2.1⟩
section
variable {X:Cx}{pins:List (Addr×Obj)}{σ:St}{H:Hp}{s:Shared}{a:Addr}{y d:V}{u r:Value}{o:Option V}{A:Around}{E:Value→Shared→Prop}
end
section
variable {X:Cx}{o e f:Expr}{apos cpos:Pos}{td ty tx:TE}
end
end L2
namespace L2
open PySem PySem.Spec PyProof.Rows
section
variable {X:Cx}
end
end L2
namespace L2
open PySem PySem.Spec PyProof.Rows
section
variable {P:Program}{w:World}{K:PySem.W.Frag}{mg:Str→Option Value}{base:Heap}
end
section
variable {X:Cx}
end
end L2
namespace L2
open PySem PySem.Spec PyProof.Rows
section
variable {X:Cx}
theorem VE.pe {e:Expr}{W:WE} (h:VE X e W):PE X e (qcw X.K W):=h
theorem VT.pt {e:Expr}{W:WT} (h:VT X e W):PT X e (qta X.K W):=h
theorem VSs.pss {st:List Stmt}{W:WS} (h:VSs X st W):PSs X st (zacv X.K W):=h
end
mutual
def qso:PyData→Bool
 | .list _=>false
 | .dict _=>false
 | .tuple l=>qpe l
 | _=>true
def qpe:List PyData→Bool
 | []=>true
 | d::l=>qso d&&qpe l
end
mutual
theorem Is.off {K:PySem.W.Frag}{F:Hp}{a:Addr}{xs:List V} (hF:F a=some (.lst xs)) : ∀ {d:PyData}{v:V},qso d=true→Is K F d v→Is K (qcu F a) d v
 | .none,_,_,h=>by unfold Is at h ⊢;exact h
 | .bool _,_,_,h=>by unfold Is at h ⊢;exact h
 | .int _,_,_,h=>by unfold Is at h ⊢;exact h
 | .str _,_,_,h=>by unfold Is at h ⊢;exact h
 | .list l,_,z,h=>by simp [qso] at z
 | .dict l,_,z,h=>by simp [qso] at z
 | .tuple l,_,z,h=>by
  unfold Is at h ⊢
  obtain ⟨b,ys,e,q,r⟩:=h
  refine ⟨b,ys,e,?_,Iss.off hF (by simpa [qso] using z) r⟩
  rcases q with q|q
  ·refine .inl ?_
   rcases q with q|⟨o,q⟩
   ·refine .inl ?_
    unfold qcu
    rw [if_neg (fun y=>by subst y;rw [hF] at q;cases q)];exact q
   ·refine .inr ⟨o,?_⟩
    unfold qcu
    rw [if_neg (fun y=>by subst y;rw [hF] at q;cases q)];exact q
  ·exact .inr q
theorem Iss.off {K:PySem.W.Frag}{F:Hp}{a:Addr}{xs:List V} (hF:F a=some (.lst xs)) : ∀ {l:List PyData}{vs:List V},qpe l=true→Iss K F l vs→Iss K (qcu F a) l vs
 | [],_,_,h=>by unfold Iss at h ⊢;exact h
 | d::l,_,z,h=>by
  unfold Iss at h ⊢
  obtain ⟨x,r,e,p,q⟩:=h
  have z':qso d=true∧qpe l=true:=by simpa [qpe] using z
  exact ⟨x,r,e,Is.off hF z'.1 p,Iss.off hF z'.2 q⟩
end
section
variable {X:Cx}
end
end L2
namespace L2
open PySem PySem.Spec PyProof.Rows
theorem qzt {F H F' H':Hp}{a:Addr}{o:HO} (g:Go F H F' H') (h:H a=some o) (f:F a=none):F' a=none:=by
 cases e:F' a with
 | none=>rfl
 | some u =>
  rcases g.new a u e with q|q
  ·rw [f] at q;cases q
  ·rw [h] at q;cases q
section
variable {K:PySem.W.Frag}{M:Frm}{F H:Hp}
def Slots (K:PySem.W.Frag) (M:Frm) (F H:Hp):Sto→St→Prop
 | [],σ=>σ=[]
 | s::e,σ => ∃ x r,σ=x::r∧(SlotOk K M F H s x∧s.mut=false)∧Slots K M F H e r
theorem Slots.len : ∀ {e:Sto}{σ:St},Slots K M F H e σ→e.length=σ.length
 | [],σ,h=>by
  have h:σ=[]:=h
  subst h;rfl
 | s::e,σ,h=>by
  obtain ⟨x,r,rfl,_,h⟩:=h
  rw [List.length_cons,List.length_cons,Slots.len h]
theorem Slots.at : ∀ {e:Sto}{σ:St},Slots K M F H e σ → ∀ i,SlotOk K M F H (gS e i) (vS σ i)∧(gS e i).mut=false
 | [],σ,h,i=>by
  rw [qxr (Nat.zero_le _)]
  exact ⟨trivial,rfl⟩
 | s::e,σ,h,0=>by
  obtain ⟨x,r,rfl,q,h⟩:=h
  exact q
 | s::e,σ,h,i+1=>by
  obtain ⟨x,r,rfl,q,h⟩:=h
  have e1:vS (x::r) (i+1)=vS r i:=by unfold vS;rw [List.getElem?_cons_succ]
  rw [e1]
  exact Slots.at h i
theorem qoy {env:Sto}{σ:St} (s:Same F H) (h:Slots K ⟨H,H,F⟩ F H env σ):EnvOk K ⟨H,H,F⟩ F H env σ where
 len:=h.len
 slot:=fun i=>(h.at i).1
 dis:=fun i j a _ m _ _ _=>by rw [(h.at i).2] at m;cases m
 f0 :=.refl _
 fe:=s
 fh:=s
 bh :=.refl _
 new:=fun b o e => .inl e
 dom:=fun b o e=>⟨o,e⟩
end
section
variable {X:Cx}
theorem VN.pe {e:Expr}{W:WE} (h:VN X e W):PE X e (zacp X.K W):=h
end
section
variable {X:Cx}
end
end L2
namespace L2
open PySem PySem.Spec PyProof.Rows
section
variable {X:Cx}
theorem VI.pi {tg e:Expr}{W:WF} (h:VI X tg e W):PI X tg e (qlt X.K W):=h
end
end L2
namespace L2
open PySem PySem.Spec PyProof.Rows
section
variable {X:Cx}
end
end L2
namespace L2
open PySem PySem.Spec PyProof.Rows
section
variable {X:Cx}{e:Expr}{We:WE}{pos:Pos}
end
end L2
namespace L2
open PySem PySem.Spec PyProof.Rows
section
variable {X:Cx}
end
end L2
namespace L2
open PySem PySem.Spec PyProof.Rows
section
variable {X:Cx}{pos:Pos}
end
end L2
namespace L2
open PySem PySem.Spec PyProof.Rows
mutual
def qvx:PyData→Bool
 | .list _=>false
 | .dict _=>false
 | .tuple l=>qsu l
 | _=>true
def qsu:List PyData→Bool
 | []=>true
 | d::l=>qvx d&&qsu l
end
mutual
theorem zamz {K:PySem.W.Frag}{F:Hp}{a:Addr}{vs:List V} (h:F a=some (.lst vs)) : ∀ {d:PyData}{v:V},qvx d=true→Is K F d v→Is K (qcu F a) d v
 | .none,_,_,i=>by unfold Is at i ⊢;exact i
 | .bool _,_,_,i=>by unfold Is at i ⊢;exact i
 | .int _,_,_,i=>by unfold Is at i ⊢;exact i
 | .str _,_,_,i=>by unfold Is at i ⊢;exact i
 | .list l,_,z,_=>by unfold qvx at z;cases z
 | .dict l,_,z,_=>by unfold qvx at z;cases z
 | .tuple l,_,z,i=>by
  unfold qvx at z
  unfold Is at i ⊢
  obtain ⟨b,xs,e,q,r⟩:=i
  refine ⟨b,xs,e,?_,qyp h z r⟩
  rcases q with (q|⟨o,q⟩)|q
  ·exact .inl (.inl (by unfold qcu;rw [if_neg (fun c=>by rw [c,h] at q;cases q)];exact q))
  ·exact .inl (.inr ⟨o,by unfold qcu;rw [if_neg (fun c=>by rw [c,h] at q;cases q)];exact q⟩)
  ·exact .inr q
theorem qyp {K:PySem.W.Frag}{F:Hp}{a:Addr}{vs:List V} (h:F a=some (.lst vs)) : ∀ {l:List PyData}{xs:List V},qsu l=true→Iss K F l xs→Iss K (qcu F a) l xs
 | [],_,_,i=>by unfold Iss at i ⊢;exact i
 | d::l,_,z,i=>by
  unfold qsu at z
  rw [Bool.and_eq_true] at z
  unfold Iss at i ⊢
  obtain ⟨x,r,e,p,q⟩:=i
  exact ⟨x,r,e,zamz h z.1 p,qyp h z.2 q⟩
end
section
variable {X:Cx}
end
end L2
namespace L2
open PySem PySem.Spec PyProof.Rows
section
variable {X:Cx}{Ex:St→XK}{a b:Expr}{rest:List Expr}{pos:Pos}{Wa Wx2:WX→WE}{Wb:WE}
end
end L2
namespace L2
open PySem PySem.Spec PyProof.Rows
section
variable {X:Cx}
theorem boot_any:bootBuiltins "any" = some (.builtin "any"):=by decide +kernel
end
section
variable {X:Cx}{elt target iter cnd:Expr}{scope:Scope}{pos py spos:Pos}{caps own:List Str}{ix:List Nat}{Wi:WF}{G:WG}{Wt:WT}{We:WE}{i:Nat}{y:Str}
end
end L2
namespace L2
open PySem PySem.Spec PyProof.Rows
section
variable {X:Cx}{b:Expr}{Wb:WE}{pos px:Pos}
end
end L2
namespace L2
open PySem PySem.Spec PyProof.Rows
section
variable {X:Cx}{Ex:St→XK}{pos:Pos}{Wt:WX→WS}
end
end L2
namespace L2
open PySem PySem.Spec PyProof.Rows PySem.W
structure OrdN (n:Nat) (lt:Nat→Nat→Bool):Prop where
 irr : ∀ i,lt i i=false
 tr : ∀ i j k,i<n→j<n→k<n→lt i j=true→lt j k=true→lt i k=true
 tot : ∀ i j,i<n→j<n→i≠j→lt i j=true∨lt j i=true
structure PmN (n:Nat) (p:Array Nat):Prop where
 s:p.size=n
 p:p.toList.Perm (List.range n)
section
variable {n:Nat}{lt:Nat→Nat→Bool}{p:Array Nat}
theorem PmN.get (h:PmN n p) {k:Nat} (hk:k<n):p[k]?=some (p.getD k 0):=by
 have:k<p.size:=by rw [h.s];exact hk
 rw [Array.getElem?_eq_getElem this]
 simp [Array.getD,this]
theorem PmN.bd (h:PmN n p) {k:Nat} (hk:k<n):p.getD k 0<n:=by
 have e:=h.get hk
 have:p.getD k 0 ∈ p.toList:=by
  rw [← Array.getElem?_toList] at e
  exact List.mem_of_getElem? e
 exact List.mem_range.mp (h.p.mem_iff.mp this)
theorem PmN.inj (h:PmN n p) {i j:Nat} (hi:i<n) (hj:j<n) (ne:i≠j):p.getD i 0≠p.getD j 0:=fun z=>by
 have nd:p.toList.Nodup:=(h.p.nodup_iff).mpr List.nodup_range
 have e1:=h.get hi
 have e2:=h.get hj
 rw [← Array.getElem?_toList] at e1 e2
 rw [z] at e1
 have l1:i<p.toList.length:=by rw [Array.length_toList,h.s];exact hi
 exact ne ((List.getElem?_inj l1 nd).mp (by rw [e1,e2]))
theorem PmN.of (h:PmN n p) {q:Array Nat} (hq:q.Perm p):PmN n q:=by
 have e:=Array.perm_iff_toList_perm.mp hq
 refine ⟨?_,e.trans h.p⟩
 rw [← h.s]
 have:=e.length_eq
 rw [Array.length_toList,Array.length_toList] at this
 exact this
def SrtN (lt:Nat→Nat→Bool) (p:Array Nat) (m:Nat):Prop := ∀ k,1≤k→k<m→lt (p.getD (k-1) 0) (p.getD k 0)=true
def DscN (lt:Nat→Nat→Bool) (p:Array Nat) (m:Nat):Prop := ∀ k,1≤k→k<m→lt (p.getD k 0) (p.getD (k-1) 0)=true
theorem SrtN.pair (o:OrdN n lt) (h:PmN n p) {m:Nat} (hm:m≤n) (s:SrtN lt p m) {i:Nat} : ∀ (d:Nat),i+d+1<m→lt (p.getD i 0) (p.getD (i+d+1) 0)=true
 | 0,hd=>by have:=s (i+1) (by omega) (by omega);exact this
 | d+1,hd=>by
  have a:=SrtN.pair o h hm s (i:=i) d (by omega)
  have b:=s (i+d+2) (by omega) (by omega)
  exact o.tr _ _ _ (h.bd (by omega)) (h.bd (by omega)) (h.bd (by omega)) a b
theorem SrtN.lt2 (o:OrdN n lt) (h:PmN n p) {m:Nat} (hm:m≤n) (s:SrtN lt p m) {i j:Nat} (hij:i<j) (hj:j<m):lt (p.getD i 0) (p.getD j 0)=true:=by
 have:=SrtN.pair o h hm s (i:=i) (j-i-1) (by omega)
 rw [show i+(j-i-1)+1=j by omega] at this
 exact this
theorem OrdN.flip (o:OrdN n lt) {i j:Nat} (hi:i<n) (hj:j<n) (ne:i≠j) (a:lt i j=false):lt j i=true:=by
 rcases o.tot i j hi hj ne with z|z
 ·rw [a] at z;cases z
 ·exact z
theorem qys {m k:Nat} (h:PmN n p) (hm:m≤n) (hk:k<n):(kas_rev p 0 m).getD k 0=if k<m then p.getD (m-1-k) 0 else p.getD k 0:=by
 have hz:(kas_rev p 0 m).size=n:=by unfold kas_rev;rw [mirror_size];exact h.s
 have e:(kas_rev p 0 m)[k]?=some ((kas_rev p 0 m).getD k 0):=by
  have:k<(kas_rev p 0 m).size:=by rw [hz];exact hk
  rw [Array.getElem?_eq_getElem this]
  simp [Array.getD,this]
 have e2:=getElem?_mirror_all (xs:=p) (i:=0) (j:=m) (by rw [h.s];exact hm) k
 have e3:(kas_rev p 0 m)[k]?=if 0≤k∧k<m then p[0+m-1-k]? else p[k]?:=e2
 rw [e] at e3
 by_cases q:k<m
 ·rw [if_pos ⟨Nat.zero_le _,q⟩,show 0+m-1-k=m-1-k by omega,h.get (show m-1-k<n by omega)] at e3
  rw [if_pos q]
  exact Option.some.inj e3
 ·rw [if_neg (by omega),h.get hk] at e3
  rw [if_neg q]
  exact Option.some.inj e3
theorem zahd {m:Nat} (h:PmN n p):PmN n (kas_rev p 0 m):=h.of (mirror_perm _ _ _ _)
theorem zako {m:Nat} (h:PmN n p) (hm:m≤n) (d:DscN lt p m):SrtN lt (kas_rev p 0 m) m:=fun k h1 h2=>by
 rw [qys h hm (by omega),qys h hm (by omega),if_pos (by omega),if_pos h2]
 have:=d (m-k) (by omega) (by omega)
 rw [show m-1-(k-1)=m-k by omega,show m-1-k=m-k-1 by omega]
 exact this
end
section
variable {n:Nat}{lt:Nat→Nat→Bool}{cmp:Nat→Nat→(Bool→Shared→Prop)→Shared→Prop}{s:Shared}
theorem qxm (o:OrdN n lt) (hc : ∀ i j C,i<n→j<n→C (lt i j) s→cmp i j C s) {p:Array Nat} (h:PmN n p) {Q:Nat→Shared→Prop} : ∀ (f a:Nat),1≤a→a+f≤n→SrtN lt p a→(∀ m,a≤m→m≤a+f→SrtN lt p m→(m<a+f→lt (p.getD m 0) (p.getD (m-1) 0)=true)→Q m s)→(kas_asc p f a).kasWp cmp Q s
 | 0,a,h1,h2,hS,k=>k a (Nat.le_refl _) (by omega) hS (by omega)
 | f+1,a,h1,h2,hS,k=>by
  refine hc _ _ _ (h.bd (by omega)) (h.bd (by omega)) ?_
  cases e:lt (p.getD a 0) (p.getD (a-1) 0) with
  | true=>exact k a (Nat.le_refl _) (by omega) hS (fun _=>e)
  | false =>
   show (kas_asc p f (a+1)).kasWp cmp Q s
   refine qxm o hc h f (a+1) (by omega) (by omega) (fun k' q1 q2=>?_) fun m m1 m2 m3 m4=>k m (by omega) (by omega) m3 (fun z=>m4 (by omega))
   by_cases z:k'<a
   ·exact hS k' q1 z
   ·have:k'=a:=by omega
    subst this
    exact o.flip (h.bd (by omega)) (h.bd (by omega)) (h.inj (by omega) (by omega) (by omega)) e
theorem qzy (o:OrdN n lt) (hc : ∀ i j C,i<n→j<n→C (lt i j) s→cmp i j C s) {p:Array Nat} (h:PmN n p) {Q:Array Nat×Nat×Nat→Shared→Prop} : ∀ (f a:Nat),1≤a→a+f≤n→DscN lt p a→(∀ m,a≤m→m≤a+f→DscN lt p m→Q (p,m,0) s)→(kas_desc f p a 0).kasWp cmp Q s
 | 0,a,h1,h2,hS,k=>k a (Nat.le_refl _) (by omega) hS
 | f+1,a,h1,h2,hS,k=>by
  refine hc _ _ _ (h.bd (by omega)) (h.bd (by omega)) ?_
  cases e:lt (p.getD a 0) (p.getD (a-1) 0) with
  | true =>
   show (kas_desc f p (a+1) 0).kasWp cmp Q s
   refine qzy o hc h f (a+1) (by omega) (by omega) (fun k' q1 q2=>?_) fun m m1 m2 m3=>k m (by omega) (by omega) m3
   by_cases z:k'<a
   ·exact hS k' q1 z
   ·have:k'=a:=by omega
    subst this
    exact e
  | false =>
   refine hc _ _ _ (h.bd (by omega)) (h.bd (by omega)) ?_
   rw [o.flip (h.bd (by omega)) (h.bd (by omega)) (h.inj (by omega) (by omega) (by omega)) e]
   exact k a (Nat.le_refl _) (by omega) hS
theorem zaka (o:OrdN n lt) (hc : ∀ i j C,i<n→j<n→C (lt i j) s→cmp i j C s) {p:Array Nat} (h:PmN n p) {Q:Nat×Array Nat→Shared→Prop}{m:Nat} (h1:1≤m) (hm:m≤n) (d:DscN lt p m) (k : ∀ m' p',m'≤n→PmN n p'→SrtN lt p' m'→Q (m',p') s):(kas_tail3 m n p).kasWp cmp Q s:=by
 unfold kas_tail3
 rw [KasT.kasWp_bind]
 exact qxm o hc (zahd h) _ _ h1 (by omega) (zako h hm d) fun m' q1 q2 q3 _=>k m' _ (by omega) (zahd h) q3
theorem zaef (o:OrdN n lt) (hc : ∀ i j C,i<n→j<n→C (lt i j) s→cmp i j C s) {p:Array Nat} (h:PmN n p) (hn:2≤n) {Q:Nat×Array Nat→Shared→Prop} (k : ∀ m' p',m'≤n→PmN n p'→SrtN lt p' m'→Q (m',p') s):(kas_count n p).kasWp cmp Q s:=by
 unfold kas_count
 rw [KasT.kasWp_bind]
 refine qxm o hc h _ 1 (Nat.le_refl _) (by omega) (fun k' q1 q2=>by omega) fun m m1 m2 m3 m4=>?_
 by_cases e:m=n
 ·subst e
  rw [if_pos (beq_self_eq_true m)]
  exact k m p (Nat.le_refl _) h m3
 ·rw [if_neg (by simpa using e)]
  by_cases g:m>1
  ·rw [if_pos g]
   refine hc _ _ _ (h.bd (by omega)) (h.bd (by omega)) ?_
   rw [m3.lt2 o h (show m≤n by omega) (show 0<m-1 by omega) (by omega)]
   exact k m p (by omega) h m3
  ·rw [if_neg g]
   have e1:m=1:=by omega
   subst e1
   unfold kas_descPart
   rw [KasT.kasWp_bind]
   have d2:DscN lt p 2:=fun k' q1 q2=>by
    have:k'=1:=by omega
    subst this
    exact m4 (by omega)
   exact qzy o hc h (n-2) 2 (by omega) (by omega) d2 fun m' q1 q2 q3=>show (kas_tail3 m' n p).kasWp cmp Q s from zaka o hc h (by omega) (by omega) q3 k
theorem qor (o:OrdN n lt) (hc : ∀ i j C,i<n→j<n→C (lt i j) s→cmp i j C s) {p:Array Nat} (h:PmN n p) {Q:Nat→Shared→Prop}{k:Nat} (hk:k<n) (hS:SrtN lt p k)
 (q : ∀ l,l≤k→(∀ i,i<l→lt (p.getD i 0) (p.getD k 0)=true)→(∀ i,l≤i→i<k→lt (p.getD k 0) (p.getD i 0)=true)→Q l s) : ∀ (f l r:Nat),l≤r→r≤k→r-l≤f→(∀ i,i<l→lt (p.getD i 0) (p.getD k 0)=true)→(∀ i,r≤i→i<k→lt (p.getD k 0) (p.getD i 0)=true)→(kas_place p k f l r).kasWp cmp Q s
  | 0,l,r,h1,h2,h3,h4,h5=>q l (by omega) h4 (fun i a b=>h5 i (by omega) b)
  | f+1,l,r,h1,h2,h3,h4,h5=>by
   unfold kas_place
   by_cases z:l≥r
   ·rw [if_pos z];exact q l (by omega) h4 (fun i a b=>h5 i (by omega) b)
   ·rw [if_neg z]
    have c1:(l+r)/2<k:=by omega
    refine hc _ _ _ (h.bd hk) (h.bd (by omega)) ?_
    cases e:lt (p.getD k 0) (p.getD ((l+r)/2) 0) with
    | true =>
     show (kas_place p k f l ((l+r)/2)).kasWp cmp Q s
     refine qor o hc h hk hS q f l _ (by omega) (by omega) (by omega) h4 fun i a b=>?_
     by_cases z:i=(l+r)/2
     ·rw [z];exact e
     ·exact o.tr _ _ _ (h.bd hk) (h.bd (by omega)) (h.bd (by omega)) e (hS.lt2 o h (by omega) (show (l+r)/2<i by omega) b)
    | false =>
     show (kas_place p k f ((l+r)/2+1) r).kasWp cmp Q s
     have e':=o.flip (h.bd hk) (h.bd (show (l+r)/2<n by omega)) (h.inj hk (by omega) (by omega)) e
     refine qor o hc h hk hS q f _ r (by omega) h2 (by omega) (fun i a=>?_) h5
     by_cases z:i=(l+r)/2
     ·rw [z];exact e'
     ·exact o.tr _ _ _ (h.bd (by omega)) (h.bd (by omega)) (h.bd hk) (hS.lt2 o h (by omega) (show i<(l+r)/2 by omega) c1) e'
theorem qzq {p:Array Nat} (h:PmN n p) {k l i:Nat} (hk:k<n) (hl:l≤k) (hi:i<n):(bubble p k (k-l)).getD i 0=if i=l then p.getD k 0 else if l<i∧i≤k then p.getD (i-1) 0 else p.getD i 0:=by
 have hz:(bubble p k (k-l)).size=n:=by rw [bubble_size];exact h.s
 have e:(bubble p k (k-l))[i]?=some ((bubble p k (k-l)).getD i 0):=by
  have:i<(bubble p k (k-l)).size:=by rw [hz];exact hi
  rw [Array.getElem?_eq_getElem this]
  simp [Array.getD,this]
 have e2:=getElem?_bubble (xs:=p) (src:=k) (by rw [h.s];exact hk) (k-l) (by omega) i
 rw [e,show k-(k-l)=l by omega] at e2
 by_cases q1:i=l
 ·rw [if_pos q1,h.get hk] at e2
  rw [if_pos q1];exact Option.some.inj e2
 ·rw [if_neg q1] at e2
  rw [if_neg q1]
  by_cases q2:l<i∧i≤k
  ·rw [if_pos q2,h.get (show i-1<n by omega)] at e2
   rw [if_pos q2];exact Option.some.inj e2
  ·rw [if_neg q2,h.get hi] at e2
   rw [if_neg q2];exact Option.some.inj e2
theorem zahg (o:OrdN n lt) (hc : ∀ i j C,i<n→j<n→C (lt i j) s→cmp i j C s) {Q:Array Nat→Shared→Prop} (q : ∀ p,PmN n p→SrtN lt p n→Q p s) : ∀ (f:Nat) (p:Array Nat) (k:Nat),PmN n p→1≤k→k+f=n→SrtN lt p k→(kas_bin f p k).kasWp cmp Q s
 | 0,p,k,h,_,e,hS=>by
  have:k=n:=by omega
  subst this
  exact q p h hS
 | f+1,p,k,h,h1,e,hS=>by
  unfold kas_bin
  rw [KasT.kasWp_bind]
  have hk:k<n:=by omega
  refine qor o hc h hk hS (fun l hl a b=>?_) k 0 k (Nat.zero_le _) (Nat.le_refl _) (by omega) (fun i z=>by omega) (fun i z1 z2=>by omega)
  refine zahg o hc q f _ (k+1) (h.of (bubble_perm _ _ _)) (by omega) (by omega) fun i i1 i2=>?_
  rw [qzq h hk hl (show i-1<n by omega),qzq h hk hl (show i<n by omega)]
  by_cases c1:i<l
  ·rw [if_neg (by omega),if_neg (by omega),if_neg (by omega),if_neg (by omega)]
   exact hS i i1 (by omega)
  ·by_cases c2:i=l
   ·rw [if_neg (by omega),if_neg (by omega),if_pos c2]
    exact a (i-1) (by omega)
   ·by_cases c3:i-1=l
    ·rw [if_pos c3,if_neg c2,if_pos ⟨by omega,by omega⟩]
     exact b (i-1) (by omega) (by omega)
    ·rw [if_neg c3,if_pos ⟨by omega,by omega⟩,if_neg c2,if_pos ⟨by omega,by omega⟩]
     exact hS (i-1) (by omega) (by omega)
theorem zaju (o:OrdN n lt) (hc : ∀ i j C,i<n→j<n→C (lt i j) s→cmp i j C s) (hn:2≤n) {Q:Array Nat→Shared→Prop} (q : ∀ p,PmN n p→SrtN lt p n→Q p s):(kas_sort n).kasWp cmp Q s:=by
 unfold kas_sort
 rw [KasT.kasWp_bind]
 have h0:PmN n (List.toArray (List.range n)):=⟨by simp,by simp⟩
 refine zaef o hc h0 hn fun m p h1 hp hS=>?_
 show ((if m<n then kas_bin (n-max m 1) p (max m 1) else .ret p).kasWp cmp Q s)
 by_cases z:m<n
 ·rw [if_pos z]
  refine zahg o hc q _ p _ hp (by omega) (by omega) fun k k1 k2=>hS k k1 (by omega)
 ·rw [if_neg z]
  have:m=n:=by omega
  subst this
  exact q p hp hS
end
end L2
namespace L2
open PySem PySem.Spec PyProof.Rows PySem.W
section
variable {prog:Program}{w:World}{A:Around}{R:Result→Shared→Prop}{s:Shared}
theorem zacj {a c:Addr}{args:Args}{o oc:Obj}{fd:FuncData}{body:Expr}{vs:Array Value}{q:Str}{t:Tok} (room:A.depth<recursionLimit) (h1:s.heap.get? a=some o) (h2:o.data = .func fd) (h3:fd.scope.isCoroutine=false) (h4:fd.scope.isGenerator=false)
 (h5:fd.body = .expr body) (h6:fd.code = .ref c) (h7:s.heap.get? c=some oc) (h8:oc.data = .fields vs) (h9:vs[1]?=some (.str q t))
 (k:wpAny (model prog w) A.in1 (bindArgs fd args) (fun bs s1=>wpAny (model prog w) A.in1 (newFunctionEnv fd.scope fd.globals fd.closure bs (q ++ ".<locals>.") (some a) (.ref c) none fd.builtins)
 (fun env s2=>s2.heap.NoLimit∧codeAny (model prog w) A (.expr body env) R s2) (fun e s'=>R (.error e) s') s1) (fun e s'=>R (.error e) s') s):codeAny (model prog w) A (.call (.ref a) args) R s:=by
  apply codeAny_of_tree
  have go:wpAny (model prog w) A.in1 (callAny (.ref a) args) (fun r s'=>match r with | .done f=>R (.ok f) s' | .again c'=>c'.quiet=true∧codeAny (model prog w) A c' R s') (fun e s'=>R (.error e) s') s:=by
   simp only [callAny]
   refine wpAny_bind (wpAny_load h1 ?_)
   simp only [h2,callFunction,h3,h4,h5,h6]
   refine wpAny_bind (m:=field (.ref c) 1) (wpAny_field h7 h8 h9 (wpAny_bind (wpAny_pure ?_)))
   refine wpAny_bind (wpAny_mono k (fun bs s1 k1=>?_) fun _ _ z=>z)
   refine wpAny_bind (wpAny_mono k1 (fun env s2 k2=>?_) fun _ _ z=>z)
   exact wpAny_bind (wpAny_enterFrame k2.1 room (wpAny_pure ⟨rfl,k2.2⟩))
  exact go
end
def cxL (P:Program) (w:World) (K:PySem.W.Frag) (mg:Str→Option Value) (base:Heap) (q:Str) (scope:Scope) (f:Addr) (cd:Value) (cl:List (Str×Addr)) (N:List Str) (A:Around) (outer:List Env) (s:Shared) (H:Hp):Cx where
 prog:=P
 w:=w
 K:=K
 mg:=mg
 base:=base
 A:=A.deeper (envX q scope s.heap.objs.size f cd cl)
 N:=N
 s₀:=s
 H₀:=H
 env:=envX q scope s.heap.objs.size f cd cl
 outer:=outer
 stack:=envX q scope s.heap.objs.size f cd cl::outer
 ex:=[]
 fn:=fun _=>false
 calm:=true
 pn:=[]
 xe:=fun _ _=>False
structure LamScope (scope:Scope) (x y:Str):Prop where
 kind:scope.kind = .function
 co:scope.isCoroutine=false
 gen:scope.isGenerator=false
 px:scope.names.lookup x=some .local
 py:scope.names.lookup y=some .free
 ne:x≠y
 nocell : ∀ z ∈ scope.names,z.2 ≠ .cell
 free : ∀ z,scope.names.lookup z=some .free→z=y
section
variable {P:Program}{w:World}{K:PySem.W.Frag}{mg:Str→Option Value}{base:Heap}{q:Str}{scope:Scope}{f cg:Addr}{cd ug u:Value}{x y:Str}{A:Around}{outer:List Env}{s:Shared}{H:Hp}{v vg:V}{h1:Heap}{tk:Nat}
theorem zaip (S:LamScope scope x y) (hd:A.handled=none) (e0:Env0 P w K mg base A outer s H) (hc:s.heap.IsCell cg (some ug)) (hn:H cg=none) (rg:RelV vg ug) (ru:RelV v u)
 (ns:h1.Ns s.heap.objs.size (fun z=>([(x,u)]:List (Str×Value)).reverse.lookup z)) (hk : ∀ b o,s.heap.get? b=some o→h1.get? b=some o) :
 Inv (cxL P w K mg base q scope f cd [(y,cg)] [x,y] A outer s H) [] [some v,some vg] H { s with heap:=h1,toks:=tk }:=by
  have noA : ∀ b:Addr,b ∉ (cxL P w K mg base q scope f cd [(y,cg)] [x,y] A outer s H).ex:=fun b z=>absurd (show b ∈ ([]:List Addr) from z) (by simp)
  have look : ∀ z c,(cxL P w K mg base q scope f cd [(y,cg)] [x,y] A outer s H).env.cells.lookup z=some c→z=y∧c=cg:=fun z c h=>by
   have h:([(y,cg)]:List (Str×Addr)).lookup z=some c:=h
   rw [List.lookup_cons] at h
   cases e:z==y with
   | true=>rw [e] at h;exact ⟨eq_of_beq e,(Option.some.inj h).symm⟩
   | false=>rw [e] at h;cases h
  have lky:([(y,cg)]:List (Str×Addr)).lookup y=some cg:=by rw [List.lookup_cons,beq_self_eq_true]
  refine ⟨⟨e0.mod,S.kind,rfl,rfl,Nat.le_refl _,fun z z' c a b=>(look z c a).1.trans (look z' c b).1.symm,fun z hz=>?_,fun z c a b=>(by cases a),fun _=>hd,Around.frames_deeper e0.frames,.inr ⟨rfl,rfl⟩,fun b z=>absurd z (noA b),e0.bs,e0.bsz,fun b _ _=>noA b,fun b z=>absurd z (noA b),e0.funs,e0.frf⟩,
   rfl,e0.bare,Un.kept hk,⟨_,ns,fun i z v' a1 a2 a3=>?_⟩,fun z c a=>?_,e0.hok.fresh (Nat.le_refl _),fun z c a=>?_,fun p hp=>absurd (show p ∈ ([]:List (Addr×Obj)) from hp) (by simp),e0.hok.kept hk,rfl⟩
  ·have hz:scope.names.lookup z=some .cell∨scope.names.lookup z=some .free:=hz
   rcases hz with hz|hz
   ·exact absurd rfl (S.nocell _ (PySem.mem_of_lookup hz))
   ·rw [S.free z hz];exact ⟨cg,lky⟩
  ·have a1:([x,y]:List Str)[i]?=some z:=a1
   match i,a1,a2 with
   | 0,a1,a2 =>
    have e1:x=z:=Option.some.inj a1
    have e2:v=v':=Option.some.inj (Option.some.inj a2)
    subst e1
    subst e2
    refine ⟨u,ru,.inl ⟨S.px,?_⟩⟩
    show ([(x,u)]:List (Str×Value)).lookup x=some u
    rw [List.lookup_cons,beq_self_eq_true]
   | 1,a1,a2 =>
    have e1:y=z:=Option.some.inj a1
    have e2:vg=v':=Option.some.inj (Option.some.inj a2)
    subst e1
    subst e2
    obtain ⟨oc,ho,hd'⟩:=hc
    exact ⟨ug,rg,.inr ⟨.inr S.py,cg,lky,oc,hk _ _ ho,hd'⟩⟩
   | i+2,a1,a2=>cases a1
  ·rw [(look z c a).2]
   obtain ⟨oc,ho,hd'⟩:=hc
   exact ⟨_,oc,hk _ _ ho,hd'⟩
  ·rw [(look z c a).2];exact hn
theorem zajo {nm qual:Str}{params:Arguments}{body:Expr}{pm ct:Value}{c:Addr}{o oc:Obj}{vs:Array Value}{t:Tok}{te:TE}{Q:VK}{E:XK} (S:LamScope scope x y) (hd:A.handled=none) (e0:Env0 P w K mg base A outer s H) (room:A.depth<recursionLimit)
 (ho:s.heap.get? f=some o) (h2:o.data = .func (kla_fn nm qual params body scope [(y,cg)] pm (.ref c) ct)) (hb:bindArgs (kla_fn nm qual params body scope [(y,cg)] pm (.ref c) ct) ⟨[u],[]⟩=pure [(x,u)])
 (h7:s.heap.get? c=some oc) (h8:oc.data = .fields vs) (h9:vs[1]?=some (.str q t)) (hc:s.heap.IsCell cg (some ug)) (hn:H cg=none) (rg:RelV vg ug) (ru:RelV v u)
 (he:PE (cxL P w K mg base q scope f (.ref c) [(y,cg)] [x,y] A outer s H) body te) (h:te [some v,some vg] H Q):codeAny (model P w) A (.call (.ref f) ⟨[u],[]⟩) (CR CX0 outer P w H s Q E) s:=by
  refine zacj room ho h2 S.co S.gen rfl rfl h7 h8 h9 ?_
  rw [hb]
  refine wpAny_pure (wpAny_newFunctionEnv S.nocell (fun z hz=>by rw [List.mem_singleton.mp hz];exact S.px) (fun h1 ns sb=>?_) S.kind)
  have hk : ∀ b o,s.heap.get? b=some o→h1.get? b=some o:=fun b o e=>sb.extBut b o (Nat.ne_of_lt (Heap.lt_size e)) (Heap.get?_push_of_some _ e)
  refine ⟨(e0.mod.nolimit.keeps fun b o e=>(e0.bs b o e).1).keeps hk,?_⟩
  have I:=zaip (q:=q) (f:=f) (cd :=.ref c) (tk:=s.toks+([(x,u)]:List (Str×Value)).length) S hd e0 hc hn rg ru ns hk
  refine kla_codeExpr (wpAny_mono (he [] _ _ H Q I h) (fun r s' z=>?_) fun _ _ z=>z.elim)
  obtain ⟨v',H',I',r',q'⟩:=z
  exact ⟨v',H',I'.os,I'.bare,I'.base,I'.hok,r',q'⟩
end
end L2
namespace L2
open PySem PySem.Spec PyProof.Rows PySem.W
def TbS (tb:Addr) (H:Hp):Prop := ∃ ps,H tb=some (.tbl ps)∧GoodT H ps
theorem TbS.of {X:Cx}{pins:List (Addr×Obj)}{σ:St}{H:Hp}{s:Shared}{tb:Addr} (I:Inv X pins σ H s) (h:TbS tb X.H₀):TbS tb H:=by
 obtain ⟨ps,e,g⟩:=h
 obtain ⟨more,e',g'⟩:=I.base.tbls tb ps e
 exact ⟨_,e',(g.mono I.base.frzs).app g'⟩
theorem TbS.same {tb:Addr}{H H':Hp} (h:TbS tb H) (k:Same H H'):TbS tb H':=by
 obtain ⟨ps,e,g⟩:=h
 exact ⟨ps,k _ _ e,g.mono fun b o u z=>k _ _ z⟩
structure TbGo (tb:Addr) (H H':Hp):Prop where
 h : ∀ b o,b≠tb→H b=some o→H' b=some o
 ts:TbS tb H'
section
variable {X:Cx}{pins:List (Addr×Obj)}{σ:St}{H:Hp}{s:Shared}{tb c0:Addr}{nm qual:Str}{params:Arguments}{body:Expr}{scope:Scope}{clos:List (Str×Addr)}{pos:Pos}{line:Nat}{Q:Value→Shared→Prop}
theorem Inv.pinOne {f:Addr}{o:Obj} (I:Inv X pins σ H s) (h1:s.heap.get? f=some o) (h2:H f=none) (h3:f≠X.env.locals) (h4:f ∉ X.fs) (h5 : ∀ v,o.data ≠ .cell v):Inv X (pins++[(f,o)]) σ H s:=I.pins_of fun p hp=>by
 rcases List.mem_append.mp hp with z|z
 ·exact I.pin p (List.mem_append_right _ z)
 ·rw [List.mem_singleton.mp z];exact ⟨h1,h2,h3,h4,h5⟩
theorem zafo (I:Inv X pins σ H s) (T:TbS tb H) (hcode:X.env.code = .ref c0) (C:CodeHd X.base c0 tb) (hb:X.base.BuiltinsAt X.mg tb) (hcl:closureFor scope X.env=pure clos)
 (k : ∀ f c ct pm oc vs q t s' H',Inv X (pins++[(f,{ cls :=.type "function",data :=.func (kla_fn nm qual params body scope clos pm (.ref c) ct) })]) σ H' s'→TbGo tb H H'→(∀ b,H' b≠none→H b≠none∨s.heap.objs.size≤b)→s.heap.objs.size≤f→(∃ u,H' c=some (.frz oc u))→oc.data = .fields vs→vs[1]?=some (.str q t)→Q (.ref f) s') :
  wpAny (model X.prog X.w) X.A (makeFunction nm qual params (.expr body) scope X.env [] [] [] pos line) Q X.xe s:=by
  obtain ⟨ps,et,g⟩:=T
  have gt:s.heap.get? tb=some (tabObj ps):=(I.hok tb _ et)
  have hg:s.heap.Ns mainGlobals X.mg:=I.mod.glob.keeps I.bk
  have gP:mainGlobals≠tb:=fun z=>by
   obtain ⟨o,es,ep,ho,_⟩:=I.mod.glob
   have:=(I.bs _ _ ho).2
   rw [z,et] at this;cases this
  obtain ⟨bm,ob,b1,b2,b3,b4,b5,b6⟩:=hb
  have hb':s.heap.BuiltinsAt X.mg tb:=⟨bm,ob,b1,b2,b3,b4,I.bk _ _ b5,b6⟩
  have nL:X.env.locals≠tb:=fun z=>by have:=I.free;rw [z,et] at this;cases this
  have lts : ∀ f:Addr,s.heap.objs.size≤f→f≠X.env.locals∧f ∉ X.fs:=fun f hf=>by
   refine ⟨fun z=>?_,fun z=>?_⟩
   ·obtain ⟨m,⟨o,es,ep,ho,_⟩,_⟩:=I.loc
    have:=Heap.lt_size ho
    rw [← z] at this
    exact absurd this (Nat.not_lt.mpr hf)
   ·obtain ⟨_,o,ho,_⟩:=I.ok.funs.mem z
    have a1:=Heap.lt_size ho
    obtain ⟨o',ho'⟩:=I.base.there f o ho (fun zz=>(I.ok.exfs f zz) z)
    exact absurd (Heap.lt_size ho') (Nat.not_lt.mpr hf)
  cases ea:codeAmong pos ps.toList with
  | some cv =>
   refine kla_makeFunctionHit (mg:=X.mg) hcl I.ok.glob hg hcode (C.keeps I.bk) gt g.tr ea hb' fun ct h' tk hk hs=>?_
   obtain ⟨c,oc,u,ev,ec,vs,q,t,d1,d2⟩:=g.co pos cv ea
   subst ev
   have hk2 : ∀ b o,s.heap.get? b=some o→(h'.push { cls :=.type "function",data :=.func (kla_fn nm qual params body scope clos ((X.mg "__name__").getD .none) (.ref c) ct) }).get? b=some o:=fun b o e=>Heap.get?_push_of_some _ (hk b o e)
   obtain ⟨l1,l2⟩:=lts _ hs
   exact k h'.objs.size c ct _ oc vs q t _ H ((I.kept (t':=tk) hk2).pinOne (Heap.get?_push_size _ rfl) (I.hok.fresh hs) l1 l2 (fun v z=>by cases z)) ⟨fun b o _ e=>e,ps,et,g⟩ (fun b hb => .inl hb) hs ⟨u,ec⟩ d1 d2
  | none =>
   refine kla_makeFunction (mg:=X.mg) hcl I.ok.glob hg hcode (C.keeps I.bk) gt g.tr ea gP hb' fun c ct h' tk hx hge hlt hrec htb=>?_
   obtain ⟨c2,oc,vs,t,e2,hoc,d1,d2⟩:=hrec
   cases e2
   have ne:c≠tb:=fun z=>absurd (Heap.lt_size gt) (Nat.not_lt.mpr (z ▸ hge))
   have hc0:H c=none:=I.hok.fresh hge
   obtain ⟨more,em⟩ : ∃ more,more = #[rawInt pos.line,rawInt pos.col,Value.ref c]:=⟨_,rfl⟩
   rw [← em] at htb
   obtain ⟨H1,eH⟩ : ∃ H1,H1=upd (upd H tb (.tbl (ps++more))) c (.frz oc (.own 0)):=⟨_,rfl⟩
   have u1:H1 c=some (.frz oc (.own 0)):=by rw [eH,qr]
   have u2:H1 tb=some (.tbl (ps++more)):=by rw [eH,qj (Ne.symm ne),qr]
   have u3 : ∀ b,b≠c→b≠tb→H1 b=H b:=fun b h1 h2=>by rw [eH,qj h1,qj h2]
   have old : ∀ b o,H b=some o→b≠c:=fun b o e z=>by rw [z,hc0] at e;cases e
   have gm:GoodT H1 more:=⟨by rw [em];exact trivial,fun p v h=>by
    rw [em] at h
    have h:(if (pos.line:Int)==p.line&&(pos.col:Int)==p.col then some (Value.ref c) else codeAmong p [])=some v:=h
    split at h
    ·exact ⟨c,oc,_,(Option.some.inj h).symm,u1,vs,qual,t,d1,d2⟩
    ·simp [codeAmong] at h⟩
   have gf : ∀ b o u,H b=some (.frz o u)→H1 b=some (.frz o u):=fun b o u e=>by
    rw [u3 b (old b _ e) fun z=>by rw [z,et] at e;cases e];exact e
   have hk2 : ∀ b o,b≠tb→s.heap.get? b=some o→(h'.push (kla_obj nm qual params body scope clos ((X.mg "__name__").getD .none) c ct)).get? b=some o:=fun b o hb e=>Heap.get?_push_of_some _ (hx b o hb e)
   have szs:s.heap.objs.size≤h'.objs.size:=Nat.le_trans hge (Nat.le_of_lt hlt)
   have I1:Inv X pins σ H1 { s with heap:=h'.push (kla_obj nm qual params body scope clos ((X.mg "__name__").getD .none) c ct),toks:=tk }:=by
    refine Inv.step (g':=s.gens) (d':=s.drawn) (t':=tk) (ch:=[]) I (fun b z=>nomatch z) (fun b o _ _ _ e n=>hk2 b o (fun z=>by rw [z,et] at n;cases n) e) (fun b o _ _ _ e n=>⟨o.slots,hk2 b o (fun z=>by rw [z,et] at n;cases n) e⟩)
     (fun b o _ e n=>?_) (fun b o _ e=>?_) (fun b xs e=>?_) (fun b o u e=>gf b o u e) (fun b qs e=>?_) (fun m hm=>?_) (fun b u e=>?_) I.bare
    ·rw [u3 b (fun z=>absurd (Heap.lt_size e) (Nat.not_lt.mpr (z ▸ hge))) (fun z=>by rw [z,et] at n;cases n)];exact n
    ·by_cases z:b=tb
     ·rw [z];exact ⟨_,Heap.get?_push_of_some _ htb⟩
     ·exact ⟨o,hk2 b o z e⟩
    ·rw [u3 b (old b _ e) fun z=>by rw [z,et] at e;cases e];exact e
    ·by_cases z:b=tb
     ·rw [z,et] at e
      cases e
      exact ⟨more,by rw [z];exact u2,gm⟩
     ·exact ⟨#[],by rw [u3 b (old b _ e) z,e];simp,.nil⟩
    ·exact (hm.extBut hx nL).push _
    ·by_cases zc:b=c
     ·subst zc
      rw [u1] at e
      cases e
      exact ⟨Heap.get?_push_of_some _ hoc,oc,Heap.get?_push_of_some _ hoc⟩
     ·by_cases zt:b=tb
      ·subst zt
       rw [u2] at e
       cases e
       exact Heap.get?_push_of_some _ htb
      ·rw [u3 b zc zt] at e
       refine (I.hok b u e).stay (fun d ob hd z=>hk2 d ob (fun y=>?_) z) (fun d z=>?_) fun d xs z=>?_
       ·rcases hd with y2|y2
        ·exact zt (y2.symm.trans y)
        ·rw [y,et] at y2;cases y2
       ·rw [u3 d (old d _ z) fun y=>by rw [y,et] at z;cases z];exact z
       ·rw [u3 d (old d _ z) fun y=>by rw [y,et] at z;cases z];exact z
   obtain ⟨l1,l2⟩:=lts _ szs
   have fn:H1 h'.objs.size=none:=by
    rw [u3 _ (Nat.ne_of_gt hlt) fun z=>absurd (Heap.lt_size gt) (Nat.not_lt.mpr (z ▸ szs))]
    exact I.hok.fresh szs
   refine k h'.objs.size c ct _ oc vs qual t _ H1 (I1.pinOne (Heap.get?_push_size _ rfl) fn l1 l2 (fun v z=>by cases z)) ⟨fun b o hb e=>?_,_,u2,(g.mono gf).app gm⟩ (fun b hb=>?_) szs ⟨_,u1⟩ d1 d2
   ·rw [u3 b (old b _ e) hb];exact e
   ·by_cases zc:b=c
    ·exact .inr (zc ▸ hge)
    ·by_cases zt:b=tb
     ·left;rw [zt,et];exact fun z=>by cases z
     ·left;rw [u3 b zc zt] at hb;exact hb
end
end L2
namespace L2
open PySem PySem.Spec PyProof.Rows PySem.W
def qmp (x y:Nat→Int):Nat→Nat→Bool
 | 0,_=>false
 | k+1,i=>if x i==y i then qmp x y k (i+1) else decide (x i<y i)
open AutoSeq1 (wpAny_loadPart') in
open MeetsSeq MeetsSeq3 in
theorem zakp (l b:Addr) (items items2:Array Value) (n n2:Nat) (hsz:items.size=items2.size) (x y:Nat→Int) (hx : ∀ j (h:j<items.size),∃ t,items[j] = .int (x j) t) (hy : ∀ j (h:j<items2.size),∃ t,items2[j] = .int (y j) t) (k:Nat) :
 ∀ i:Nat,items.size-i=k→Meets (Builtin.«list.__eq__.loop» ⟨[.ref l,.ref b,rawInt i,rawInt 0],[]⟩)
 (fun _ R s=>s.heap.get? l=some { cls :=.type "list",dict:=none,data :=.seq items n,slots := #[] }∧s.heap.get? b=some { cls :=.type "list",dict:=none,data :=.seq items2 n2,slots := #[] } ∧
  R (.ok (.ret (.bool (qmp x y k i)))) s):=by
  induction k with
  | zero =>
   rintro i hk prog w A R ⟨hp,g,d,tk,os⟩ ⟨hl,hb,h⟩
   wp_walk using wpAny_loadPart' hl,wpAny_loadPart' hb
   rw [show items[((i:Nat):Int).toNat]?=none by simp;omega,show items2[((i:Nat):Int).toNat]?=none by simp;omega]
   wp_walk using wpAny_loadPart' hl,wpAny_loadPart' hb
   have e:decide (items.size<items2.size)=false:=decide_eq_false (by omega)
   show R (.ok (.ret (.bool (decide (items.size<items2.size))))) _
   rw [e];exact h
  | succ k ih =>
   rintro i hk prog w A R ⟨hp,g,d,tk,os⟩ ⟨hl,hb,h⟩
   have l1:i<items.size:=by omega
   have l2:i<items2.size:=by omega
   obtain ⟨t1,e1⟩:=hx i l1
   obtain ⟨t2,e2⟩:=hy i l2
   have g1:items[((i:Nat):Int).toNat]?=some (.int (x i) t1):=by rw [← e1];simp [l1]
   have g2:items2[((i:Nat):Int).toNat]?=some (.int (y i) t2):=by rw [← e2];simp [l2]
   wp_walk using wpAny_loadPart' hl,wpAny_loadPart' hb
   rw [g1,g2]
   refine wpAny_bind (wpAny_eqBool_int ?_)
   unfold qmp at h
   cases q:(x i==y i) with
   | true =>
    rw [q] at h
    wp_walk
    rw [show ((i:Int)+1)=((i+1:Nat):Int) by push_cast;rfl]
    exact ⟨plainId_quiet plain_eq_loop _,codeAny_builtin entry_eq_loop (by
     rw [Around.under_plainId plain_eq_loop _]
     exact ih (i+1) (by omega) prog w A R _ ⟨hl,hb,h⟩)⟩
   | false =>
    rw [q] at h
    wp_walk using wpAny_loadPart' hl,wpAny_loadPart' hb
    rw [g1,g2]
    dsimp only
    refine wpAny_bind (wpAny_lt_int ?_)
    wp_walk
    exact h
open AutoSeq1 (wpAny_loadPart') in
open MeetsSeq MeetsSeq3 in
theorem zaki (l b:Addr) (items items2:Array Value) (n n2:Nat) (hsz:items.size=items2.size) (x y:Nat→Int) (hx : ∀ j (h:j<items.size),∃ t,items[j] = .int (x j) t) (hy : ∀ j (h:j<items2.size),∃ t,items2[j] = .int (y j) t) :
 Meets (Builtin.«list.__lt__» ⟨[.ref l,.ref b],[]⟩)
 (fun _ R s=>s.heap.get? l=some { cls :=.type "list",dict:=none,data :=.seq items n,slots := #[] }∧s.heap.get? b=some { cls :=.type "list",dict:=none,data :=.seq items2 n2,slots := #[] } ∧
  R (.ok (.ret (.bool (qmp x y items.size 0)))) s):=by
  rintro prog w A R ⟨hp,g,d,tk,os⟩ ⟨hl,hb,h⟩
  have f3:=AutoSeq1.sub_list_list
  wp_walk using wpAny_loadPart' hl,wpAny_loadPart' hb
  exact ⟨plainId_quiet plain_eq_loop _,codeAny_builtin entry_eq_loop (by
   rw [Around.under_plainId plain_eq_loop _]
   exact zakp l b items items2 n n2 hsz x y hx hy _ 0 (by omega) prog w A R _ ⟨hl,hb,h⟩)⟩
theorem zans {prog:Program}{w:World}{A:Around}{E:Value→Shared→Prop}{s:Shared}{l b:Addr}{items items2:Array Value}{n n2:Nat}{x y:Nat→Int}{Q:Bool→Shared→Prop} (hu:A.units<cLine) (hl:s.heap.get? l=some { cls :=.type "list",data :=.seq items n }) (hb:s.heap.get? b=some { cls :=.type "list",data :=.seq items2 n2 })
 (hsz:items.size=items2.size) (hx : ∀ j (h:j<items.size),∃ t,items[j] = .int (x j) t) (hy : ∀ j (h:j<items2.size),∃ t,items2[j] = .int (y j) t) (h:Q (qmp x y items.size 0) s) :
 wpAny (model prog w) A (keyLt' oneType' (.ref l) (.ref b)) Q E s:=by
 rw [keyLt'_oneType,oneLt'_eq]
 simp only [if_true]
 refine wpAny_bind (wpAny_cRoomFor hu (wpAny_bind (wpAny_callSpecialIfBound?_slot (T := "list") ⟨_,hl,rfl⟩ F.slot_list_lt (call_meets F.slot_list_lt ⟨_,hl,rfl⟩ F.entry_list_lt (F.args_list_lt_2 _ _) (zaki l b items items2 n n2 hsz x y hx hy) ⟨hl,hb,?_⟩))))
 exact wpAny_truthy_bool h
end L2
namespace L2
open PySem PySem.Spec PyProof.Rows PySem.W
structure OwnA (X:Cx) (pins:List (Addr×Obj)) (a:Addr):Prop where
 l:a≠X.env.locals
 s:X.s₀.heap.objs.size≤a
 c : ∀ x c,X.env.cells.lookup x=some c→c≠a
 p : ∀ p ∈ X.pn++pins,p.1≠a
 f:a ∉ frs X.stack
section
variable {X:Cx}{pins:List (Addr×Obj)}{σ:St}{H:Hp}{s:Shared}
theorem zahv (I:Inv X pins σ H s) {a:Addr} (h:s.heap.objs.size≤a):OwnA X pins a:=by
 have lt : ∀ b o,s.heap.get? b=some o→b≠a:=fun b o e z=>absurd (Heap.lt_size e) (Nat.not_lt.mpr (z ▸ h))
 refine ⟨fun z=>?_,Nat.le_trans I.sz h,fun x c e z=>?_,fun p hp z=>?_,fun z=>?_⟩
 ·obtain ⟨m,⟨o,es,ep,ho,_⟩,_⟩:=I.loc
  exact lt _ _ ho z.symm
 ·obtain ⟨v,o,ho,_⟩:=I.cell x c e
  exact lt _ _ ho z
 ·exact lt _ _ (I.pin p hp).1 z
 ·obtain ⟨_,o,ho,_⟩:=I.stack.mem z
  exact lt _ _ ho rfl
theorem Inv.own (I:Inv X pins σ H s) {a:Addr} (o:OwnA X pins a) (hn:H a=none) {h':Heap}{t':Nat} (k : ∀ b u,b≠a→s.heap.get? b=some u→h'.get? b=some u):Inv X pins σ H { s with heap:=h',toks:=t' } :=
 I.turned (it:=a) k hn o.l (.inr o.s) o.c o.p
def zacm (kl:Nat→List Int) (i:Nat) (r:Value) (H:Hp):Prop := ∃ p,r = .ref p∧H p=some (.lst ((kl i).map V.int))
theorem qed {h:Heap}{a b:Addr}{u:Obj} (g:Obj→Obj) (hb:b≠a) (e:h.get? b=some u):(h.update a g).get? b=some u:=(Heap.get?_update_other _ _ (Ne.symm hb)).trans e
def qne (X:Cx) (pins:List (Addr×Obj)) (σ:St) (A:Around) (f:Value) (vs:List Value) (kl:Nat→List Int) (G:Hp→Prop):Prop := ∀ (i:Nat) (u:Value) (H:Hp) (s:Shared),vs[i]?=some u→Inv X pins σ H s→G H →
 wpAny (model X.prog X.w) A (call f [u]) (fun r s' => ∃ H',Inv X pins σ H' s'∧Un (frs X.stack) [] H H' s.heap s'.heap∧Same H H'∧G H'∧zacm kl i r H') (fun _ _=>False) s
def qau (kl:Nat→List Int) (m:Nat) (i j:Nat):Bool:=qmp (fun k=>(kl i).getD k 0) (fun k=>(kl j).getD k 0) m 0
variable {A:Around}{E:Value→Shared→Prop}{f:Value}{vs:List Value}{kl:Nat→List Int}{G:Hp→Prop}{m:Nat}{a kS:Addr}{e1:Nat}{P:PySem.Fin→Shared→Prop}
def qni (X:Cx) (pins:List (Addr×Obj)) (σ:St) (vs:List Value) (kl:Nat→List Int) (G:Hp→Prop) (m:Nat) (a:Addr) (H:Hp) (P:PySem.Fin→Shared→Prop):Prop :=
 ∀ (p:Array Nat) (H':Hp) (s':Shared) (c:Nat),PmN vs.length p→SrtN (qau kl m) p vs.length→Inv X pins σ H' s'→Same H H'→G H'→H' a=none→s'.heap.get? a=some (seqObj "list" (p.toList.map fun i=>vs.getD i .none).toArray c)→P (.done (.ret .none)) s'
theorem qqt {ks:List Value}{ek:Nat}{p:Array Nat}{st:SortSt}{H0:Hp} (I:Inv X pins σ H s) (oa:OwnA X pins a) (ok:OwnA X pins kS) (na:H a=none) (nk:H kS=none) (ne:kS≠a) (h64:vs.length<64) (kz:ks.length<64) (ha:s.heap.get? a=some (seqObj "list" #[] e1)) (hk:s.heap.get? kS=some (seqObj "list" ks.toArray ek))
 (hp:PmN vs.length p) (hs:SrtN (qau kl m) p vs.length) (sm:Same H0 H) (g:G H) (hout:(arrOf st).map (·.2)=(p.toList.map fun i=>vs.getD i .none).toArray) (hf:failedOf st=none) (h:qni X pins σ vs kl G m a H0 P) :
 wpAny (model X.prog X.w) A (ksk_tail a false e1 (.ref kS) st) P E s:=by
  unfold ksk_tail
  dsimp only
  rw [hout]
  have I1:=I.own (a:=kS) (t':=s.toks) (h':=s.heap.update kS (Obj.mapSeq fun _=>(#[]:Array Value))) ok nk fun b u hb e=>qed _ hb e
  have ha1:(s.heap.update kS (Obj.mapSeq fun _=>(#[]:Array Value))).get? a=some (seqObj "list" #[] e1):=qed _ (Ne.symm ne) ha
  have lz:(p.toList.map fun i=>vs.getD i Value.none).toArray.size=vs.length:=by rw [List.size_toArray,List.length_map,Array.length_toList,hp.s]
  refine wpAny_bind (listUpdate_at hk rfl ?_ (by rw [List.size_toArray,sizeLine_eq];omega) (Nat.zero_le _))
  refine wpAny_bind (wpAny_letGo ?_)
  refine wpAny_bind (seqEpoch_at ha1 rfl ?_)
  refine wpAny_bind (listUpdate_at ha1 rfl ?_ (Nat.zero_le _) (Nat.le_trans (Nat.le_of_eq lz) (by rw [sizeLine_eq];omega)))
  rw [hf]
  simp only [bne_self_eq_false,Bool.false_eq_true,if_false]
  have I2:=I1.own (a:=a) (t':=s.toks) (h':=(s.heap.update kS (Obj.mapSeq fun _=>(#[]:Array Value))).update a (Obj.mapSeq fun _=>(p.toList.map fun i=>vs.getD i Value.none).toArray)) oa na fun b u hb e=>qed _ hb e
  exact wpAny_pure (h p H _ _ hp hs I2 sm g na (get?_update_seq ha1 fun _=>_))
theorem qsg {i:Nat}{r:Value} (I:Inv X pins σ H s) (hk:zacm kl i r H) : ∃ p its n,r = .ref p∧s.heap.get? p=some { cls :=.type "list",data :=.seq its n }∧its.size=(kl i).length ∧ ∀ j (h:j<its.size),∃ t,its[j] = .int ((kl i).getD j 0) t:=by
 obtain ⟨p,rfl,e⟩:=hk
 obtain ⟨_,its,n,rv,ho⟩:=I.hok p _ e
 have hl:its.length=(kl i).length:=by rw [← rv.length,List.length_map]
 refine ⟨p,its.toArray,n,rfl,ho,by rw [List.size_toArray];exact hl,fun j h=>?_⟩
 rw [List.size_toArray] at h
 have hj:((kl i).map V.int)[j]?=some (.int ((kl i).getD j 0)):=by
  rw [List.getElem?_map,List.getElem?_eq_getElem (by omega)]
  simp [List.getD,List.getElem?_eq_getElem (show j<(kl i).length by omega)]
 obtain ⟨u,hu,t,ru⟩:=rv.get hj
 refine ⟨t,?_⟩
 rw [List.getElem?_eq_getElem h] at hu
 rw [List.getElem_toArray]
 rw [← ru]
 exact Option.some.inj hu
theorem zadb {ks:List Value}{ek:Nat}{H0:Hp} (hu:A.units<cLine) (o:OrdN vs.length (qau kl m)) (hm : ∀ i,i<vs.length→(kl i).length=m) (I:Inv X pins σ H s) (oa:OwnA X pins a) (ok:OwnA X pins kS) (na:H a=none) (nk:H kS=none) (ne:kS≠a) (h64:vs.length<64) (kz:ks.length=vs.length)
 (ha:s.heap.get? a=some (seqObj "list" #[] e1)) (hk:s.heap.get? kS=some (seqObj "list" ks.toArray ek)) (hks : ∀ i,i<vs.length→zacm kl i (ks.getD i .none) H) (sm:Same H0 H) (g:G H) (h:qni X pins σ vs kl G m a H0 P) :
 wpAny (model X.prog X.w) A (ksk_end a false vs.toArray e1 (.ref kS) ks.toArray) P E s:=by
  unfold ksk_end
  dsimp only
  simp only [Bool.false_eq_true,if_false]
  by_cases h2:vs.length<2
  ·have c:vs.toArray.size<2:=by rw [List.size_toArray];exact h2
   rw [if_pos c,if_pos c]
   refine wpAny_bind (wpAny_pure (wpAny_bind ?_))
   rw [StateT.run_pure]
   refine wpAny_pure ?_
   refine qqt (p:=List.toArray (List.range vs.length)) (st:=SortSt.mk' general' (ks.toArray.zip vs.toArray) #[] 7 none) I oa ok na nk ne h64 (by omega) ha hk ⟨by simp,by simp⟩ (fun k k1 k2=>by omega) sm g ?_ rfl h
   show (ks.toArray.zip vs.toArray).map (·.2)=_
   apply Array.toList_inj.mp
   refine List.ext_getElem? fun i=>?_
   simp only [Array.toList_map,Array.toList_zip,List.getElem?_map,List.getElem?_range]
   by_cases hi:i<vs.length
   ·have e1:ks[i]?=some (ks[i]'(by omega)):=List.getElem?_eq_getElem _
    have e2:vs[i]?=some vs[i]:=List.getElem?_eq_getElem hi
    have e3:(ks.zip vs)[i]?=some (ks[i]'(by omega),vs[i]):=List.getElem?_zip_eq_some.mpr ⟨e1,e2⟩
    rw [e3]
    simp [hi]
   ·rw [List.getElem?_eq_none (by simp;omega)]
    simp [hi]
  ·have c : ¬ vs.toArray.size<2:=by rw [List.size_toArray];exact h2
   rw [if_neg c,if_neg c]
   have g2:2≤ks.length:=by omega
   refine wpAny_bind (kas_kind (T :=.type "list") g2 (fun v hv=>?_) (by decide) (by decide) ?_)
   ·obtain ⟨i,hi⟩:=List.getElem?_of_mem hv
    have hlt:i<ks.length:=(List.getElem?_eq_some_iff.mp hi).1
    have eg:ks.getD i .none=v:=by simp [List.getD,hi]
    obtain ⟨p,its,n,er,ho,_,_⟩:=qsg I (hks i (by omega))
    rw [← eg,er]
    exact (Looks.ld ho).andThen .now
   ·refine wpAny_bind (wpAny_mono (kat_run (Q:=fun st' s'=>s'=s ∧ ∃ p:Array Nat,PmN vs.length p∧SrtN (qau kl m) p vs.length∧arrOf st'=p.map (kas_item (ks.toArray.zip vs.toArray))∧failedOf st'=none) (G:=fun p s'=>s'=s∧PmN vs.length p∧SrtN (qau kl m) p vs.length) kz (by omega) h64 (fun p st' s' a1 a2 a3 a4=>⟨a4.1,p,a4.2.1,a4.2.2,a2,a3⟩) ?_) ?_ fun _ _ z=>z)
    ·refine zaju o (fun i j C hi hj hC=>?_) (by omega) fun p hp hs=>⟨rfl,hp,hs⟩
     obtain ⟨p,its,n,er,ho,z1,x1⟩:=qsg I (hks i hi)
     obtain ⟨p',its',n',er',ho',z2,x2⟩:=qsg I (hks j hj)
     unfold kas_ask
     rw [er,er']
     refine zans hu ho ho' (by rw [z1,z2,hm i hi,hm j hj]) x1 x2 ?_
     rw [z1,hm i hi]
     exact hC
    ·rintro ⟨⟨⟩,st'⟩ s' ⟨rfl,p,hp,hs,har,hf⟩
     exact qqt I oa ok na nk ne h64 (by omega) ha hk hp hs sm g (kat_snds kz har) hf h
theorem zacc {H0:Hp} (hu:A.units<cLine) (hc:qne X pins σ A f vs kl G) (o:OrdN vs.length (qau kl m)) (hm : ∀ i,i<vs.length→(kl i).length=m) (I:Inv X pins σ H s) (oa:OwnA X pins a) (ok:OwnA X pins kS) (na:H a=none) (nk:H kS=none) (ne:kS≠a) (h64:vs.length<64)
 (ha:s.heap.get? a=some (seqObj "list" #[] e1)) (hk:s.heap.get? kS=some (seqObj "list" #[] 0)) (sm:Same H0 H) (g:G H) (h:qni X pins σ vs kl G m a H0 P) :
 wpAny (model X.prog X.w) A (ksk_rest a f false vs.toArray e1 (.ref kS)) P E s:=by
  unfold ksk_rest
  refine wpAny_bind (wpAny_rule ?_)
  rw [List.forIn_toArray]
  refine wpAny_bind (ksk_fold (fun i s' => ∃ (H':Hp) (ks:List Value) (ek:Nat),Inv X pins σ H' s'∧Same H0 H'∧G H'∧H' a=none∧H' kS=none∧s'.heap.get? a=some (seqObj "list" #[] e1)∧s'.heap.get? kS=some (seqObj "list" ks.toArray ek)∧ks.length=i ∧ ∀ j,j<i→zacm kl j (ks.getD j .none) H') vs 0 s
   ⟨H,[],0,I,sm,g,na,nk,ha,hk,rfl,fun j z=>absurd z (Nat.not_lt_zero _)⟩ ?_ ?_)
  ·rintro j x s1 hx ⟨H1,ks,ek,I1,sm1,g1,na1,nk1,ha1,hk1,kl1,ky1⟩
   rw [Nat.zero_add] at kl1 ky1
   have jl:j<vs.length:=(List.getElem?_eq_some_iff.mp hx).1
   refine wpAny_bind (wpAny_attempt (wpAny_mono (hc j x H1 s1 hx I1 g1) (fun r s2 z=>?_) fun _ _ z=>z.elim))
   obtain ⟨H2,I2,un,sm2,g2,ky2⟩:=z
   have ha2:s2.heap.get? a=some (seqObj "list" #[] e1):=un.keep a _ ha1 na1 oa.f (by simp)
   have hk2:s2.heap.get? kS=some (seqObj "list" ks.toArray ek):=un.keep kS _ hk1 nk1 ok.f (by simp)
   have na2:H2 a=none:=un.free a _ ha1 na1 (by simp)
   have nk2:H2 kS=none:=un.free kS _ hk1 nk1 (by simp)
   dsimp only
   refine wpAny_bind (listUpdate_at hk2 rfl ?_ (by rw [List.size_toArray,sizeLine_eq];omega) (Nat.le_trans (Nat.le_of_eq (Array.size_push ..)) (by rw [List.size_toArray,sizeLine_eq];omega)))
   have I3:=I2.own (a:=kS) (t':=s2.toks) (h':=s2.heap.update kS (Obj.mapSeq (·.push r))) ok nk2 fun b u hb e=>qed _ hb e
   have ea:ks.toArray.push r=(ks++[r]).toArray:=by simp
   refine wpAny_pure ⟨rfl,H2,ks++[r],_,I3,sm1.trans sm2,g2,na2,nk2,qed _ (Ne.symm ne) ha2,by rw [← ea];exact get?_update_seq hk2 (·.push r),by rw [List.length_append,kl1,Nat.zero_add];rfl,fun i hi=>?_⟩
   rw [Nat.zero_add] at hi
   by_cases z:i<j
   ·have:(ks++[r]).getD i Value.none=ks.getD i .none:=by simp [List.getD,List.getElem?_append_left (show i<ks.length by omega)]
    rw [this]
    obtain ⟨p,e,hp⟩:=ky1 i z
    exact ⟨p,e,sm2 _ _ hp⟩
   ·have:i=j:=by omega
    subst this
    have:(ks++[r]).getD i Value.none=r:=by simp [List.getD,← kl1]
    rw [this];exact ky2
  ·rintro s1 ⟨H1,ks,ek,I1,sm1,g1,na1,nk1,ha1,hk1,kl1,ky1⟩
   rw [Nat.zero_add] at kl1 ky1
   refine wpAny_bind (listItems_at hk1 rfl ?_)
   exact zadb hu o hm I1 oa ok na1 nk1 ne h64 kl1 ha1 hk1 ky1 sm1 g1 h
theorem qwm {n0:Nat} (hu:A.units<cLine) (hc:qne X pins σ A f vs kl G) (o:OrdN vs.length (qau kl m)) (hm : ∀ i,i<vs.length→(kl i).length=m) (I:Inv X pins σ H s) (oa:OwnA X pins a) (na:H a=none) (h64:vs.length<64) (ha:s.heap.get? a=some (seqObj "list" vs.toArray n0)) (g:G H)
 (h:qni X pins σ vs kl G m a H P):wpAny (model X.prog X.w) A (ksk_tree a f false) P E s:=by
  unfold ksk_tree
  have I1:=I.own (a:=a) (t':=s.toks) (h':=s.heap.update a (Obj.mapSeq fun _=>(#[]:Array Value))) oa na fun b u hb e=>qed _ hb e
  obtain ⟨e1,ha1⟩ : ∃ e1,(s.heap.update a (Obj.mapSeq fun _=>(#[]:Array Value))).get? a=some (seqObj "list" #[] e1):=⟨_,get?_update_seq ha fun _ => #[]⟩
  refine wpAny_bind (listItems_at ha rfl ?_)
  refine wpAny_bind (listUpdate_at ha rfl ?_ (by rw [List.size_toArray,sizeLine_eq];omega) (Nat.zero_le _))
  refine wpAny_bind (seqEpoch_at ha1 rfl ?_)
  refine wpAny_bind (wpAny_newTuple ?_ (by show vs.length≤_;rw [sizeLine_eq];omega))
  refine wpAny_bind (wpAny_newList ?_ (Nat.zero_le _))
  refine wpAny_holding ?_
  have kp : ∀ b u,(s.heap.update a (Obj.mapSeq fun _=>(#[]:Array Value))).get? b=some u→(((s.heap.update a (Obj.mapSeq fun _=>(#[]:Array Value))).push (seqObj "tuple" vs.toArray 0)).push (seqObj "list" #[] 0)).get? b=some u:=fun b u e=>Heap.get?_push_of_some _ (Heap.get?_push_of_some _ e)
  have I2:=I1.kept (t':=s.toks) (h':=((s.heap.update a (Obj.mapSeq fun _=>(#[]:Array Value))).push (seqObj "tuple" vs.toArray 0)).push (seqObj "list" #[] 0)) kp
  have big:(s.heap.update a (Obj.mapSeq fun _=>(#[]:Array Value))).objs.size≤((s.heap.update a (Obj.mapSeq fun _=>(#[]:Array Value))).push (seqObj "tuple" vs.toArray 0)).objs.size:=by rw [Heap.size_push];omega
  have okS:=zahv I1 big
  have nkS:H ((s.heap.update a (Obj.mapSeq fun _=>(#[]:Array Value))).push (seqObj "tuple" vs.toArray 0)).objs.size=none:=I1.hok.fresh big
  exact zacc (s:={ s with heap:=((s.heap.update a (Obj.mapSeq fun _=>(#[]:Array Value))).push (seqObj "tuple" vs.toArray 0)).push (seqObj "list" #[] 0) }) hu hc o hm I2 oa okS na nkS (fun z=>absurd (Heap.lt_size ha1) (Nat.not_lt.mpr (Nat.le_trans big (Nat.le_of_eq z)))) h64 (kp _ _ ha1) (Heap.get?_push_size _ rfl) (.refl _) g h
end
end L2
namespace L2
open PySem PySem.Spec PyProof.Rows PySem.W
section
variable {X:Cx}{pins:List (Addr×Obj)}{σ:St}{H:Hp}{s:Shared}
theorem Inv.track {a:Addr}{u:HO} (I:Inv X pins σ H s) (o:OwnA X pins a) (hn:H a=none) (new:ObjOk X.prog X.w (upd H a u) s.heap a u):Inv X pins σ (upd H a u) s:=by
 have up : ∀ b v,H b=some v→upd H a u b=some v:=fun b v e=>by rw [qj (qq e hn)];exact e
 refine ⟨I.ok,I.os,I.bare,⟨I.base.keep,I.base.slot,fun b o' e n hx=>?_,I.base.there,fun b xs e=>up _ _ (I.base.tups b xs e),fun b o' xs e=>up _ _ (I.base.frzs b o' xs e),fun b ps e=>?_⟩,I.loc,I.cell,?_,fun x c e=>?_,fun p hp=>?_,fun b v e=>?_,I.len⟩
 ·have hb:b≠a:=fun z=>absurd (Heap.lt_size e) (Nat.not_lt.mpr (by rw [z];exact o.s))
  rw [qj hb];exact I.base.free b o' e n hx
 ·obtain ⟨more,q,gm⟩:=I.base.tbls b ps e
  exact ⟨more,up _ _ q,gm.mono fun b o u z=>up _ _ z⟩
 ·rw [qj (Ne.symm o.l)];exact I.free
 ·rw [qj (o.c x c e)];exact I.freeC x c e
 ·obtain ⟨a1,a2,a3⟩:=I.pin p hp
  exact ⟨a1,(qj (o.p p hp)).trans a2,a3⟩
 ·by_cases z:b=a
  ·subst z
   rw [qr] at e
   cases e
   exact new
  ·rw [qj z] at e
   exact (I.hok b v e).stay (fun c ob _ q=>q) (fun c q=>up _ _ q) (fun c xs q=>up _ _ q)
variable {K':Type} [DecidableEq K'] {knd:KeyKind X.prog X.w K'}{E:Value→Shared→Prop}{f:Addr}{kvs:List (K'×Value)}{ep:Nat}{kl:Nat→List Int}{G:Hp→Prop}{m:Nat}{r d:Addr}{Q:Value→Shared→Prop}
end
end L2
namespace L2
open PySem PySem.Spec PyProof.Rows PySem.W
def DictIs (h:Heap) (d:Addr) (es:Array DictEntry) (ep:Nat):Prop := ∃ o,h.get? d=some o∧o.ExactDict∧o.data = .dict es ep
theorem DictIs.at {h h':Heap}{d:Addr}{es:Array DictEntry}{ep:Nat} (x:DictIs h d es ep) (k : ∀ o,h.get? d=some o→h'.get? d=some o):DictIs h' d es ep:=let ⟨o,ho,r⟩:=x; ⟨o,k _ ho,r⟩
section
variable {prog:Program}{w:World}{A:Around}{E:Value→Shared→Prop}{s:Shared}{it v d:Addr}{es:Array DictEntry}{i ep:Nat}
theorem zabe {Q:Value→Shared→Prop} (hv:s.heap.IsValuesView v d) (hD:DictIs s.heap d es ep)
 (h:Q (.ref s.heap.objs.size) { s with heap:=s.heap.push { cls :=.type "dict_valueiterator",data :=.fields #[.ref d,.int 0 0,.int es.size 0,.int ep 0] } }):wpAny (model prog w) A (pyIter (.ref v)) Q E s:=by
  obtain ⟨ov,g1,_,g2⟩:=id hv
  obtain ⟨od,g3,_,g4⟩:=id hD
  have own:Builtin.Dict_items.ownsTuple "dict_valueiterator" = false:=by decide
  refine wpAny_pyIter_slot hv.typeIs F.slot_dict_values_iter (wpAny_call_entry F.slot_dict_values_iter hv.typeIs F.entry_dict_values_iter ?_ (F.args_dict_values_iter_1 _))
  unfold Builtin.«dict_values.__iter__» Builtin.Dict_items.dictOf Builtin.Dict_items.newIterator
  have step : ∀ (Q':PySem.Fin→Shared→Prop),Q' (.done (.ret (.ref s.heap.objs.size))) { s with heap:=s.heap.push { cls :=.type "dict_valueiterator",data :=.fields #[.ref d,.int 0 0,.int es.size 0,.int ep 0] } }→True:=fun _ _=>trivial
  refine wpAny_bind (wpAny_pure (wpAny_bind (wpAny_bind (wpAny_field g1 g2 (x :=.ref d) rfl (wpAny_pure (wpAny_bind (wpAny_bind (wpAny_dictEntries g3 g4 (wpAny_bind (wpAny_dictEpoch g3 g4 ?_))))))))))
  simp only [own,Bool.false_eq_true,if_false]
  refine wpAny_newObj_type (wpAny_pure ⟨_,rfl,"dict_valueiterator",_,⟨_,Heap.get?_push_size _ rfl,rfl⟩,F.slot_dict_valueiterator_next.lookup,?_⟩)
  simpa [rawInt] using h
theorem zaah {Q:Option Value→Shared→Prop}{e:DictEntry} (hit:s.heap.IsValIter it d i es.size ep) (hD:DictIs s.heap d es ep) (hx:es[i]?=some e)
 (h : ∀ h',h'.IsValIter it d (i+1) es.size ep→Heap.SameBut it s.heap h'→Q (some e.val) { s with heap:=h' }):wpAny (model prog w) A (pyNext (.ref it)) Q E s:=by
  obtain ⟨o,g1,g2,g3⟩:=id hit
  obtain ⟨od,g4,_,g5⟩:=id hD
  have own:Builtin.Dict_items.ownsTuple "dict_valueiterator" = false:=by decide
  have lt:i<es.size:=(Array.getElem?_eq_some_iff.mp hx).1
  unfold pyNext
  refine wpAny_bind (wpAny_attempt (wpAny_callSpecial?_slot (name:=Str.ofString "__next__") hit.typeIs F.slot_dict_valueiterator_next (wpAny_call_entry F.slot_dict_valueiterator_next hit.typeIs F.entry_dict_valueiterator_next ?_ (F.args_dict_valueiterator_next_1 _))))
  wp_walk using wpAny_typeNameOfWhole_valiter hit.typeIs,wpAny_fieldsOf g1 g3,wpAny_dictEntries g4 g5,wpAny_dictEpoch g4 g5,wpAny_isOneOf_valiter hit.typeIs
  rw [show (if ((i:Nat):Int)<0 then none else es[((i:Nat):Int).toNat]?)=some e by rw [if_neg (by omega),Int.toNat_natCast];exact hx]
  have it2:(s.heap.update it (Obj.mapFields (·.setIfInBounds 1 (rawInt ((i:Int)+1))))).IsValIter it d (i+1) es.size ep :=
   ⟨_,Heap.get?_update_self _ g1 (Obj.isFreed_of_fields (Obj.data_mapFields g3 _)),(Obj.cls_mapFields ..).trans g2,by rw [Obj.data_mapFields g3];simp [rawInt]⟩
  refine wpAny_bind (wpAny_bind (wpAny_typeNameOfWhole_valiter hit.typeIs (wpAny_pure (wpAny_bind (wpAny_isOneOf_valiter hit.typeIs ?_)))))
  show wpAny _ _ (setField (.ref it) 1 (rawInt ((i:Int)+1)) >>= _) _ _ s
  refine wpAny_bind (wpAny_setField g1 g3 (by simp) ?_)
  wp_walk using wpAny_isOneOf_valiter (s:={ s with heap:=s.heap.update it (Obj.mapFields (·.setIfInBounds 1 (rawInt ((i:Int)+1)))) }) it2.typeIs
  exact ⟨_,rfl,wpAny_pure (h _ it2 (Heap.SameBut.update ..))⟩
theorem zafl {Q:Option Value→Shared→Prop} (hh:A.handled=none) (hit:s.heap.IsValIter it d i es.size ep) (hD:DictIs s.heap d es ep) (hx:es.size≤i)
 (h : ∀ h',Heap.ExtBut it s.heap h'→Q none { s with heap:=h' }):wpAny (model prog w) A (pyNext (.ref it)) Q E s:=by
  obtain ⟨o,g1,g2,g3⟩:=id hit
  obtain ⟨od,g4,_,g5⟩:=id hD
  have own:Builtin.Dict_items.ownsTuple "dict_valueiterator" = false:=by decide
  unfold pyNext
  refine wpAny_bind (wpAny_attempt (wpAny_callSpecial?_slot (name:=Str.ofString "__next__") hit.typeIs F.slot_dict_valueiterator_next (wpAny_call_entry F.slot_dict_valueiterator_next hit.typeIs F.entry_dict_valueiterator_next ?_ (F.args_dict_valueiterator_next_1 _))))
  wp_walk using wpAny_typeNameOfWhole_valiter hit.typeIs,wpAny_fieldsOf g1 g3,wpAny_dictEntries g4 g5,wpAny_dictEpoch g4 g5,wpAny_isOneOf_valiter hit.typeIs
  rw [show (if ((i:Nat):Int)<0 then none else es[((i:Nat):Int).toNat]?)=none by rw [if_neg (by omega),Int.toNat_natCast];exact Array.getElem?_eq_none hx]
  refine wpAny_bind (wpAny_bind (wpAny_typeNameOfWhole_valiter hit.typeIs (wpAny_pure ?_)))
  show wpAny _ _ (setField (.ref it) 0 .none >>= _) _ _ s
  refine wpAny_bind (wpAny_setField g1 g3 (by simp) ?_)
  wp_walk
  simp only [raiseNew]
  refine wpAny_bind (wpAny_handled ?_)
  rw [show A.in1.handled=none from hh]
  refine wpAny_bind (wpAny_pure (wpAny_throw ?_))
  refine wpAny_bind (wpAny_isInstance (T := "StopIteration") (b:=true) ⟨_,Heap.get?_push_size _ rfl,rfl⟩ isSubtype_stop ?_)
  exact wpAny_pure (h _ (((Heap.SameBut.update ..).extBut.push _).push _))
theorem qrk (hh:A.handled=none) (I d:Addr) (hne:d≠I) (es:Array DictEntry) (ep:Nat):Walks prog w A I [I,d] [I] es.size (fun i v => ∃ e,es[i]?=some e∧e.val=v) (fun i h=>h.IsValIter I d i es.size ep∧DictIs h d es ep) where
 sub:=fun b hb=>by simp at hb;simp [hb]
 frame:=fun _ _ _ st hk=>⟨st.1.at fun o e=>hk I (by simp) o e,st.2.at fun o e=>hk d (by simp) o e⟩
 item:=fun i s Q E hi st hQ=>by
  have hx:es[i]?=some es[i]:=Array.getElem?_eq_getElem hi
  refine zaah st.1 st.2 hx fun h' i2 sb=>hQ _ h' s.toks ⟨_,hx,rfl⟩ ⟨i2,st.2.at fun o e=>sb.extBut d o hne e⟩ fun b o hb e=>sb.extBut b o (fun z=>hb (by simp [z])) e
 done:=fun s Q E st hQ=>zafl hh st.1 st.2 (Nat.le_refl _) fun h' k=>hQ h' s.toks fun b o hb e=>k b o (fun z=>hb (by simp [z])) e
 self:=fun _ _ _ _ st hQ=>wpAny_pyIter_valiter st.1 hQ
theorem qwy {r:Addr}:KdlSrc prog w "dict_values" r d es.size (fun i v => ∃ e,es[i]?=some e∧e.val=v) (fun h=>h.IsValuesView r d∧DictIs h d es ep) where
 type:=fun _ hm=>hm.1.typeIs
 there:=fun _ hm=>⟨let ⟨_,ho,_⟩:=hm.1;Heap.lt_size ho,let ⟨_,ho,_⟩:=hm.2;Heap.lt_size ho⟩
 keep:=fun _ _ hm hk=>⟨let ⟨o,ho,x⟩:=hm.1; ⟨o,hk r (.inl rfl) o ho,x⟩,hm.2.at fun o e=>hk d (.inr rfl) o e⟩
 notList:=by decide
 notTuple:=by decide
 hint:=fun _ _ _ _ hm hq=>kdl_hint_values hm.1.typeIs hq
 iter:=fun _ _ hh hm=>⟨_,_,(fun _ _ hq=>zabe hm.1 hm.2 hq),qrk hh _ d (Nat.ne_of_lt (let ⟨_,ho,_⟩:=hm.2;Heap.lt_size ho)) es ep,⟨⟨_,Heap.get?_push_size _ rfl,rfl,rfl⟩,hm.2.at fun o e=>Heap.get?_push_of_some _ e⟩⟩
end
end L2
namespace L2
open PySem PySem.Spec PyProof.Rows PySem.W
section
variable {prog:Program}{w:World}{K:Type} [DecidableEq K] {knd:HeapKind prog w K}{A:Around}{E:Value→Shared→Prop}{s:Shared}{d a:Addr}{xs:List (K×Addr×Value)}{k:K}{dv:Value}
theorem qtn {Q:Value→Shared→Prop} (hu:knd.room A) (hk:knd.is s.heap k a) (hm:s.heap.DictOfH knd d xs) (hz:xs.length≤sizeLine) (h1 : ∀ p,atKey xs k=some p→Q p.2 { s with toks:=s.toks+knd.draws k })
 (h2:atKey xs k=none → ∀ h',h'.DictOfH knd d (storedH xs k a dv)→Heap.SameBut d s.heap h'→Q dv { s with heap:=h',toks:=s.toks+knd.draws k }):wpAny (model prog w) A (dictSetDefault d (.ref a) dv) Q E s:=by
 obtain ⟨o,es,ep,ho,hx,hd,he,his,hn⟩:=hm
 unfold dictSetDefault
 refine wpAny_holding (wpAny_bind (knd.pyHash hu hk (wpAny_bind (wpAny_dictFind_heap (s:={ s with toks:=s.toks+knd.draws k }) hu hk ho hd he his hn (fun no=>?_) fun j p hj=>?_))))
 ·have an:=atKey_none_of_get no
  have nm:=not_mem_keys_of_get no
  refine wpAny_bind (wpAny_rule (wpAny_bind (wpAny_updateDictKeys (hz:=by have e:=size_of_entries he;omega) (s:={ s with toks:=s.toks+knd.draws k }) ho hd (wpAny_pure (h2 an _ ?_ (Heap.SameBut.update ..))))))
  rw [storedH_new an]
  refine ⟨_,_,ep+1,Heap.get?_update_self _ ho (Obj.isFreed_of_dict (Obj.data_mapDictKeys hd _)),hx.mapDictKeys _,Obj.data_mapDictKeys hd _,by simp [he,entryOfKey],fun x mx=>?_,?_⟩
  ·rcases List.mem_append.mp mx with m|m
   ·exact knd.keeps (his x m) ho hd (Heap.SameBut.update ..)
   ·rw [List.mem_singleton.mp m];exact knd.keeps hk ho hd (Heap.SameBut.update ..)
  ·rw [List.map_append,List.nodup_append]
   refine ⟨hn,by simp,fun x mx y my e=>nm ?_⟩
   have:y=k:=by simpa using my
   rw [← this,← e];exact mx
 ·refine wpAny_bind (wpAny_dictEntries (s:={ s with toks:=s.toks+knd.draws k }) ho hd ?_)
  rw [entry_at he j,hj]
  exact wpAny_bind (wpAny_rule (wpAny_pure (h1 p (atKey_of_get hn hj))))
theorem qtk {Q:Value→Shared→Prop} (hu:knd.room A.in1) (hk:knd.is s.heap k a) (hy:(d==sysModules)=false) (hm:s.heap.DictOfH knd d xs) (hz:xs.length≤sizeLine) (h1 : ∀ p,atKey xs k=some p→Q p.2 { s with toks:=s.toks+knd.draws k })
 (h2:atKey xs k=none → ∀ h',h'.DictOfH knd d (storedH xs k a dv)→Heap.SameBut d s.heap h'→Q dv { s with heap:=h',toks:=s.toks+knd.draws k }):wpAny (model prog w) A (call (.builtin "dict.setdefault") [.ref d,.ref a,dv]) Q E s:=by
 refine wpAny_call_entry F.slot_dict_setdefault hm.typeIs F.entry_dict_setdefault ?_ (F.args_dict_setdefault_3 _ _ _)
 unfold Builtin.«dict.setdefault» Builtin.Dict.keyAndDefault
 refine wpAny_bind (wpAny_bind (wpAny_notOrdered_dict hm.typeIs ?_))
 show wpAny _ _ (pure (d,Value.ref a,some dv)) _ _ s
 refine wpAny_pure ?_
 show wpAny _ _ (if (d==sysModules)=true then _ else (dictSetDefault d (.ref a) dv >>= _)) _ _ s
 rw [if_neg (by rw [hy];exact Bool.false_ne_true)]
 exact wpAny_bind (qtn hu hk hm hz (fun p e=>wpAny_pure ⟨_,rfl,h1 p e⟩) fun an h' q sb=>wpAny_pure ⟨_,rfl,h2 an h' q sb⟩)
end
section
variable {X:Cx}{pins:List (Addr×Obj)}{σ:St}{H:Hp}{s:Shared}{a b:Addr}{A:Around}{E:Value→Shared→Prop}{kvs:List (List Key×V)}{k:List Key}{dv:V}{r:Value}
theorem zaep {Q:Value→Shared→Prop} (hu:A.units+1<cLine) (I:Inv X pins σ H s) (e:H a=some (.dT kvs)) (eb:H b=some (.tup (k.map kV))) (hl:kvs.length<sizeLine) (rd:RelV dv r)
 (h1 : ∀ v,qms kvs k=some v → ∀ u s',Inv X pins σ H s'→RelV v u→Q u s') (h2:qms kvs k=none → ∀ s',Inv X pins σ (upd H a (.dT (quu kvs k dv))) s'→Q r s') :
 wpAny (model X.prog X.w) A (call (.builtin "dict.setdefault") [.ref a,.ref b,r]) Q E s:=by
  obtain ⟨z,hd,xs,rel,dd⟩:=zahs I.hok e
  have hz:xs.length≤sizeLine:=by rw [← Paired.length rel];exact z
  have rv:=rel.val k
  refine qtk (tupleKind_room_in1 hu) (zahm I.hok eb) hd dd hz (fun p ep=>?_) fun an h' dd' sb=>?_
  ·rw [ep] at rv
   cases ev:qms kvs k with
   | none=>rw [ev] at rv;exact rv.elim
   | some v=>rw [ev] at rv;exact h1 v ev _ _ (I.tok _) rv
  ·rw [an] at rv
   cases ev:qms kvs k with
   | some v=>rw [ev] at rv;exact rv.elim
   | none =>
    have l2:(quu kvs k dv).length≤sizeLine:=by have:=qtu kvs k dv;omega
    refine h2 ev _ ?_
    obtain ⟨q,es,ep,hq,g2,g3,g4,_,g5⟩:=dd'
    refine zajf I (by rw [e];exact True.intro) sb ⟨q,hq⟩ ⟨l2,hd,_,(rel.put k eb rd).keeps fun c ys ec=>?_,q,es,ep,hq,g2,g3,g4,g5⟩
    rw [qj (zaqf ec e (fun z=>nomatch z))]
    exact ec
end
end L2
namespace L2
open PySem PySem.Spec PyProof.Rows PySem.W
section
variable {X:Cx}{pins:List (Addr×Obj)}{σ:St}{H:Hp}{s:Shared}{E:Value→Shared→Prop}{f:Addr}{es:Array DictEntry}{ep:Nat}{kl:Nat→List Int}{G:Hp→Prop}{m:Nat}{r d:Addr}{Q:Value→Shared→Prop}{vs:List Value}
theorem qwk {acc:Array Value} (h:ItemsOf (fun i v => ∃ e,es[i]?=some e∧e.val=v) acc es.size):acc.toList=es.toList.map (·.val):=by
 refine List.ext_getElem? fun i=>?_
 obtain ⟨h1,h2⟩:=h
 rw [Array.getElem?_toList,List.getElem?_map,Array.getElem?_toList]
 by_cases hi:i<es.size
 ·have e:acc[i]?=some (acc[i]'(by omega)):=Array.getElem?_eq_getElem _
  obtain ⟨k,hk,hv⟩:=h2 i _ e
  rw [e,hk,← hv];rfl
 ·rw [Array.getElem?_eq_none (by omega),Array.getElem?_eq_none (by omega)];rfl
theorem qtl (hu:X.A.in1.in1.units<cLine) (hh:X.A.handled=none) (I:Inv X pins σ H s) (hv:s.heap.IsValuesView r d) (hd:DictIs s.heap d es ep) (ev:es.toList.map (·.val)=vs) (hn:vs.length<64) (hc:qne X pins σ X.A.in1.in1 (.ref f) vs kl G) (o:OrdN vs.length (qau kl m))
 (hm : ∀ i,i<vs.length→(kl i).length=m) (g:G H)
 (k : ∀ (p:Array Nat) (l:Addr) (H':Hp) (s':Shared) (c:Nat),PmN vs.length p→SrtN (qau kl m) p vs.length→Inv X pins σ H' s'→Same H H'→G H'→OwnA X pins l→H' l=none→s'.heap.get? l=some (seqObj "list" (p.toList.map fun i=>vs.getD i .none).toArray c)→Q (.ref l) s') :
 wpAny (model X.prog X.w) X.A (call (.builtin "sorted") [.ref r] [(Str.ofString "key",.ref f)]) Q E s:=by
  subst ev
  have zl:es.size=(es.toList.map (·.val)).length:=by rw [List.length_map,Array.length_toList]
  refine call_function_entry_kw kind_sorted plain_sorted entry_sorted (ksk_s1 _ _) ?_
  unfold Builtin.«sorted»
  refine wpAny_bind (m:=checkCount "sorted" 1 1 _) (wpAny_pure (wpAny_bind (kdu_collect (T := "dict_values") (qwy (es:=es) (ep:=ep)) hh ⟨hv,hd⟩ (by rw [sizeLine_eq];omega) fun h1 tk acc keep items=>?_)))
  rw [qwk items]
  have I1:=I.kept (t':=tk) keep
  have hL:(h1.push (seqObj "list" (es.toList.map (·.val)).toArray 0)).get? h1.objs.size=some (seqObj "list" (es.toList.map (·.val)).toArray 0):=Heap.get?_push_size _ rfl
  refine wpAny_bind (wpAny_newList ?_ (by rw [sizeLine_eq];omega))
  have I2:=I1.kept (t':=tk) (h':=h1.push (seqObj "list" (es.toList.map (·.val)).toArray 0)) fun b u e=>Heap.get?_push_of_some _ e
  have ow:=zahv I1 (Nat.le_refl _)
  have nl:=I1.hok.fresh (Nat.le_refl _)
  refine wpAny_bind (wpAny_holding (wpAny_call_entry_kw slot_list_sort ⟨_,hL,rfl⟩ entry_list_sort ?_ (ksk_l1 _ _)))
  show wpAny (model X.prog X.w) X.A.in1.in1 (Builtin.«list.sort» ⟨[.ref h1.objs.size],[(Str.ofString "key",.ref f)]⟩) _ _ _
  rw [ksk_t1]
  refine qwm hu hc o hm I2 ow nl hn hL g fun p H' s' c hp hs I' sm g' na ha=>?_
  exact ⟨_,rfl,wpAny_pure ⟨_,rfl,k p _ H' s' c hp hs I' sm g' ow na ha⟩⟩
end
section
variable {X:Cx}{o e f:Expr}{apos cpos:Pos}{td ty tx:TE}
def zagx (td ty tx:TE):TE:=fun σ H Q=>td σ H fun x H1 => ∃ a,x = .ref a∧IsD H1 a∧ty σ H1 fun y H2=>tx σ H2 fun z H3 => ∃ kvs k b,H3 a=some (.dT kvs)∧y = .ref b∧H3 b=some (.tup (k.map kV))∧kvs.length<sizeLine ∧
 (∀ v,qms kvs k=some v→Q v H3)∧(qms kvs k=none→Q z (upd H3 a (.dT (quu kvs k z))))
theorem qwn (hu:X.A.units+1<cLine) (ho:PE X o td) (he:PE X e ty) (hf:PE X f tx) (m:M2 X o "setdefault" apos e f cpos):PE X (.Call (.Attribute o "setdefault" apos) [e,f] [] cpos) (zagx td ty tx):=by
 intro pins s σ H Q I h
 refine wpAny_Call_method m.base m.few m.line PySem.F.plainAttrs_dict PySem.F.slot_dict_setdefault PySem.F.type_dict_setdefault (thn (ho pins s σ H _ I h) fun u s1 xx166=>?_)
 obtain ⟨x,H1,I1,rx,a,ex,d,q1⟩:=xx166
 subst ex
 obtain rfl:u=Value.ref a:=rx
 obtain ⟨t1,t2,_⟩:=zahq I1 d
 refine ⟨t1,t2,?_⟩
 rw [m.trees]
 refine Calls.callWith_builtin rfl (Calls.evalArgs_plain (Calls.spliced_cons (thn (he pins s1 σ H1 _ I1 q1) fun iv s2 ⟨y,H2,I2,ry,q2⟩=>Calls.spliced_cons (thn (hf pins s2 σ H2 _ I2 q2) fun fv s3 ⟨z,H3,I3,rz,kvs,k,b,ea,ey,eb,hl,q3,q4⟩=>Calls.spliced_nil ?_))))
 subst ey
 obtain rfl:iv=Value.ref b:=ry
 exact zaep hu I3 ea eb hl rz (fun v ev u s4 I4 ru=>⟨_,H3,I4,ru,q3 v ev⟩) fun ev s4 I4=>⟨_,_,I4,rz,q4 ev⟩
end
end L2
namespace L2
open PySem PySem.Spec PyProof.Rows PySem.W
section
variable {X:Cx}{pins:List (Addr×Obj)}{σ:St}{H:Hp}{s:Shared}{a:Addr}{A:Around}{E:Value→Shared→Prop}{kvs:List (List Key×V)}
abbrev qwc (d:Addr):Obj:={ cls :=.type "dict_values",data :=.fields #[.ref d] }
theorem zadp {Q:Value→Shared→Prop} (I:Inv X pins σ H s) (e:H a=some (.dT kvs)) (h:Q (.ref s.heap.objs.size) { s with heap:=s.heap.push (qwc a) }):wpAny (model X.prog X.w) A (call (.builtin "dict.values") [.ref a]) Q E s:=by
 obtain ⟨_,hd,xs,_,dd⟩:=zahs I.hok e
 refine wpAny_call_entry F.slot_dict_values dd.typeIs F.entry_dict_values ?_ (F.args_dict_values_1 _)
 refine wpAny_bind ?_
 unfold Builtin.Dict.noArgs
 refine wpAny_bind (wpAny_notOrdered_dict dd.typeIs ?_)
 show wpAny _ _ (pure a) _ _ s
 refine wpAny_pure ?_
 show wpAny _ _ (Builtin.Dict.showsAll a >>= _) _ _ s
 unfold Builtin.Dict.showsAll
 rw [if_neg (by rw [hd];exact Bool.false_ne_true)]
 exact wpAny_bind (wpAny_pure (wpAny_bind (wpAny_newObj_type (wpAny_pure ⟨_,rfl,h⟩))))
theorem zajp (I:Inv X pins σ H s) (e:H a=some (.dT kvs)) : ∃ es ep,DictIs s.heap a es ep∧Vals (kvs.map (·.2)) (es.toList.map (·.val)):=by
 obtain ⟨_,_,xs,rel,o,es,ep,h1,h2,h3,h4,_,_⟩:=zahs I.hok e
 refine ⟨es,ep,⟨o,h1,h2,h3⟩,?_⟩
 rw [h4,List.map_map]
 have : ∀ {l:List (List Key×V)}{m:List (List Key×Addr×Value)},KT H l m→Vals (l.map (·.2)) (m.map ((·.val) ∘ entryOfKey (tupleKind (qcj X.prog X.w)))):=by
  intro l m q
  induction q with
  | nil=>exact .nil
  | @cons p q ps qs hq t ih=>exact .cons hq.2.2 ih
 exact this rel
end
section
variable {X:Cx}{pins:List (Addr×Obj)}{σ:St}{x y:Str}{scope:Scope}{params:Arguments}{body:Expr}{te:TE}{f cg c:Addr}{pm ct:Value}{vg:V}{vsV:List V}{vs:List Value}{kl:Nat→List Int}{G:Hp→Prop}{oc:Obj}{uu:HO}{fv:Array Value}{q:Str}{t:Tok}{nm qual:Str}{iy:Nat}
theorem zakw (S:LamScope scope x y) (hh:X.A.handled=none) (room:X.A.in1.in1.depth<recursionLimit) (hpin:(f,({ cls :=.type "function",data :=.func (kla_fn nm qual params body scope [(y,cg)] pm (.ref c) ct) }:Obj)) ∈ pins)
 (hb : ∀ u,bindArgs (kla_fn nm qual params body scope [(y,cg)] pm (.ref c) ct) ⟨[u],[]⟩=pure [(x,u)]) (d1:oc.data = .fields fv) (d2:fv[1]?=some (.str q t)) (hcl:X.env.cells.lookup y=some cg) (hyk:X.env.kindOf y=some .cell) (hN:X.N[iy]?=some y) (hv:σ[iy]?=some (some vg)) (rv:Vals vsV vs)
 (hfr:X.A.in1.in1.frames=X.A.frames) (hhd:X.A.in1.in1.handled=X.A.handled)
 (he : ∀ s H,PE (cxL X.prog X.w X.K X.mg X.base q scope f (.ref c) [(y,cg)] [x,y] X.A.in1.in1 X.stack s H) body te)
 (hk : ∀ (i:Nat) (v:V) (H:Hp),vsV[i]?=some v→G H→te [some v,some vg] H fun r H'=>Same H H'∧G H' ∧ ∃ p,r = .ref p∧H' p=some (.lst ((kl i).map V.int))) :
 qne X pins σ X.A.in1.in1 (.ref f) vs kl (fun H=>G H∧H c=some (.frz oc uu)):=by
 intro i u H s hi I g
 obtain ⟨g,ec⟩:=g
 have li:i<vs.length:=(List.getElem?_eq_some_iff.mp hi).1
 have lv:i<vsV.length:=by rw [rv.length];exact li
 have ev:vsV[i]?=some vsV[i]:=List.getElem?_eq_getElem lv
 obtain ⟨u',hu',ru⟩:=rv.get ev
 rw [hi] at hu'
 have eu:=Option.some.inj hu'
 subst eu
 obtain ⟨mm,ns,lk⟩:=I.loc
 obtain ⟨ug,rg,look⟩:=lk iy y vg hN hv (.inr (.inl hyk))
 have hc:s.heap.IsCell cg (some ug):=by
  rcases look with ⟨z,_⟩|⟨_,c',e1,e2⟩
  ·rw [hyk] at z;cases z
  ·rw [hcl] at e1
   rw [Option.some.inj e1];exact e2
 have e0:=I.env0
 have e1:Env0 X.prog X.w X.K X.mg X.base X.A.in1.in1 X.stack s H:=⟨by rw [hfr];exact e0.frames,e0.mod,e0.bs,e0.bsz,e0.funs,e0.frf,e0.hok,e0.bare⟩
 have pf:=I.pin _ (List.mem_append_right _ hpin)
 refine wpAny_call (codeAny_mono (zajo (E:=fun _ _ _=>False) S (by rw [hhd];exact hh) e1 room pf.1 rfl (hb u) (I.hok c _ ec).1 d1 d2 hc (I.freeC y cg hcl) rg ru (he s H) (hk i _ H ev g)) fun r s' hr=>?_)
 cases r with
 | error e=>exact hr.elim
 | ok fl =>
  cases fl with
  | ret u2 =>
   obtain ⟨v',H',os,bare,un,hok,r',sm,g',p,ep,hp⟩:=hr
   subst ep
   obtain rfl:u2=Value.ref p:=r'
   exact ⟨H',I.call' os un hok bare (fun b z=>nomatch z),un,sm,⟨g',sm _ _ ec⟩,p,rfl,hp⟩
  | next=>exact hr.elim
  | brk=>exact hr.elim
  | cont=>exact hr.elim
end
theorem qrd {vsV:List V}{vs:List Value} (h:Vals vsV vs) : ∀ {l:List Nat},(∀ i ∈ l,i<vs.length)→Vals (l.map fun i=>vsV.getD i V.non) (l.map fun i=>vs.getD i Value.none)
 | [],_ => .nil
 | i::l,k=>by
  have hi:=k i (by simp)
  have ev:vsV[i]?=some (vsV[i]'(by rw [h.length];exact hi)):=List.getElem?_eq_getElem _
  obtain ⟨u,hu,ru⟩:=h.get ev
  refine .cons ?_ (qrd h fun j hj=>k j (List.mem_cons_of_mem _ hj))
  have a1:vsV.getD i V.non=(vsV[i]?).getD V.non:=by simp [List.getD]
  have a2:vs.getD i Value.none=(vs[i]?).getD Value.none:=by simp [List.getD]
  show RelV (vsV.getD i V.non) (vs.getD i Value.none)
  rw [a1,a2,ev,hu]
  exact ru
def tSK (tb:Addr) (ig iy:Nat) (te:TE):TE:=fun σ H Q => ∃ (d:Addr) (kvs:List (List Key×V)) (vg:V) (kl:Nat→List Int) (m:Nat),(σ[ig]?=some (some (.ref d))∧σ[iy]?=some (some vg)∧H d=some (.dT kvs)∧kvs.length<64) ∧
 OrdN (kvs.map (·.2)).length (qau kl m)∧(∀ i,i<(kvs.map (·.2)).length→(kl i).length=m) ∧ ∀ H1,TbGo tb H H1 → ∃ G:Hp→Prop,G H1 ∧
  (∀ (i:Nat) (v:V) (H2:Hp),(kvs.map (·.2))[i]?=some v→G H2→te [some v,some vg] H2 fun r H3=>Same H2 H3∧G H3 ∧ ∃ p,r = .ref p∧H3 p=some (.lst ((kl i).map V.int))) ∧
  ∀ (p:Array Nat) (l:Addr) (H3:Hp),PmN (kvs.map (·.2)).length p→SrtN (qau kl m) p (kvs.map (·.2)).length→Same H1 H3→G H3→H3 l=none→H l=none→Q (.ref l) (upd H3 l (.lst (p.toList.map fun i=>(kvs.map (·.2)).getD i .non)))
section
variable {X:Cx}{x y g:Str}{scope:Scope}{params:Arguments}{body:Expr}{te:TE}{cg c0 tb:Addr}{ig iy:Nat}{np gp ap cp lp kp pos:Pos}
theorem qwa (hu:X.A.in1.in1.units<cLine) (hh:X.A.handled=none) (room:X.A.in1.in1.depth<recursionLimit) (hT:TbS tb X.H₀) (hcode:X.env.code = .ref c0) (C:CodeHd X.base c0 tb) (hbt:X.base.BuiltinsAt X.mg tb) (hg:Gl X "sorted") (hm:X.mg "sorted" = none) (hvar:PE X (.Name g gp) (tVar ig)) (S:LamScope scope x y)
 (hcl:closureFor scope X.env=pure [(y,cg)]) (hlk:X.env.cells.lookup y=some cg) (hyk:X.env.kindOf y=some .cell) (hN:X.N[iy]?=some y)
 (hb : ∀ nm qual pm c ct u,bindArgs (kla_fn nm qual params body scope [(y,cg)] pm (.ref c) ct) ⟨[u],[]⟩=pure [(x,u)])
 (he : ∀ q f c s H,PE (cxL X.prog X.w X.K X.mg X.base q scope f (.ref c) [(y,cg)] [x,y] X.A.in1.in1 X.stack s H) body te)
 (hdef:defaultsOf params X.env=([],[]):=by rfl) (hfr:X.A.in1.in1.frames=X.A.frames:=by rfl) (hhd:X.A.in1.in1.handled=X.A.handled:=by rfl)
  (hbase:attributeBase (.Name g gp) "values" X.env (eval (.Name g gp) X.env)=eval (.Name g gp) X.env:=by rfl)
  (hfew:((backTo cp (starEach [] X.env)).all (fun x => !x.1)&&(backToKw cp (keywordEach [] X.env)).all (fun x=>x.1.isSome)&&decide (([]:List Expr).length+([]:List Keyword).length+(if ([]:List Keyword).isEmpty then 0 else 1)<30))=true:=by rfl)
  (hline:(ap.endLine==cp.line)=true:=by rfl) :
  PE X (.Call (.Name "sorted" np) [.Call (.Attribute (.Name g gp) "values" ap) [] [] cp] [⟨some "key",.Lambda params body scope lp,kp⟩] pos) (tSK tb ig iy te):=by
  intro pins s σ H Q I h
  obtain ⟨d,kvs,vg,kl,m,⟨e1,e2,ed,hn⟩,o,hm',rest⟩:=h
  have T:=TbS.of I hT
  refine wpAny_Call_Name_kw (qho I hg hm boot_sorted ?_)
  refine callWith_kw ?_
  show wpAny _ _ (spliced [(false,eval (.Call (.Attribute (.Name g gp) "values" ap) [] [] cp) X.env)]) _ _ s
  refine Calls.spliced_cons ?_
  refine wpAny_Call_method hbase hfew hline PySem.F.plainAttrs_dict PySem.F.slot_dict_values PySem.F.type_dict_values (thn (hvar pins s σ H (fun v H'=>v = .ref d∧H'=H) I ⟨_,e1,rfl,rfl⟩) fun u s1 xx168=>?_)
  obtain ⟨v1,H1,I1,r1,ev,eH⟩:=xx168
  subst ev
  subst eH
  obtain rfl:u=Value.ref d:=r1
  obtain ⟨t1,t2,_⟩:=zahq I1 (.inr ⟨kvs,.inl ed⟩)
  refine ⟨t1,t2,?_⟩
  refine Calls.callWith_builtin rfl (PySem.evalArgs_none ?_)
  refine zadp I1 ed ?_
  have hkp : ∀ b u,s1.heap.get? b=some u→(s1.heap.push (qwc d)).get? b=some u:=fun b u e=>Heap.get?_push_of_some _ e
  have gv:(s1.heap.push (qwc d)).get? s1.heap.objs.size=some (qwc d):=Heap.get?_push_size _ rfl
  have ow:=zahv I1 (Nat.le_refl _)
  have nv:=I1.hok.fresh (Nat.le_refl _)
  have nfs:s1.heap.objs.size ∉ X.fs:=fun z=>ow.f (by
   rcases I1.ok.stk with q|⟨q,q2⟩
   ·rw [q];exact z
   ·rw [q];unfold frs;rw [List.filterMap_cons,q2];exact List.mem_cons_of_mem _ z)
  have I2:=(I1.kept (t':=s1.toks) hkp).pinOne gv nv ow.l nfs (fun v z=>by cases z)
  refine Calls.spliced_nil ?_
  refine kws_cons (kla_eval hdef (zafo I2 (TbS.of I2 hT) hcode C hbt hcl fun f c ct pm oc fv q t s3 H3 I3 go new hf xx167 d1 d2=>?_))
  obtain ⟨uu,ec⟩:=xx167
  refine kws_nil ?_
  show wpAny _ _ (call (.builtin "sorted") [.ref s1.heap.objs.size] [(Str.ofString "key",.ref f)]) _ _ s3
  obtain ⟨G,g0,hk,fin⟩:=rest H3 go
  have ne:d≠tb:=fun z=>by
   obtain ⟨ps,et,_⟩:=TbS.of I1 hT
   rw [← z,ed] at et;cases et
  have ed3:H3 d=some (.dT kvs):=go.h _ _ ne ed
  obtain ⟨es,ep,hD,hV⟩:=zajp I3 ed3
  have hvw:s3.heap.IsValuesView s1.heap.objs.size d:=⟨_,(I3.pin (s1.heap.objs.size,qwc d) (List.mem_append_right _ (List.mem_append_left _ (List.mem_append_right _ (List.mem_singleton.mpr rfl))))).1,rfl,rfl⟩
  have zl:(es.toList.map (·.val)).length=(kvs.map (·.2)).length:=hV.length.symm
  refine qtl hu hh I3 hvw hD rfl (by rw [zl,List.length_map];exact hn) (zakw (G:=G) (kl:=kl) (uu:=uu) (oc:=oc) (vsV:=kvs.map (·.2)) (iy:=iy) S hh room (List.mem_append_right _ (List.mem_singleton.mpr rfl)) (fun u=>hb _ _ _ _ _ u) d1 d2 hlk hyk hN e2 hV hfr hhd (fun s H=>he q f c s H) hk) (by rw [zl];exact o) (by rw [zl];exact hm') ⟨g0,ec⟩ fun p l H4 s4 cc hp hs I4 sm g4 ow4 nl hl=>?_
  have hp':PmN (kvs.map (·.2)).length p:=by rw [← zl];exact hp
  have hs':SrtN (qau kl m) p (kvs.map (·.2)).length:=by rw [← zl];exact hs
  have nl0:H1 l=none:=by
   cases eq:H1 l with
   | none=>rfl
   | some o' =>
    exfalso
    by_cases z:l=tb
    ·obtain ⟨ps,et,_⟩:=go.ts
     rw [← z] at et
     have:=sm _ _ et
     rw [nl] at this;cases this
    ·have:=sm _ _ (go.h _ _ z eq)
     rw [nl] at this;cases this
  have vp:Vals (p.toList.map fun i=>(kvs.map (·.2)).getD i V.non) (p.toList.map fun i=>(es.toList.map (·.val)).getD i Value.none):=qrd hV fun i hi=>by
   have:=hp.p.mem_iff.mp hi
   exact List.mem_range.mp this
  have I5:=I4.track (u :=.lst (p.toList.map fun i=>(kvs.map (·.2)).getD i V.non)) ow4 nl ⟨by rw [List.length_map,Array.length_toList,hp.s,zl,List.length_map,sizeLine_eq];omega,_,cc,vp,hl⟩
  exact ⟨.ref l,_,I5.unpinned.unpinned,rfl,fin p l H4 hp' hs' sm g4.1 nl nl0⟩
end
end L2
namespace L2
open PySem PySem.Spec PyProof.Rows PySem.W
def qpg (tb:Addr) (K:PySem.W.Frag):Sp:=fun vs H Q E=>TbS tb H∧zapq K vs H Q E
section
variable {P:Program}{w:World}{K:PySem.W.Frag}{mg mb:Str→Option Value}{CX:CXT}{k:Nat}{fa a tb c0:Addr}{fd:FuncData}{x:Str}{sp:Sp}{s:Shared}{vs:List Value}{ns:List Int}
theorem qvt {H:Hp} (KX:K.In s.heap) (hns:s.heap.Ns mainGlobals mg) (hb:s.heap.Ns builtinsNs mb) (hbb : ∀ x:Str,x ≠ "__name__" → mb x=bootBuiltins x) (hlim:s.heap.NoLimit) (hg:s.gens = #[]) (ha:s.heap.get? a=some { cls :=.type "list",data :=.seq vs.toArray })
 (hr:Room k callerA) (ht:s.heap.TableAt c0 tb #[]) (hKt:K.lookup tb=none) (F : ∀ base:Heap,K.In base→base.Ns mainGlobals mg→FnOk P w K mg base CX k fa fd [x] sp) (hbind : ∀ (s:Shared) (u:Value),BindsTo s fd ⟨[u],[]⟩ [(x,u)])
 (hA : ∀ b,H b≠none→b=a∨b=tb) (hF : ∀ u,H a=some u → ∃ o xs,u = .frz o (.lst xs)) (hT:H tb=some (.tbl #[])) (hok:HOk P w H s.heap) (hK:H a≠none→K.lookup a=none)
 (hsp:sp [.ref a] H (fun v _=>v = .bl true) fun _ _ _=>False) (hCX : ∀ e s',CX [] H s (fun _ _ _=>False) e s'→False) :
 codeAny (model P w) callerA (.call (.ref fa) ⟨[.ref a],[]⟩) (fun r s'=>r = .ok (.ret (.bool true))∧OldK s.heap s'.heap∧s'.os=s.os∧AllBare s'.gens) s:=by
 have bo : ∀ {b:Addr}{o:Obj},s.heap.get? b=some o→H b=none→(qws s.heap H).get? b=some o:=fun e n=>zafh e n
 have nd : ∀ {b:Addr}{o:Obj}{es:Array DictEntry}{ep:Nat},s.heap.get? b=some o→o.data = .dict es ep→H b=none:=fun {b o es ep} e d=>by
  cases q:H b with
  | none=>rfl
  | some u =>
   rcases hA b (by rw [q];simp) with z|z
   ·subst z
    rw [ha] at e;cases e
    have d':Data.seq vs.toArray _=Data.dict es ep:=d
    cases d'
   ·subst z
    rw [ht.2] at e;cases e
    cases d
 have nsK : ∀ {b:Addr}{m:Str→Option Value},s.heap.Ns b m→(qws s.heap H).Ns b m:=fun xx169=>by obtain ⟨o,es,ep,e,d,r⟩:=xx169;exact ⟨o,es,ep,bo e (nd e d),d,r⟩
 have kb:K.In (qws s.heap H):=fun b o e=>bo (KX b o e) (by
  cases q:H b with
  | none=>rfl
  | some u =>
   rcases hA b (by rw [q];simp) with z|z
   ·subst z
    rw [hK (by rw [q];simp)] at e;cases e
   ·subst z
    rw [hKt] at e;cases e)
 have M:Mod K mg (qws s.heap H):=⟨kb,nsK hns,⟨mb,nsK hb,hbb⟩,let ⟨mc,h1,h2⟩:=hlim; ⟨mc,nsK h1,h2⟩⟩
 have e0:Env0 P w K mg (qws s.heap H) callerA [] s H:=⟨rfl,M,fun b o e=>zakg e,Nat.le_of_eq (zaad _ _),trivial,fun b hb=>absurd (show b ∈ ([]:List Addr) from hb) (by simp),hok,.of_eq hg⟩
 refine codeAny_mono ((F _ kb (nsK hns)).run callerA [] s H ⟨[.ref a],[]⟩ [.ref a] [.ref a] _ _ hr e0 (hbind s (.ref a)) (.cons rfl .nil) hsp) fun r s' h=>?_
 cases r with
 | error e=>exact (hCX e s' h).elim
 | ok fl =>
  cases fl with
  | next=>exact False.elim h
  | brk=>exact False.elim h
  | cont=>exact False.elim h
  | ret u =>
   obtain ⟨v,H',os,bare,un,hok',r',q⟩:=h
   have q':v = .bl true:=q
   subst q'
   obtain rfl:u=Value.bool true:=r'
   refine ⟨rfl,⟨fun b o e=>?_,fun b o e=>un.there b o e (by simp)⟩,os,bare⟩
   cases qb:H b with
   | none=>exact .inl (un.keep b o e qb (by simp [frs]) (by simp))
   | some u =>
    rcases hA b (by rw [qb];simp) with z|z
    ·subst z
     obtain ⟨o2,xs,e3⟩:=hF u qb
     rw [e3] at qb
     obtain ⟨e1,_⟩:=hok b _ qb
     obtain ⟨e2,_⟩:=hok' b _ (un.frzs b _ _ qb)
     rw [e] at e1;cases e1
     exact .inl e2
    ·subst z
     obtain ⟨more,e1,_⟩:=un.tbls b _ hT
     have e2:s'.heap.get? b=some (tabObj (#[]++more)):=hok' b _ e1
     rw [ht.2] at e
     cases e
     exact .inr (.inl ⟨ht.isCodeTable,rfl,#[],more,rfl,e2⟩)
theorem zaci (KX:K.In s.heap) (hns:s.heap.Ns mainGlobals mg) (hb:s.heap.Ns builtinsNs mb) (hbb : ∀ x:Str,x ≠ "__name__" → mb x=bootBuiltins x) (hlim:s.heap.NoLimit) (hg:s.gens = #[]) (ha:s.heap.get? a=some { cls :=.type "list",data :=.seq vs.toArray }) (hi:IntsAre vs ns) (hl:ns.length≤sizeLine)
 (hr:Room k callerA) (ht:s.heap.TableAt c0 tb #[]) (hKt:K.lookup tb=none) (F : ∀ base:Heap,K.In base→base.Ns mainGlobals mg→FnOk P w K mg base CX k fa fd [x] sp) (hbind : ∀ (s:Shared) (u:Value),BindsTo s fd ⟨[u],[]⟩ [(x,u)])
 (hsp : ∀ H:Hp,TbS tb H→SqL K H a (ns.map V.int)→sp [.ref a] H (fun v _=>v = .bl true) fun _ _ _=>False) (hCX : ∀ H e s',CX [] H s (fun _ _ _=>False) e s'→False) :
 codeAny (model P w) callerA (.call (.ref fa) ⟨[.ref a],[]⟩) (fun r s'=>r = .ok (.ret (.bool true))∧OldK s.heap s'.heap∧s'.os=s.os∧AllBare s'.gens) s:=by
 have rv:=qko hi
 have lv:=hi.length
 have ne:a≠tb:=fun z=>by
  have:=ht.2
  rw [← z,ha] at this
  cases this
 cases hk:K.lookup a with
 | some o =>
  have e:=KX a o hk
  rw [ha] at e
  cases e
  refine qvt (H:=fun b=>if b=tb then some (.tbl #[]) else none) KX hns hb hbb hlim hg ha hr ht hKt F hbind (fun b z=>?_) (fun u z=>?_) (if_pos rfl) (fun b u z=>?_) (fun z=>absurd (if_neg ne) z) (hsp _ ⟨#[],if_pos rfl,.nil⟩ ?_) (fun e s'=>hCX _ e s')
  ·by_cases q:b=tb
   ·exact .inr q
   ·exact absurd (if_neg q) z
  ·have:=(if_neg ne).symm.trans z
   cases this
  ·by_cases q:b=tb
   ·have z':=(if_pos q).symm.trans z
    cases z'
    rw [q];exact ht.2
   ·have z':=(if_neg q).symm.trans z
    cases z'
  ·exact .inr ⟨_,vs.toArray,_,hk,rfl,rfl,rfl,by rw [List.size_toArray,lv];exact hl,by simpa using rv⟩
 | none =>
  refine qvt (H:=fun b=>if b=tb then some (.tbl #[]) else if b=a then some (.frz { cls :=.type "list",data :=.seq vs.toArray } (.lst (ns.map V.int))) else none) KX hns hb hbb hlim hg ha hr ht hKt F hbind (fun b z=>?_) (fun u z=>?_) (if_pos rfl) (fun b u z=>?_) (fun _=>hk) (hsp _ ⟨#[],if_pos rfl,.nil⟩ ?_) (fun e s'=>hCX _ e s')
  ·by_cases q:b=tb
   ·exact .inr q
   ·by_cases q2:b=a
    ·exact .inl q2
    ·exact absurd ((if_neg q).trans (if_neg q2)) z
  ·have z':=((if_neg ne).trans (if_pos rfl)).symm.trans z
   exact ⟨_,_,(Option.some.inj z').symm⟩
  ·by_cases q:b=tb
   ·have z':=(if_pos q).symm.trans z
    cases z'
    rw [q];exact ht.2
   ·by_cases q2:b=a
    ·have z':=((if_neg q).trans (if_pos q2)).symm.trans z
     cases z'
     subst q2
     exact ⟨ha,by rw [List.length_map];exact hl,vs,_,rv,ha⟩
    ·have z':=((if_neg q).trans (if_neg q2)).symm.trans z
     cases z'
  ·exact .inl (.inr ⟨{ cls :=.type "list",data :=.seq vs.toArray },(if_neg ne).trans (if_pos rfl)⟩)
end
theorem walk_ofT {l:PySem.W.OpenLaw}{n k:Nat}{q:Program}{loose:List Str}{XP:(Str→Option Value)→Heap→Prop}{YP:World→Heap→Prop}{d:DefRec}{K:Params→PySem.W.Frag}{tb c0:Params→Addr}{CX:World→CXT}{sp:World→Sp}{x:Str}
 (hn:l.most=some n) (hn2:n≤sizeLine) (hdf:d.params.defaults=[]) (hr:Room k callerA) (hY : ∀ (w:World) (h:Heap),YP w h→(K w.params).In h∧h.TableAt (c0 w.params) (tb w.params) #[]) (hKt : ∀ P,(K P).lookup (tb P)=none)
 (F : ∀ (w:World) (mg:Str→Option Value) (fa:Addr) (h:Heap),(K w.params).In h→h.Ns mainGlobals mg→mg d.name=some (.ref fa) →
 ∃ fd:FuncData,(∀ (s:Shared) (u:Value),BindsTo s fd ⟨[u],[]⟩ [(x,u)]) ∧ ∀ base:Heap,(K w.params).In base→base.Ns mainGlobals mg→FnOk l.prog w (K w.params) mg base (CX w) k fa fd [x] (sp w))
 (hsp : ∀ (w:World) (H:Hp) (a:Addr) (ns:List Int),ns.length≤n→TbS (tb w.params) H→SqL (K w.params) H a (ns.map V.int)→sp w [.ref a] H (fun v _=>v = .bl true) fun _ _ _=>False)
 (hCX : ∀ (w:World) (H:Hp) (s:Shared) (e:Value) (s':Shared),CX w [] H s (fun _ _ _=>False) e s'→False):PySem.W.WalkO q loose XP YP l.row.toRowW d [] (fun f vs=>PySem.call f vs):=by
  refine Att.attach_call hn hdf fun w s₀ s₁ mg mb fa o pm cd doc a vs ns G Y ho hd hcd hmg hobj hints hlen hg=>?_
  obtain ⟨KX,ht⟩:=hY w _ Y
  obtain ⟨fd,hb,hF⟩:=F w mg fa _ KX G.T.g hmg
  exact zaci KX G.T.g G.T.b G.T.builtins G.T.nolimit hg hobj hints (Nat.le_trans hlen hn2) hr ht (hKt w.params) hF hb (fun H hO hS=>hsp w H a ns hlen hO hS) fun H e s'=>hCX w H s₁ e s'
end L2
namespace L2
open PySem PySem.Spec PyProof.Rows PySem.W
def zact (K:PySem.W.Frag) (c tb:Addr):Bool:=match K.lookup c with
 | some ⟨.type "code",_,.fields vs,_⟩=>(vs[11]?==some (.ref tb))&&(match vs.getD 18 .none with | .str _ _=>true|_=>false)&&(match vs.getD 7 .none with | .int _ _=>true|_=>false)&&(match vs.getD 9 .none with | .bool _=>true|_=>false)&&(match vs.getD 10 .none with | .int _ _=>true|_=>false)&&c != tb
 | _=>false
theorem zacb {K:PySem.W.Frag}{h:Heap}{c tb:Addr} (X:K.In h) (q:zact K c tb=true):CodeHd h c tb:=by
 unfold zact at q
 split at q
 case h_2=>cases q
 rename_i dd vs sl ho
 simp only [Bool.and_eq_true,beq_iff_eq,bne_iff_ne] at q
 obtain ⟨⟨⟨⟨⟨e1,e2⟩,e3⟩,e4⟩,e5⟩,e6⟩:=q
 have e7:vs.getD 11 .none = .ref tb:=by
  have:vs.getD 11 .none=(vs[11]?).getD .none:=by simp [Array.getD_eq_getD_getElem?]
  rw [this,e1];rfl
 split at e2
 case h_2=>cases e2
 rename_i x2 t2 g2
 split at e3
 case h_2=>cases e3
 rename_i x3 t3 g3
 split at e4
 case h_2=>cases e4
 rename_i x4 g4
 split at e5
 case h_2=>cases e5
 rename_i x5 t5 g5
 exact ⟨_,vs,x2,t2,x3,t3,x4,x5,t5,X _ _ ho,rfl,rfl,e1,e7,g2,g3,g4,g5,e6⟩
def blIn (K:PySem.W.Frag) (bm tb:Addr):Bool:=match K.lookup bm with
 | some ⟨.type "module",some d,.plain,_⟩=>d==builtinsNs&&bm != builtinsNs&&bm != mainGlobals&&bm != tb
 | _=>false
theorem zake {K:PySem.W.Frag}{h:Heap}{mg:Str→Option Value}{bm tb:Addr} (X:K.In h) (hm:mg "__builtins__" = some (.ref bm)) (q:blIn K bm tb=true):h.BuiltinsAt mg tb:=by
 unfold blIn at q
 split at q
 case h_2=>cases q
 rename_i d sl ho
 simp only [Bool.and_eq_true,beq_iff_eq,bne_iff_ne] at q
 obtain ⟨⟨⟨e1,e2⟩,e3⟩,e4⟩:=q
 subst e1
 exact ⟨bm,_,hm,e2,e3,e4,X _ _ ho,rfl,rfl,rfl⟩
structure DefT (K:PySem.W.Frag) (mg:Str→Option Value) (x:Str) (st:Stmt) (ps:List Str) (c0:Addr):Prop where
 ex : ∃ (f:Addr) (oc:Value) (od:Option Addr) (kV doc pm:Value) (an:Option Addr) (ct:Value) (osl:Array (Option Value)),K.lookup f=some ⟨oc,od,.func (PySem.W.fnOf x x (defArgs st) (defBody st) (defScope st) .none kV doc pm an (.ref c0) ct),osl⟩∧PySem.W.codeIn K (.ref c0) x=true ∧
  PySem.W.keepIn K (.ref f)=true∧mg x=some (.ref f)∧Binds K (PySem.W.fnOf x x (defArgs st) (defBody st) (defScope st) .none kV doc pm an (.ref c0) ct) ps []
theorem DefT.ok {P:Program}{w:World}{K:PySem.W.Frag}{mg:Str→Option Value}{base:Heap}{x:Str}{st:Stmt}{N ps:List Str}{k:Nat}{sp:Sp}{c0:Addr} (F:DefT K mg x st ps c0) (S:FnScope N ps (defScope st)) (len : ∀ vs H Q E,sp vs H Q E→vs.length=ps.length)
 (hbody : ∀ (f:Addr) (A:Around) (outer:List Env) (s:Shared) (H:Hp) (vs:List V) (Q:VK) (E:XK),Room k (A.deeper (envOfC x (defScope st) s.heap.objs.size f (.ref c0)))→sp vs H Q E →
 ∃ t,PSs (qpv CX0 P w K mg base N x (defScope st) f (.ref c0) A outer s H E).nox (defBody st) t∧t { nx:=fun _ H'=>Q .non H',rt:=Q } (start N vs) H):Ok P w K mg base x (k+1) ps sp:=by
  obtain ⟨f,oc,od,kV,doc,pm,an,ct,osl,lk,hcd,kp,hm,hb⟩:=F.ex
  refine ⟨f,_,zalt lk hcd S len fun A outer s H vs Q E hr hsp=>?_,hm,kp,hb⟩
  obtain ⟨t,h,q⟩:=hbody f A outer s H vs Q E hr hsp
  exact ⟨t,h.nox,q⟩
structure GoT (tb:Addr) (F H F' H':Hp):Prop where
 f:Same F F'
 h : ∀ b o,b≠tb→H b=some o→H' b=some o
 fh:Same F' H'
 new : ∀ b o,F' b=some o→F b=some o∨H b=none
 ts:TbS tb H'
 ft:F' tb=none
def TSp (tb:Addr) (K:PySem.W.Frag) (sp:DC):Sp:=fun vs H Q _=>TbS tb H ∧ ∃ F ds q,F tb=none∧Same F H∧Iss K F ds vs∧sp ds q ∧ ∀ d v F' H',GoT tb F H F' H'→Is K F' d v→q d→Q v H'
theorem GoT.go {tb:Addr}{F H F1 H1 F2 H2:Hp} (a:GoT tb F H F1 H1) (b:Go F1 H1 F2 H2):GoT tb F H F2 H2:=by
 have th:H1 tb≠none:=by obtain ⟨ps,e,_⟩:=a.ts;rw [e];exact fun z=>by cases z
 have nt:F2 tb=none:=by
  cases e:F2 tb with
  | none=>rfl
  | some o =>
   rcases b.new tb o e with z|z
   ·rw [a.ft] at z;cases z
   ·exact (th z).elim
 refine ⟨a.f.trans b.f,fun c o n e=>b.h _ _ (a.h c o n e),b.fh,fun c o e=>?_,a.ts.same b.h,nt⟩
 rcases b.new c o e with z|z
 ·exact a.new c o z
 ·by_cases q:c=tb
  ·rw [q,nt] at e;cases e
  ·right
   cases e3:H c with
   | none=>rfl
   | some o3=>have:=a.h c o3 q e3;rw [z] at this;cases this
end L2
namespace L2
open PySem PySem.Spec PyProof.Rows
theorem qlg : ∀ {us:List Value}{ns:List Int},IntsAre us ns → ∀ (i:Nat) (v:Value),us[i]?=some v → ∃ n t,ns[i]?=some n∧v = .int n t
 | _,_,.nil,i,v,h=>by simp at h
 | _,_,.cons n t r,0,v,h=>by
  rw [List.getElem?_cons_zero,Option.some.injEq] at h
  exact ⟨n,t,by rw [List.getElem?_cons_zero],h.symm⟩
 | _,_,.cons n t r,i+1,v,h=>by
  rw [List.getElem?_cons_succ] at h
  obtain ⟨m,k,e,z⟩:=qlg r i v h
  exact ⟨m,k,by rw [List.getElem?_cons_succ];exact e,z⟩
theorem qli : ∀ {us:List Value}{ns:List Int},IntsAre us ns→us.length=ns.length
 | _,_,.nil=>rfl
 | _,_,.cons n t r=>by rw [List.length_cons,List.length_cons,qli r]
theorem zaau {us:List Value}{ns:List Int} (hb:IntsAre us ns):((List.range us.toArray.size).any fun i=>((ns[i]?).getD 1) != 0)=ns.any (· != 0):=by
 have hlen:us.toArray.size=ns.length:=by rw [List.size_toArray];exact qli hb
 rw [hlen,Bool.eq_iff_iff,List.any_eq_true,List.any_eq_true]
 constructor
 ·rintro ⟨i,hi,z⟩
  have hi':=List.mem_range.mp hi
  refine ⟨ns[i],List.getElem_mem hi',?_⟩
  simpa [hi'] using z
 ·rintro ⟨b,hb',z⟩
  obtain ⟨i,hi,rfl⟩:=List.getElem_of_mem hb'
  exact ⟨i,List.mem_range.mpr hi,by simpa [hi] using z⟩
section
variable {X:Cx}
def zaqj (K:PySem.W.Frag):List V→Hp→VK→Prop:=fun xs H Q => ∃ (a:Addr) (ns:List Int),xs=[.ref a]∧SqL K H a (ns.map V.int)∧Q (.bl (ns.any (· != 0))) H
theorem zaca (hc:X.calm=true):CallR X (.builtin "any") (zaqj X.K):=by
 intro pins s σ H xs us Q I r h
 obtain ⟨a,ns,rfl,ha,q⟩:=h
 obtain ⟨u,rfl,rx⟩:=qju r
 cases rx
 obtain ⟨its,rv,pl,_⟩:=I.list ha
 have hl:=pl.isList
 have hb:=qim rv
 have hlt:a<s.heap.objs.size:=pl.lt
 refine call_any_walk (wpAny_pyIter_list hl ?_)
 refine ⟨s.heap.objs.size,[s.heap.objs.size,a],[s.heap.objs.size],its.toArray.size,_,_,fun i=>((ns[i]?).getD 1) != 0,rfl,Walks.list (A:=X.A.in1) (I.ok.hd hc) _ a (Nat.ne_of_lt hlt) its.toArray,
  ⟨⟨_,Heap.get?_push_size _ rfl,rfl,rfl⟩,hl.push _⟩,fun i v s' Q' E' hP hQ=>?_,fun h' tk hk=>?_⟩
 ·obtain ⟨n,t,e,rfl⟩:=qlg hb i v (by simpa using hP)
  simp only [e,Option.getD_some] at hQ
  exact P.truthy_int hQ
 ·rw [zaau hb]
  refine ⟨.bl (ns.any (· != 0)),H,I.kept (t':=tk) (fun b o z=>hk b o (fun hm=>?_) (Heap.get?_push_of_some _ z)),rfl,q⟩
  rw [List.mem_singleton.mp hm] at z
  exact Nat.lt_irrefl _ (Heap.lt_size z)
def zapu:DC
 | [.list l],q => ∃ ns:List Int,l=ns.map .int∧q (.bool (ns.any (· != 0)))
 | _,_=>False
theorem zaoj (hc:X.calm=true):qjg X (.builtin "any") zapu:=(zaca hc).imp fun xs H Q xx170=>by
 obtain ⟨F,ds,q,s,i,h,k⟩:=xx170
 match ds,h,i with
 | [.list l],h,i =>
  obtain ⟨v,rfl,j⟩:=qjx i
  obtain ⟨a,xs,rfl,hs,hr⟩:=j.lst_inv
  obtain ⟨ns,rfl,hq⟩:=h
  rw [hr.ints_inv] at hs
  exact ⟨a,ns,rfl,s.seq hs,k _ _ F H (.refl s) (qfa _) hq⟩
end
end L2
namespace L2
open PySem PySem.Spec PyProof.Rows
abbrev Grp:=List Int×Addr×List Nat
def qlq (x:Grp):List Key×V:=(x.1.map Sum.inl,V.ref x.2.1)
def grL (G:List Nat):List V:=G.map fun i=>V.int ((i:Nat):Int)
structure GrAt (H0 F H:Hp) (d:Addr) (ks:List Grp):Prop where
 hd:H d=some (.dT (ks.map qlq))
 fd:F d=none
 nd:H0 d=none
 hl : ∀ x ∈ ks,H x.2.1=some (.lst (grL x.2.2))
 fl : ∀ x ∈ ks,F x.2.1=none
 nl : ∀ x ∈ ks,H0 x.2.1=none
 dl : ∀ x ∈ ks,x.2.1≠d
 ad:(ks.map (·.2.1)).Nodup
 ky:(ks.map (·.1)).Nodup
def qng (ks:List Grp) (k:List Int) (s:Nat):List Grp:=ks.map fun x=>if x.1=k then (x.1,x.2.1,x.2.2++[s]) else x
theorem zajs {a b:List Int} (h:(a.map Sum.inl:List Key)=b.map Sum.inl):a=b:=by
 induction a generalizing b with
 | nil=>cases b with
  | nil=>rfl
  | cons _ _=>cases h
 | cons x a ih=>cases b with
  | nil=>cases h
  | cons y b =>
   rw [List.map_cons,List.map_cons] at h
   injection h with h1 h2
   injection h1 with h1
   rw [h1,ih h2]
theorem qks {α β:Type}{f:α→β} : ∀ {l:List α},(l.map f).Nodup → ∀ x ∈ l,∀ y ∈ l,f x=f y→x=y
 | [],_,x,hx,_,_,_=>by cases hx
 | a::l,h,x,hx,y,hy,e=>by
  rw [List.map_cons,List.nodup_cons] at h
  rcases List.mem_cons.mp hx with zx|zx
  ·rcases List.mem_cons.mp hy with zy|zy
   ·rw [zx,zy]
   ·exact (h.1 (List.mem_map.mpr ⟨y,zy,by rw [← e,zx]⟩)).elim
  ·rcases List.mem_cons.mp hy with zy|zy
   ·exact (h.1 (List.mem_map.mpr ⟨x,zx,by rw [e,zy]⟩)).elim
   ·exact qks h.2 x zx y zy e
theorem qst {k:List Int} : ∀ (ks:List Grp),qms (ks.map qlq) (k.map Sum.inl)=(ks.find? fun x=>decide (x.1=k)).map fun x=>V.ref x.2.1
 | []=>rfl
 | x::ks=>by
  rw [List.map_cons]
  by_cases e:x.1=k
  ·rw [qog (by show x.1.map Sum.inl=_;rw [e]),List.find?_cons_of_pos (by simpa using e)];rfl
  ·rw [qok (fun z=>e (zajs z)),List.find?_cons_of_neg (by simpa using e),qst ks]
theorem Go.at {F0 H0 F H:Hp}{a:Addr}{o:HO} (g:Go F0 H0 F H) (h1:F a=none) (h2:H0 a=none):Go F0 H0 F (upd H a o) :=
 ⟨g.f,fun b u e=>by rw [qj fun z=>by rw [z,h2] at e;cases e];exact g.h b u e,fun b u e=>by rw [qj fun z=>by rw [z,h1] at e;cases e];exact g.fh b u e,g.new⟩
section
variable {F0 H0 F H:Hp}{d l p:Addr}{ks:List Grp}{k:List Int}{G:List Nat}{s:Nat}
theorem GrAt.hit (h:GrAt H0 F H d ks) (m:(k,l,G) ∈ ks):GrAt H0 F (upd H l (.lst (grL (G++[s])))) d (qng ks k s):=by
 have ne:d≠l:=fun z=>h.dl _ m z.symm
 have addr : ∀ y:Grp,(if y.1=k then (y.1,y.2.1,y.2.2++[s]) else y).2.1=y.2.1:=fun y=>by split <;> rfl
 have key : ∀ y:Grp,(if y.1=k then (y.1,y.2.1,y.2.2++[s]) else y).1=y.1:=fun y=>by split <;> rfl
 have nodup_at:=qks (f:=fun x:Grp=>x.2.1) h.ad
 have nodup_key:=qks (f:=fun x:Grp=>x.1) h.ky
 refine ⟨?_,h.fd,h.nd,fun x hx=>?_,fun x hx=>?_,fun x hx=>?_,fun x hx=>?_,?_,?_⟩
 ·rw [qj ne,h.hd]
  unfold qng
  rw [List.map_map]
  congr 2
  refine List.map_congr_left fun x _=>?_
  show qlq x=qlq _
  unfold qlq
  rw [addr,key]
 ·obtain ⟨y,hy,rfl⟩:=List.mem_map.mp hx
  rw [addr]
  by_cases e:y.1=k
  ·have:=nodup_key y hy _ m e
   subst this
   rw [qr,if_pos rfl]
  ·rw [qj fun z=>e ?_,if_neg e]
   ·exact h.hl y hy
   ·have:=nodup_at y hy _ m z
    rw [this]
 ·obtain ⟨y,hy,rfl⟩:=List.mem_map.mp hx
  rw [addr];exact h.fl y hy
 ·obtain ⟨y,hy,rfl⟩:=List.mem_map.mp hx
  rw [addr];exact h.nl y hy
 ·obtain ⟨y,hy,rfl⟩:=List.mem_map.mp hx
  rw [addr];exact h.dl y hy
 ·have:(qng ks k s).map (·.2.1)=ks.map (·.2.1):=by
   unfold qng
   rw [List.map_map]
   exact List.map_congr_left fun x _=>addr x
  rw [this];exact h.ad
 ·have:(qng ks k s).map (·.1)=ks.map (·.1):=by
   unfold qng
   rw [List.map_map]
   exact List.map_congr_left fun x _=>key x
  rw [this];exact h.ky
theorem GrAt.miss (h:GrAt H0 F H d ks) (hp:H p=none) (fp:F p=none) (np:H0 p=none) (hk : ∀ x ∈ ks,x.1≠k):GrAt H0 F (upd (upd (upd H p (.lst [])) d (.dT ((ks++[(k,p,[s])]).map qlq))) p (.lst (grL [s]))) d (ks++[(k,p,[s])]):=by
 have pd:p≠d:=fun z=>by rw [z,h.hd] at hp;cases hp
 have pl : ∀ x ∈ ks,x.2.1≠p:=fun x hx z=>by have:=h.hl x hx;rw [z,hp] at this;cases this
 have two : ∀ {P:Grp→Prop},(∀ x ∈ ks,P x)→P (k,p,[s]) → ∀ x ∈ ks++[(k,p,[s])],P x:=fun a b x hx=>by
  rcases List.mem_append.mp hx with z|z
  ·exact a x z
  ·rw [List.mem_singleton.mp z];exact b
 refine ⟨?_,h.fd,h.nd,two (fun x hx=>?_) ?_,two h.fl fp,two h.nl np,two h.dl pd,?_,?_⟩
 ·rw [qj (Ne.symm pd),qr]
 ·rw [qj (pl x hx),qj (h.dl x hx),qj (pl x hx)];exact h.hl x hx
 ·exact qr
 ·rw [List.map_append,List.map_cons,List.map_nil,List.nodup_append]
  refine ⟨h.ad,by simp,fun a ha b hb=>?_⟩
  obtain ⟨x,hx,rfl⟩:=List.mem_map.mp ha
  rw [List.mem_singleton.mp hb];exact pl x hx
 ·rw [List.map_append,List.map_cons,List.map_nil,List.nodup_append]
  refine ⟨h.ky,by simp,fun a ha b hb=>?_⟩
  obtain ⟨x,hx,rfl⟩:=List.mem_map.mp ha
  rw [List.mem_singleton.mp hb];exact hk x hx
theorem zaex:grL G++[V.int ((s:Nat):Int)]=grL (G++[s]):=by unfold grL;rw [List.map_append];rfl
end
def qvz (ks:List Grp) (k:List Int) (p:Addr) (s:Nat):List Grp:=if (ks.any fun x=>decide (x.1=k))=true then qng ks k s else ks++[(k,p,[s])]
theorem zamk {K:PySem.W.Frag}{F0 H0 F H:Hp}{d b:Addr}{ks:List Grp}{k:List Int}{s ig ia is:Nat}{σ:St}{D:Ends} (g:Go F0 H0 F H) (h:GrAt H0 F H d ks) (e1:σ[ig]?=some (some (.ref d))) (e2:σ[ia]?=some (some (.ref b))) (e3:σ[is]?=some (some (.int ((s:Nat):Int))))
 (hb:F b=some (.tup (k.map V.int))) (hn:ks.length<900) (hs : ∀ x ∈ ks,x.2.2.length<900)
 (q : ∀ p H',Go F0 H0 F H'→GrAt H0 F H' d (qvz ks k p s)→D.nx σ H'):zalo (tBM K "list" qru (zagx (tVar ig) (tVar ia) (tLst tNil)) (qwd (tVar is) tNil)) D σ H:=by
  have hb':=g.fh _ _ hb
  have ekv:(k.map Sum.inl:List Key).map kV=k.map V.int:=by rw [List.map_map];rfl
  refine ⟨_,e1,d,rfl,.inr ⟨_,.inl h.hd⟩,_,e2,Nat.zero_le _,fun p hp=>?_⟩
  have pd:d≠p:=fun z=>by rw [← z,h.hd] at hp;cases hp
  have fp:F p=none:=qW g.fh hp
  have np:H0 p=none:=qW g.h hp
  have pb:b≠p:=fun z=>by rw [← z,hb'] at hp;cases hp
  refine ⟨ks.map qlq,k.map Sum.inl,b,by rw [qj pd];exact h.hd,rfl,by rw [qj pb,ekv];exact hb',by rw [List.length_map,sizeLine_eq];omega,fun v ev=>?_,fun ev=>?_⟩
  ·rw [qst] at ev
   cases ef:ks.find? fun x=>decide (x.1=k) with
   | none=>rw [ef] at ev;cases ev
   | some x =>
    rw [ef] at ev
    cases ev
    have xm:=List.mem_of_find?_eq_some ef
    have xk:x.1=k:=by simpa using List.find?_some ef
    obtain ⟨k',l,G⟩:=x
    have xk:k'=k:=xk
    subst xk
    have lp:l≠p:=fun z=>by have:=h.hl _ xm;rw [z] at this;rw [show H p=_ from this] at hp;cases hp
    have hl:=h.hl _ xm
    have ha:(ks.any fun x=>decide (x.1=k'))=true:=List.any_eq_true.mpr ⟨_,xm,by simp⟩
    have h1:GrAt H0 F (upd H p (.lst [])) d ks:=⟨by rw [qj pd];exact h.hd,h.fd,h.nd,fun x hx=>by
     rw [qj fun z=>by have:=h.hl x hx;rw [z,hp] at this;cases this];exact h.hl x hx,h.fl,h.nl,h.dl,h.ad,h.ky⟩
    have z1:=(h1.hit (s:=s) xm)
    have hp':=q p (upd (upd H p (.lst [])) l (.lst (grL (G++[s])))) ((g.at fp np).at (h.fl _ xm) (h.nl _ xm)) (by unfold qvz;rw [if_pos ha];exact z1)
    refine ⟨?_,_,e3,l,grL G,_,rfl,rfl,by rw [qj lp];exact hl,?_,?_⟩
    ·exact .inl ⟨rfl,grL G,SqL.of (by rw [qj lp];exact hl)⟩
    ·have:=hs _ xm
     rw [sizeLine_eq]
     show (grL G).length<_
     unfold grL
     rw [List.length_map]
     show G.length<_
     have:G.length<900:=this
     omega
    ·rw [zaex];exact hp'
  ·rw [qst] at ev
   have ef : ∀ x ∈ ks,x.1≠k:=fun x hx z=>by
    cases ef:ks.find? fun x=>decide (x.1=k) with
    | none=>exact (by simpa using List.find?_eq_none.mp ef x hx : ¬ x.1=k) z
    | some y=>rw [ef] at ev;cases ev
   have ha : ¬ (ks.any fun x=>decide (x.1=k))=true:=fun z=>by
    obtain ⟨x,hx,z⟩:=List.any_eq_true.mp z
    exact ef x hx (by simpa using z)
   have eput:quu (ks.map qlq) (k.map Sum.inl) (.ref p)=(ks++[(k,p,[s])]).map qlq:=by
    rw [zaes _ (by rw [qst];exact ev),List.map_append];rfl
   rw [eput]
   have z1:=h.miss (s:=s) hp fp np ef
   have hp':=q p _ (((g.at fp np).at h.fd h.nd).at fp np) (by unfold qvz;rw [if_neg ha];exact z1)
   have hl:upd (upd H p (.lst [])) d (.dT ((ks++[(k,p,[s])]).map qlq)) p=some (.lst []):=by rw [qj (Ne.symm pd),qr]
   refine ⟨.inl ⟨rfl,[],SqL.of hl⟩,_,e3,p,[],_,rfl,rfl,hl,by rw [sizeLine_eq];decide,?_⟩
   exact hp'
theorem Room.lam {k:Nat}{A:Around} (r:Room (k+1) A) (env:Env):Room k (A.in1.in1.deeper env) :=
 ⟨r.hd,by have:=r.dp;show A.depth+1+3*k+5<_;omega,by have:=r.un;show A.units+1+1+3+16*k+200<_;omega⟩
theorem Room.sort {k:Nat}{A:Around} (r:Room k A):A.units+1<cLine∧A.in1.in1.units<cLine∧A.in1.in1.depth<recursionLimit :=
 ⟨by have:=r.un;omega,by have:=r.un;show A.units+1+1<_;omega,by have:=r.dp;show A.depth<_;omega⟩
theorem qqc {y:Str} : ∀ {l:List (Str×NameKind)},(∀ p ∈ l,p.2 = .free→p.1=y) → ∀ z,l.lookup z=some .free→z=y
 | [],_,z,h=>by cases h
 | (a,k)::l,g,z,h=>by
  rw [List.lookup_cons] at h
  cases e:z==a with
  | true =>
   rw [e] at h
   have hk:k = .free:=Option.some.inj h
   have:=eq_of_beq e
   rw [this]
   exact g (a,k) (by simp) hk
  | false =>
   rw [e] at h
   exact qqc (fun p hp=>g p (List.mem_cons_of_mem _ hp)) z h
theorem GrAt.go {H0 F H F' H':Hp}{d:Addr}{ks:List Grp} (h:GrAt H0 F H d ks) (g:Go F H F' H'):GrAt H0 F' H' d ks :=
 ⟨g.h _ _ h.hd,qzt g h.hd h.fd,h.nd,fun x hx=>g.h _ _ (h.hl x hx),fun x hx=>qzt g (h.hl x hx) (h.fl x hx),h.nl,h.dl,h.ad,h.ky⟩
def qmq (gs:List (List Int×List Nat)) (k:List Int) (s:Nat):List (List Int×List Nat):=if (gs.any fun x=>decide (x.1=k))=true then gs.map (fun x=>if x.1=k then (x.1,x.2++[s]) else x) else gs++[(k,[s])]
def qii (ks:List Grp):List (List Int×List Nat):=ks.map fun x=>(x.1,x.2.2)
theorem zabc {ks:List Grp}{k:List Int}{p:Addr}{s:Nat}:qii (qvz ks k p s)=qmq (qii ks) k s:=by
 have e:((qii ks).any fun x=>decide (x.1=k))=ks.any fun x=>decide (x.1=k):=by unfold qii;rw [List.any_map];rfl
 unfold qmq qvz
 rw [e]
 split
 ·unfold qng qii
  rw [List.map_map,List.map_map]
  refine List.map_congr_left fun x _=>?_
  by_cases z:x.1=k
  ·simp [z]
  ·simp [z]
 ·unfold qii
  rw [List.map_append];rfl
end L2
namespace L2
open PySem PySem.Spec PyProof.Rows PySem.W
theorem qqz {M:Model}{Γ:PySem.Ctx}{env:Env}{Q:Flow→Pos→Shared→Prop}{E:Value→Pos→Shared→Prop}{b:List Stmt} : ∀ (a:List Stmt) (p:Pos) (s:Shared),
 Sem.wp M Γ (execs a env) (fun f p' s'=>match f with | .next=>Sem.wp M Γ (execs b env) Q E p' s'|f=>Q f p' s') E p s→Sem.wp M Γ (execs (a++b) env) Q E p s
  | [],p,s,h=>h
  | st::a,p,s,h=>by
   rw [List.cons_append,execs_cons,Sem.wp_bind']
   rw [execs_cons,Sem.wp_bind'] at h
   refine Sem.wp_mono M Γ _ (fun f p' s' h'=>?_) (fun _ _ _ h'=>h') _ _ h
   cases f with
   | next=>exact qqz a p' s' h'
   | ret v=>exact h'
   | brk=>exact h'
   | cont=>exact h'
section
variable {X:Cx}{t u:TS}
theorem zakl {a b:List Stmt} (h1:PSs X a t) (h2:PSs X b u):PSs X (a++b) (tSeq t u):=by
 intro pins s σ H D I h Γ p hΓ
 refine qqz a p s (Sem.wp_mono _ Γ _ (fun f p' s' q=>?_) (fun _ _ _ h'=>h') _ _ (h1 pins s σ H { D with nx:=u D } I h Γ p hΓ))
 cases f with
 | next =>
  obtain ⟨σ',H',I',q⟩:=q
  exact h2 pins s' σ' H' D I' q Γ p' hΓ
 | ret v=>exact q
 | brk=>exact q
 | cont=>exact q
theorem zaoc (k:Nat) {b:List Stmt} (h1:PSs X (b.take k) t) (h2:PSs X (b.drop k) u):PSs X b (tSeq t u):=by
 have:=zakl h1 h2
 rwa [List.take_append_drop] at this
end
def lawD:Ends:={ nx:=fun _ _=>False,rt:=fun v _=>v = .bl true }
section
variable {K:PySem.W.Frag}{M:Frm}{F H:Hp}{env:Sto}{σ:St}{W:WS}{u:TS}
theorem zafr (hE:EnvOk K ⟨H,H,F⟩ F H env σ) (P:Sto→Prop) (hW:W { nx:=P,rt:=fun r _=>r.data = .bool true } env) (hu : ∀ e F' H' σ',EnvOk K ⟨H,H,F⟩ F' H' e σ'→P e→u lawD σ' H'):tSeq (zacv K W) u lawD σ H:=by
 refine ⟨⟨H,H,F⟩,env,F,_,hE,hW,⟨fun e1 F1 H1 σ1 I1 s1 q1=>hu e1 F1 H1 σ1 I1 q1,fun r v e1 F1 H1 σ1 I1 s1 r1 q1=>?_,fun _ _ _ _ _ _ h=>h.elim,fun _ _ _ _ _ _ h=>h.elim⟩⟩
 obtain ⟨F2,g,j⟩:=r1.is I1
 have q1:r.data = .bool true:=q1
 rw [q1] at j
 exact j.bl_inv
end
theorem TbS.ne {tb:Addr}{H:Hp} (h:TbS tb H):H tb≠none:=by
 obtain ⟨ps,e,_⟩:=h
 rw [e];exact fun z=>by cases z
theorem EnvOk.tab {K:PySem.W.Frag}{F H F' H':Hp}{env:Sto}{σ:St}{tb:Addr} (I:EnvOk K ⟨H,H,F⟩ F' H' env σ) (t:TbS tb H) (n:F tb=none):TbS tb H'∧F' tb=none:=by
 refine ⟨t.same I.bh,?_⟩
 cases e:F' tb with
 | none=>rfl
 | some o =>
  rcases I.new tb o e with z|z
  ·have z:F tb=some o:=z
   rw [n] at z;cases z
  ·exact (t.ne z).elim
section
variable {P:Program}{w:World}{K:PySem.W.Frag}{mg:Str→Option Value}{base:Heap}
theorem Fun.vlawT {x:Str}{st:Stmt}{f tb:Addr}{fd:FuncData}{N ps:List Str}{k:Nat} (F:Fun K x x st f fd) (S:FnScope N ps (defScope st)) (hp:ps.length=1)
 (hbody : ∀ (cdv:Value) (A:Around) (outer:List Env) (s:Shared) (H:Hp) (E:XK),Room k (A.deeper (envOfC x (defScope st) s.heap.objs.size f cdv))→TbS tb H → ∀ (F0:Hp) (σ:St) (ns:List Int),ns.length≤63→F0 tb=none→EnvOk K ⟨H,H,F0⟩ F0 H (qaq N [.list (ns.map .int)]) σ →
 ∃ t,PSs (qpv CX0 P w K mg base N x (defScope st) f cdv A outer s H E).nox (defBody st) t∧t lawD σ H):FnOk P w K mg base CX0 (k+1) f fd ps (qpg tb K):=by
  refine F.ok S (fun vs H Q E h=>?_) (fun cdv A outer s H vs Q E hr h=>?_)
  ·obtain ⟨_,a,ns,rfl,_⟩:=h
   exact hp.symm
  ·obtain ⟨ts,a,ns,rfl,hS,hlen,kk⟩:=h
   have sm:Same (qcu H tb) H:=fun b o e=>by
    unfold qcu at e
    split at e
    ·cases e
    ·exact e
   have hS':SqL K (qcu H tb) a (ns.map V.int):=by
    rcases hS with (h|⟨o,h⟩)|h
    ·refine .inl (.inl ?_)
     unfold qcu
     rw [if_neg fun z=>by obtain ⟨ps,e,_⟩:=ts;rw [z,e] at h;cases h];exact h
    ·refine .inl (.inr ⟨o,?_⟩)
     unfold qcu
     rw [if_neg fun z=>by obtain ⟨ps,e,_⟩:=ts;rw [z,e] at h;cases h];exact h
    ·exact .inr h
   have hi:Iss K (qcu H tb) [.list (ns.map .int)] [.ref a]:=qB (qfh hS' (qjs ns)) qS
   obtain ⟨t,ht,hq⟩:=hbody cdv A outer s H E hr ts (qcu H tb) _ ns hlen (by unfold qcu;rw [if_pos rfl]) (qhh (N:=N) sm hi)
   refine ⟨fun D σ H=>t lawD σ H ∧ ∀ H',D.rt (.bl true) H',?_,hq,kk⟩
   intro pins s' σ' H' D I hw
   refine thn (ht pins s' σ' H' lawD I hw.1) fun fl s2 q=>?_
   cases fl with
   | next=>obtain ⟨_,_,_,q⟩:=q;exact q.elim
   | brk=>obtain ⟨_,_,_,q⟩:=q;exact q.elim
   | cont=>obtain ⟨_,_,_,q⟩:=q;exact q.elim
   | ret u =>
    obtain ⟨v,σ2,H2,I2,r2,q⟩:=q
    have q:v = .bl true:=q
    exact ⟨v,σ2,H2,I2,r2,by rw [q];exact hw.2 H2⟩
end
def zahi (K:PySem.W.Frag) (c tb:Addr):Bool:=match K.lookup c with
 | some ⟨.type "code",_,.fields vs,_⟩=>vs[11]?==some (.ref tb)
 | _=>false
theorem tab_in {K:PySem.W.Frag}{tb c0:Addr}{h:Heap} (n:K.lookup tb=none) (q:zahi K c0 tb=true) (Y:PySem.W.Frag.In ((tb,⟨.none,none,.fields #[],#[]⟩)::K) h):K.In h∧h.TableAt c0 tb #[]:=by
 have kin:K.In h:=fun b o e=>Y b o (by
  rw [List.lookup_cons]
  split
  ·rename_i z
   rw [eq_of_beq z,n] at e;cases e
  ·exact e)
 refine ⟨kin,?_,Y tb _ (by rw [List.lookup_cons,beq_self_eq_true])⟩
 unfold zahi at q
 split at q
 case h_2=>cases q
 rename_i dd vs sl ho
 exact ⟨_,vs,kin _ _ ho,rfl,rfl,by simpa using q⟩
theorem OpV.r {X:Cx}{f:Value→Value→Sem Value}{r:D2} (h:OpV X f r):OpR X f (qsr X.K r):=h
theorem EnvOk.val {K:PySem.W.Frag}{M:Frm}{F H:Hp}{env:Sto}{σ:St} (I:EnvOk K M F H env σ) (i:Nat) {d:PyData} (h:gS env i = .val d) : ∃ v,σ[i]?=some (some v)∧Is K F d v:=by
 have:=I.slot i
 rw [h] at this
 obtain ⟨v,e,q⟩:=this
 exact ⟨v,qcl e,q⟩
end L2
namespace My
open PySem L2
seal VE VF VA VT VW VS VSs VG VGs VI VO OpV qjg qpf VN VFN VST VSsT VEX VSX VSsX
def top (i:Nat):Stmt:=PySem.Challenge.pw_dullglass_k20_whole_dulled_never_gains_m.main.body.getD i (.Pass ⟨0,0,0,0⟩)
abbrev qfp:Stmt:=top 7
abbrev qes:Stmt:=top 19
abbrev qdk:Stmt:=top 18
abbrev qhk:Stmt:=top 8
abbrev qbn:Stmt:=top 20
abbrev qhj:Stmt:=top 22
abbrev qcp:Stmt:=top 21
abbrev qfv:Stmt:=top 17
abbrev qcq:Stmt:=top 31
abbrev qfz:Stmt:=top 32
abbrev qoc:Stmt:=top 29
abbrev qnu:Stmt:=top 30
abbrev qnd:Stmt:=top 26
abbrev qje:Stmt:=top 27
abbrev qjh:Stmt:=top 28
abbrev qds:Stmt:=top 43
abbrev qer:Stmt:=top 42
abbrev qji:Stmt:=top 41
abbrev qjn:Stmt:=top 47
abbrev qeq:Stmt:=top 45
abbrev qjd:Stmt:=top 25
abbrev qac:Stmt:=top 48
abbrev qad:Stmt:=top 49
abbrev qjm:Stmt:=top 44
abbrev qft:Stmt:=top 11
abbrev qhe:Stmt:=top 12
abbrev qnj:Stmt:=top 46
abbrev qdv:Stmt:=top 51
abbrev qjq:Stmt:=top 50
abbrev qdh:Stmt:=top 24
abbrev qbe:Stmt:=top 23
abbrev qbx:Stmt:=top 57
abbrev qcb:Stmt:=top 55
abbrev qU:Stmt:=top 54
abbrev qbl:Stmt:=top 56
abbrev qfn:Stmt:=top 58
abbrev qhi:Stmt:=top 10
abbrev qnx:Stmt:=top 9
abbrev qfx:Stmt:=top 59
abbrev qny:Stmt:=top 53
abbrev qfw:Stmt:=top 61
abbrev qdt:Stmt:=top 62
abbrev qep:Stmt:=top 63
abbrev qcr:Stmt:=top 64
abbrev qdq:Stmt:=top 65
abbrev qcn:Stmt:=top 66
abbrev qfq:Stmt:=top 67
abbrev qdr:Stmt:=top 68
abbrev qdx:Stmt:=top 69
abbrev qcs:Stmt:=top 70
abbrev qbw:Stmt:=top 36
abbrev qhm:Stmt:=top 37
abbrev qnr:Stmt:=top 38
abbrev qtc:Stmt:=top 34
abbrev qbk:Stmt:=top 39
abbrev qsy:Stmt:=top 35
abbrev qdu:Stmt:=top 72
abbrev qdp:Stmt:=top 73
abbrev qbd:Stmt:=top 74
abbrev qlv:Stmt:=top 75
structure Cs where
 tb:Addr
 c0:Addr
 bm:Addr
structure Txt (K:PySem.W.Frag) (mg:Str→Option Value) (cs:Cs):Prop where
 tab_h:zact K cs.c0 cs.tb=true
 bm_h:blIn K cs.bm cs.tb=true
 bm_:mg "__builtins__" = some (.ref cs.bm)
 abs_:mg "abs" = none
 all_:mg "all" = none
 any_:mg "any" = none
 bool_:mg "bool" = none
 enumerate_:mg "enumerate" = none
 int_:mg "int" = none
 isinstance_:mg "isinstance" = none
 len_:mg "len" = none
 list_:mg "list" = none
 max_:mg "max" = none
 range_:mg "range" = none
 sorted_:mg "sorted" = none
 sum_:mg "sum" = none
 tuple_:mg "tuple" = none
 zip_:mg "zip" = none
 FEWEST_STANDS_ : ∃ t,mg "FEWEST_STANDS" = some (.int 2 t)
 MOST_SIGNS_ : ∃ t,mg "MOST_SIGNS" = some (.int 12 t)
 MOST_STANDS_ : ∃ t,mg "MOST_STANDS" = some (.int 4 t)
section
variable {P:Program}{w:World}{K:PySem.W.Frag}{mg:Str→Option Value}{base:Heap}{cs:Cs}
def zamv:PyData→Bool
 | .int _=>true
 | _=>false
def qag:DC
 | [d],q=>q (.bool (zamv d))
 | _,_=>False
theorem qtt:FnScope ["thing"] ["thing"] (defScope qfp):=⟨rfl,rfl,rfl,by decide +kernel,rfl,by decide +kernel,by decide +kernel⟩
theorem quc (F:Def K mg "is_whole" qfp ["thing"]) (T:Txt K mg cs)
 : Ok P w K mg base "is_whole" 1 ["thing"] (PSp K qag):=by
  refine F.vok qtt (fun ds q h=>by unfold qag at h;split at h;all_goals first|rfl|exact h.elim) fun f cdv A outer s H E hr ds q h=>?_
  match ds,h with
  | [d],h =>
  refine ⟨_,(qh (qu (qmh (qtb T.isinstance_ T.int_ L2.boot_int (qc 0)) (qmk (zang (qtb T.isinstance_ T.bool_ L2.boot_bool (qc 0))))))),?_⟩
  cases d <;> exact h
theorem qvk {a b:Int}{g:Nat} (h0:0≤a) (hb:0≤b) (h1:b≠0) (h:Nat.gcd a.toNat b.toNat=g) :
 0≤a%b∧a%b<b∧Nat.gcd b.toNat (a%b).toNat=g:=by
  have hp:0<b:=by omega
  have e1:=Int.emod_nonneg a h1
  have e2:=Int.emod_lt_of_pos a hp
  refine ⟨e1,e2,?_⟩
  have e3:(a%b).toNat=a.toNat%b.toNat:=by
   have:((a.toNat%b.toNat:Nat):Int)=a%b:=by
    rw [Int.natCast_emod,Int.toNat_of_nonneg h0,Int.toNat_of_nonneg hb]
   rw [← this];rfl
  rw [e3,← h,Nat.gcd_comm b.toNat,Nat.gcd_comm a.toNat]
  exact (Nat.gcd_rec _ _).symm
theorem qzw {a:Int}{b:Int}{g:Nat} (h0:0≤a) (h1:b=0) (h:Nat.gcd a.toNat b.toNat=g):a=(g:Int):=by
 subst h1
 rw [← h]
 have:Nat.gcd a.toNat (Int.toNat 0)=a.toNat:=Nat.gcd_zero_right _
 rw [this];omega
theorem zabo (a b:Int):Nat.gcd (if a<0 then -a else a).toNat (if b<0 then -b else b).toNat=Int.gcd a b:=by
 have e : ∀ x:Int,(if x<0 then -x else x).toNat=x.natAbs:=fun x=>by split <;> omega
 rw [e,e];rfl
structure Shr (p q:Int):Prop where
 pos:1≤q
 gcd:Int.gcd p q=1
def cm (t b:Int):Int:=if b<0 then -(Int.gcd t b:Int) else (Int.gcd t b:Int)
def shT (t b:Int):Int:=t.fdiv (cm t b)
def shB (t b:Int):Int:=b.fdiv (cm t b)
theorem qsd {t b:Int} (hb:b≠0):0<Int.gcd t b:=Int.gcd_pos_of_ne_zero_right t hb
theorem zalu {t b:Int} (hb:b≠0):cm t b≠0:=by
 have:=qsd (t:=t) hb
 unfold cm;split <;> omega
theorem zafs (t b:Int):cm t b∣t:=by
 have h:(Int.gcd t b:Int)∣t:=Int.gcd_dvd_left ..
 unfold cm;split
 ·exact Int.neg_dvd.mpr h
 ·exact h
theorem zadm (t b:Int):cm t b∣b:=by
 have h:(Int.gcd t b:Int)∣b:=Int.gcd_dvd_right ..
 unfold cm;split
 ·exact Int.neg_dvd.mpr h
 ·exact h
theorem qlk {c t:Int} (h:c∣t):c*(t.fdiv c)=t:=Int.mul_fdiv_cancel' h
theorem zais (t b:Int):cm t b*shT t b=t:=qlk (zafs t b)
theorem qsb (t b:Int):cm t b*shB t b=b:=qlk (zadm t b)
theorem qqy (t b:Int):(cm t b).natAbs=Int.gcd t b:=by unfold cm;split <;> omega
theorem qlu {t b:Int} (hb:b≠0):Shr (shT t b) (shB t b)∧shT t b*b=t*shB t b:=by
 have h1:=zais t b
 have h2:=qsb t b
 have hc:=zalu (t:=t) hb
 have hg:=qsd (t:=t) hb
 refine ⟨⟨?_,?_⟩,?_⟩
 ·by_cases hn:b<0
  ·have hcn:cm t b<0:=by unfold cm;rw [if_pos hn];omega
   have:0<shB t b:=by
    rcases Int.lt_or_le 0 (shB t b) with h|h
    ·exact h
    ·have:=Int.mul_nonneg_of_nonpos_of_nonpos (Int.le_of_lt hcn) h
     omega
   omega
  ·have hcn:0<cm t b:=by unfold cm;rw [if_neg hn];omega
   have hbp:0<b:=by omega
   have:0<shB t b:=by
    rcases Int.lt_or_le 0 (shB t b) with h|h
    ·exact h
    ·have:=Int.mul_nonpos_of_nonneg_of_nonpos (Int.le_of_lt hcn) h
     omega
   omega
 ·have e:Int.gcd (cm t b*shT t b) (cm t b*shB t b)=(cm t b).natAbs*Int.gcd (shT t b) (shB t b):=Int.gcd_mul_left ..
  rw [h1,h2,qqy] at e
  have e2:Int.gcd t b*1=Int.gcd t b*Int.gcd (shT t b) (shB t b):=by omega
  exact (Nat.eq_of_mul_eq_mul_left hg e2).symm
 ·have e:shT t b*(cm t b*shB t b)=(cm t b*shT t b)*shB t b:=by
   rw [← Int.mul_assoc,Int.mul_comm (shT t b)]
  rw [h2,h1] at e
  exact e
theorem qzk {k m n:Int} (h:Int.gcd m k=1) (e:k∣m*n):k∣n:=by
 have e':k.natAbs∣m.natAbs*n.natAbs:=by rw [← Int.natAbs_mul];exact Int.natAbs_dvd_natAbs.mpr e
 have c:Nat.Coprime k.natAbs m.natAbs:=by
  show Nat.gcd k.natAbs m.natAbs=1
  rw [Nat.gcd_comm];exact h
 exact Int.natAbs_dvd_natAbs.mp (c.dvd_of_dvd_mul_left e')
theorem zajy {p q p' q':Int} (h:Shr p q) (h':Shr p' q') (e:p*q'=p'*q):p=p'∧q=q':=by
 have d1:q∣q':=qzk h.gcd (e ▸ Int.dvd_mul_left p' q)
 have d2:q'∣q:=qzk h'.gcd (e ▸ Int.dvd_mul_left p q')
 have hq:q=q':=Int.dvd_antisymm (by have:=h.pos;omega) (by have:=h'.pos;omega) d1 d2
 subst hq
 exact ⟨Int.eq_of_mul_eq_mul_right (by have:=h.pos;omega) e,rfl⟩
open Builtin.Int (intBits)
theorem zakf {t b:Int}{m:Nat} (hb:b≠0) (h:intBits b≤m):intBits (cm t b)≤m:=by
 refine intBits_le_of_natAbs ?_ h
 rw [qqy]
 exact Nat.le_of_dvd (by omega) (Nat.gcd_dvd_right t.natAbs b.natAbs)
theorem quy {t b:Int}{m:Nat} (h:intBits t≤m):intBits (shT t b)≤m:=intBits_fdiv_le h
theorem zadx {t b:Int}{m:Nat} (h:intBits b≤m):intBits (shB t b)≤m:=intBits_fdiv_le h
theorem qdw {a b:Int} (ha:intBits a≤4000) (hb:intBits b≤4000):IntMulOk a b :=.of_le ha hb (by decide)
theorem qi {x:Int}{m n:Nat} (h:intBits x≤m) (e:m≤n):intBits x≤n:=Nat.le_trans h e
theorem qV {x:Int} (h1 : -(2^64)<x) (h2:x<2^64):intBits x≤64:=intBits_le_64 h1 h2
theorem qkv {zs:List Int}{i:Nat}{z:Int} (h:zs[i]?=some z):zs.take (i+1)=zs.take i++[z]:=by
 rw [List.take_add_one,h];rfl
theorem qbu {zs:List Int}{i:Nat}{x:PyData} (h:(zs.map PyData.int)[i]?=some x) : ∃ z,x = .int z∧zs[i]?=some z∧z ∈ zs:=by
 rw [List.getElem?_map] at h
 cases e:zs[i]? with
 | none=>rw [e] at h;cases h
 | some z =>
  rw [e] at h
  exact ⟨z,(Option.some.inj h).symm,rfl,List.mem_of_getElem? e⟩
structure Tab (b:Int) (R:List (List Int)) (n:Nat):Prop where
 pos:1≤b
 len : ∀ r ∈ R,r.length=n
 nn : ∀ r ∈ R,∀ x ∈ r,0≤x
 sum : ∀ r ∈ R,r.sum=b
def qgq (r:List Int):PyData :=.list (r.map .int)
def qdn (r:List Int):PyData :=.tuple (r.map .int)
theorem qbf {α:Type}{l:List α}{i:Nat}{x:α} (h:l[i]?=some x):x ∈ l:=List.mem_of_getElem? h
theorem qjk {n:Nat} (h:n≤1000):n≤sizeLine:=Nat.le_of_lt (qk h)
theorem qcy {α:Type} (y:α) (l:List α):atI (y::l) 0=some y:=qgh (j:=0) rfl
theorem qxf {c:Bool}{A B:Prop} (h1:c=true→A) (h2:c=false→B):if c=true then A else B:=by
 cases c with
 | true=>exact qsc (h1 rfl)
 | false=>exact qvr (h2 rfl)
def qti (R:List (List Int)):PyData :=.list (R.map qgq)
theorem zahh : ∀ {r:List Int},(∀ n ∈ r,0≤n)→0≤r.sum
 | [],_=>by simp
 | n::r,h=>by
  rw [List.sum_cons]
  have a:=h n (by simp)
  have b:=zahh fun m hm=>h m (List.mem_cons_of_mem _ hm)
  omega
theorem qei : ∀ {r:List Int}{x:Int},(∀ n ∈ r,0≤n)→x ∈ r→x≤r.sum
 | n::r,x,h,hx=>by
  rw [List.sum_cons]
  have a:=h n (by simp)
  have b:=zahh fun m hm=>h m (List.mem_cons_of_mem _ hm)
  rcases List.mem_cons.mp hx with rfl|hx
  ·omega
  ·have:=qei (fun m hm=>h m (List.mem_cons_of_mem _ hm)) hx
   omega
theorem Tab.le {b:Int}{R:List (List Int)}{n:Nat}{r:List Int}{x:Int} (h:Tab b R n) (hr:r ∈ R) (hx:x ∈ r):0≤x∧x≤b :=
 ⟨h.nn r hr x hx,h.sum r hr ▸ qei (h.nn r hr) hx⟩
theorem iteN {b:Bool}{A B:Prop} (h:b=true) (k:B):if (!b)=true then A else B:=by rw [h];exact qvr k
def qZ (g:Nat) (r:List Int):Nat:=r.foldl (fun (g:Nat) (n:Int)=>Int.gcd g n) g
def qH (R:List (List Int)):Nat:=R.foldl qZ 0
theorem qfj : ∀ (r:List Int) (g:Nat),qZ g r∣g
 | [],g=>Nat.dvd_refl _
 | n::r,g=>Nat.dvd_trans (qfj r (Int.gcd g n)) (by have:=Int.gcd_dvd_natAbs_left (g:Int) n;simpa using this)
theorem qfg : ∀ (r:List Int) (g:Nat),∀ n ∈ r,(qZ g r:Int)∣n
 | m::r,g,n,h=>by
  rcases List.mem_cons.mp h with rfl|h
  ·exact Int.dvd_trans (Int.natCast_dvd_natCast.mpr (qfj r (Int.gcd g n))) (Int.gcd_dvd_right ..)
  ·exact qfg r (Int.gcd g m) n h
theorem qhn : ∀ (R:List (List Int)) (g:Nat),R.foldl qZ g∣g
 | [],g=>Nat.dvd_refl _
 | r::R,g=>Nat.dvd_trans (qhn R (qZ g r)) (qfj r g)
theorem qqm : ∀ (R:List (List Int)) (g:Nat),∀ r ∈ R,∀ n ∈ r,((R.foldl qZ g:Nat):Int)∣n
 | s::R,g,r,h,n,hn=>by
  rcases List.mem_cons.mp h with rfl|h
  ·exact Int.dvd_trans (Int.natCast_dvd_natCast.mpr (qhn R (qZ g r))) (qfg r g n hn)
  ·exact qqm R (qZ g s) r h n hn
theorem qgy {R:List (List Int)}{r:List Int}{n:Int} (h:r ∈ R) (hn:n ∈ r):(qH R:Int)∣n:=qqm R 0 r h n hn
theorem qjp (k:Nat) : ∀ (r:List Int) (g:Nat),qZ (k*g) (r.map fun n=>(k:Int)*n)=k*qZ g r
 | [],g=>rfl
 | n::r,g=>by
  have e:Int.gcd ((k*g:Nat):Int) ((k:Int)*n)=k*Int.gcd g n:=by
   rw [Int.natCast_mul,Int.gcd_mul_left];rfl
  show qZ (Int.gcd ((k*g:Nat):Int) ((k:Int)*n)) (r.map fun n=>(k:Int)*n)=_
  rw [e]
  exact qjp k r (Int.gcd g n)
theorem qqo (k:Nat) : ∀ (R:List (List Int)) (g:Nat),(R.map fun r=>r.map fun n=>(k:Int)*n).foldl qZ (k*g)=k*R.foldl qZ g
 | [],g=>rfl
 | r::R,g=>by
  show (R.map fun r=>r.map fun n=>(k:Int)*n).foldl qZ (qZ (k*g) (r.map fun n=>(k:Int)*n))=_
  rw [qjp]
  exact qqo k R (qZ g r)
theorem zadw (k:Nat) (R:List (List Int)):qH (R.map fun r=>r.map fun n=>(k:Int)*n)=k*qH R:=qqo k R 0
def qaw (R:List (List Int)) (g:Int):List (List Int):=R.map fun r=>r.map fun n=>n/g
theorem qch {α:Type}{f:α→α} : ∀ {l:List α},(∀ x ∈ l,f x=x)→l.map f=l
 | [],_=>rfl
 | x::l,h=>by rw [List.map_cons,h x (by simp),qch fun y hy=>h y (List.mem_cons_of_mem _ hy)]
theorem zadu {R:List (List Int)}:(qaw R (qH R)).map (fun r=>r.map fun n=>(qH R:Int)*n)=R:=by
 unfold qaw
 rw [List.map_map]
 refine qch fun r hr=>?_
 show (r.map fun n=>n/(qH R:Int)).map (fun n=>(qH R:Int)*n)=r
 rw [List.map_map]
 exact qch fun n hn=>Int.mul_ediv_cancel' (qgy hr hn)
theorem zaed {R:List (List Int)} (h:0<qH R):qH (qaw R (qH R))=1:=by
 have e:=zadw (qH R) (qaw R (qH R))
 rw [zadu] at e
 have e2:qH R*1=qH R*qH (qaw R (qH R)):=by omega
 exact (Nat.eq_of_mul_eq_mul_left h e2).symm
theorem qvu : ∀ {r:List Int},(∀ n ∈ r,n=0)→r.sum=0
 | [],_=>rfl
 | n::r,h=>by rw [List.sum_cons,h n (by simp),qvu fun m hm=>h m (List.mem_cons_of_mem _ hm)];rfl
theorem Tab.gpos {b:Int}{R:List (List Int)}{n:Nat} (h:Tab b R n) (hR:R≠[]):0<qH R:=by
 rcases Nat.eq_zero_or_pos (qH R) with e|e
 ·exfalso
  obtain ⟨r,R',rfl⟩:=List.exists_cons_of_ne_nil hR
  have h1:=h.sum r (by simp)
  have h2 : ∀ m ∈ r,m=0:=fun m hm=>by
   have:=qgy (R:=r::R') (by simp) hm
   rw [e] at this
   exact Int.zero_dvd.mp this
  rw [qvu h2] at h1
  have:=h.pos
  omega
 ·exact e
theorem zaaa {g:Int} : ∀ {r:List Int},(∀ n ∈ r,g∣n)→g∣r.sum
 | [],_=>by simp
 | n::r,h=>by rw [List.sum_cons];exact Int.dvd_add (h n (by simp)) (zaaa fun m hm=>h m (List.mem_cons_of_mem _ hm))
theorem Tab.gdvd {b:Int}{R:List (List Int)}{n:Nat} (h:Tab b R n) (hR:R≠[]):(qH R:Int)∣b:=by
 obtain ⟨r,R',rfl⟩:=List.exists_cons_of_ne_nil hR
 rw [← h.sum r (by simp)]
 exact zaaa fun m hm=>qgy (by simp) hm
theorem qyc {g:Int} : ∀ {r:List Int},(∀ n ∈ r,g∣n)→(r.map fun n=>n/g).sum=r.sum/g
 | [],_=>by simp
 | n::r,h=>by
  rw [List.map_cons,List.sum_cons,List.sum_cons,qyc fun m hm=>h m (List.mem_cons_of_mem _ hm)]
  exact (Int.add_ediv_of_dvd_left (h n (by simp))).symm
theorem Tab.low {b:Int}{R:List (List Int)}{n:Nat} (h:Tab b R n) (hR:R≠[]):Tab (b/qH R) (qaw R (qH R)) n:=by
 have hp:=h.gpos hR
 have hd:=h.gdvd hR
 have hb:=h.pos
 have hgb:(qH R:Int)≤b:=Int.le_of_dvd (by omega) hd
 refine ⟨?_,?_,?_,?_⟩
 ·exact (Int.le_ediv_iff_mul_le (by omega)).mpr (by omega)
 ·intro r hr
  obtain ⟨s,hs,rfl⟩:=List.mem_map.mp hr
  rw [List.length_map];exact h.len s hs
 ·intro r hr x hx
  obtain ⟨s,hs,rfl⟩:=List.mem_map.mp hr
  obtain ⟨y,hy,rfl⟩:=List.mem_map.mp hx
  exact Int.ediv_nonneg (h.nn s hs y hy) (by omega)
 ·intro r hr
  obtain ⟨s,hs,rfl⟩:=List.mem_map.mp hr
  rw [qyc fun m hm=>qgy hs hm,h.sum s hs]
theorem qrg (g:Nat) (r:List Int) (n:Int):qZ g (r++[n])=Int.gcd (qZ g r) n:=by unfold qZ;rw [List.foldl_append];rfl
theorem qwr (R:List (List Int)) (r:List Int):qH (R++[r])=qZ (qH R) r:=by unfold qH;rw [List.foldl_append];rfl
def qql:PyData→Bool
 | .int n=>decide (0≤n)
 | _=>false
def quq:PyData→Int
 | .int n=>n
 | _=>0
def qP (d:PyData) (b:Int):Bool:=match qan d with
 | none=>false
 | some l=>(decide (1≤l.length)&&decide (l.length≤12))&&(l.all qql&&decide ((l.map quq).sum=b))
def qkk (d:PyData):Nat:=((qan d).getD []).length
def qak (bd rd:PyData) (lo hi:Int):Bool:=match bd,qan rd with
 | .int b,some l=>decide (1≤b)&&((decide (lo≤l.length)&&decide ((l.length:Int)≤hi))&&(l.all (qP · b)&&l.all fun r=>qkk r==qkk ((l[0]?).getD .none)))
 | _,_=>false
def RowsD (d:PyData) (R:List (List Int)):Prop := ∃ l,qan d=some l∧l.map (fun x=>(qan x).getD [])=R.map (fun r=>r.map PyData.int) ∧ ∀ x ∈ l,(qan x).isSome=true
theorem RowsD.len {d:PyData}{R:List (List Int)}{l:List PyData} (h:RowsD d R) (e:qan d=some l):l.length=R.length:=by
 obtain ⟨m,e',h1,_⟩:=h
 rw [e] at e';cases e'
 have:=congrArg List.length h1
 simpa using this
theorem RowsD.get {d:PyData}{R:List (List Int)}{l:List PyData}{i:Nat}{x:PyData} (h:RowsD d R) (e:qan d=some l) (hx:l[i]?=some x) : ∃ r,R[i]?=some r∧qan x=some (r.map .int):=by
 obtain ⟨m,e',h1,h2⟩:=h
 rw [e] at e';cases e'
 have h3:(l.map fun x=>(qan x).getD [])[i]?=some ((qan x).getD []):=by rw [List.getElem?_map,hx];rfl
 rw [h1,List.getElem?_map] at h3
 obtain ⟨y,hy⟩:=Option.isSome_iff_exists.mp (h2 x (List.mem_of_getElem? hx))
 cases q:R[i]? with
 | none=>rw [q] at h3;cases h3
 | some r =>
  rw [q] at h3
  refine ⟨r,rfl,?_⟩
  rw [hy] at h3 ⊢
  exact h3.symm
theorem RowsD.of {d:PyData}{R:List (List Int)}{f:List PyData→PyData} (hf : ∀ l,qan (f l)=some l) (e:qan d=some (R.map fun r=>f (r.map .int))):RowsD d R:=by
 refine ⟨_,e,?_,?_⟩
 ·rw [List.map_map]
  refine List.map_congr_left fun r _=>?_
  simp [hf]
 ·intro x hx
  obtain ⟨r,_,rfl⟩:=List.mem_map.mp hx
  simp [hf]
theorem qgv : ∀ {l:List PyData},l.all qql=true→l=(l.map quq).map PyData.int ∧ ∀ n ∈ l.map quq,0≤n
 | [],_=>by simp
 | d::l,h=>by
  rw [List.all_cons,Bool.and_eq_true] at h
  obtain ⟨e,g⟩:=qgv h.2
  cases d with
  | int n =>
   have hn:0≤n:=of_decide_eq_true h.1
   refine ⟨?_,?_⟩
   ·rw [List.map_cons,List.map_cons,← e];rfl
   ·intro m hm
    rcases List.mem_cons.mp hm with rfl|hm
    ·exact hn
    ·exact g m hm
  | _=>exact absurd h.1 (by simp [qql])
theorem qud {ns:List Int} (h : ∀ n ∈ ns,0≤n):(ns.map PyData.int).all qql=true∧(ns.map PyData.int).map quq=ns:=by
 refine ⟨?_,?_⟩
 ·rw [List.all_eq_true]
  intro x hx
  obtain ⟨n,hn,rfl⟩:=List.mem_map.mp hx
  exact decide_eq_true (h n hn)
 ·rw [List.map_map];exact qch fun n _=>rfl
theorem qix {d:PyData}{b:Int}:qP d b=true ↔ ∃ r:List Int,qan d=some (r.map .int)∧1≤r.length∧r.length≤12∧(∀ n ∈ r,0≤n)∧r.sum=b:=by
 unfold qP
 cases h:qan d with
 | none=>simp
 | some l =>
  simp only [Bool.and_eq_true,decide_eq_true_eq]
  constructor
  ·rintro ⟨⟨h1,h2⟩,h3,h4⟩
   obtain ⟨e,g⟩:=qgv h3
   exact ⟨l.map quq,by rw [← e],by simpa using h1,by simpa using h2,g,h4⟩
  ·rintro ⟨r,e,h1,h2,h3,h4⟩
   cases e
   obtain ⟨g1,g2⟩:=qud h3
   exact ⟨⟨by simpa using h1,by simpa using h2⟩,g1,by rw [g2];exact h4⟩
theorem qpx {d:PyData}{b lo hi:Int}{R:List (List Int)}{n:Nat} (h:RowsD d R) (hT:Tab b R n) (h1:1≤n) (h2:n≤12) (h3:lo≤R.length) (h4:R.length≤hi):qak (.int b) d lo hi=true:=by
 obtain ⟨l,e,_⟩:=id h
 have hl:=h.len e
 have rowOf : ∀ x ∈ l,∃ r ∈ R,qan x=some (r.map .int):=fun x hx=>by
  obtain ⟨i,hi,rfl⟩:=List.getElem_of_mem hx
  obtain ⟨r,hr,e'⟩:=h.get e (List.getElem?_eq_getElem hi)
  exact ⟨r,List.mem_of_getElem? hr,e'⟩
 have lenOf : ∀ x ∈ l,qkk x=n:=fun x hx=>by
  obtain ⟨r,hr,e'⟩:=rowOf x hx
  unfold qkk
  rw [e']
  simpa using hT.len r hr
 unfold qak
 rw [e]
 simp only [Bool.and_eq_true,decide_eq_true_eq,List.all_eq_true,beq_iff_eq]
 refine ⟨hT.pos,⟨by omega,by omega⟩,fun x hx=>?_,fun x hx=>?_⟩
 ·obtain ⟨r,hr,e'⟩:=rowOf x hx
  exact qix.mpr ⟨r,e',by rw [hT.len r hr];exact h1,by rw [hT.len r hr];exact h2,hT.nn r hr,hT.sum r hr⟩
 ·rw [lenOf x hx]
  cases l with
  | nil=>simp at hx
  | cons y l=>exact (lenOf y (by simp)).symm
def qC (b:Int) (R:List (List Int)):PyData :=.tuple [.int b,.tuple (R.map qdn)]
theorem qfb (R:List (List Int)):RowsD (.tuple (R.map qdn)) R:=RowsD.of (f :=.tuple) (fun _=>rfl) rfl
theorem qeg (R:List (List Int)):RowsD (.list (R.map qgq)) R:=RowsD.of (f :=.list) (fun _=>rfl) rfl
def qfk:DC
 | [d,.int b],q=>q (.bool (qP d b))
 | _,_=>False
theorem qro:FnScope ["row","bottom"] ["row","bottom"] (defScope qes):=⟨rfl,rfl,rfl,by decide +kernel,rfl,by decide +kernel,by decide +kernel⟩
theorem qrs (F:Def K mg "makes_row" qes ["row","bottom"]) (T:Txt K mg cs)
 (O_is_whole:Ok P w K mg base "is_whole" 1 ["thing"] (PSp K qag))
 : Ok P w K mg base "makes_row" 2 ["row","bottom"] (PSp K qfk):=by
  refine F.vok qro (fun ds q h=>by unfold qfk at h;split at h;all_goals first|rfl|exact h.elim) fun f cdv A outer s H E hr ds q h=>?_
  match ds,h with
  | [d,.int b],h =>
  refine ⟨_,(qg (qat (VW.pt (qgo (qba (qar (qzs T.isinstance_ T.list_ L2.boot_list T.tuple_ L2.boot_tuple (qc 0)))) (qff (qba (qoo qvs qvs qe (qt qcd T.len_ L2.boot_len (qa (qc 0) qd)) (qfi T.MOST_SIGNS_)))))) (qh (qu qin)) qE)
   (qh (qu (qmh (qt (zacl rfl) T.all_ L2.boot_all (qa (qM (qJ (caps:=[]) (own:=["number"]) (ix:=[]) rfl ⟨rfl,rfl,rfl,rfl,rfl,rfl⟩ (qO (qc 0)) (fun _ _ _ _=>(qm (i:=0) (show List.Nodup (["number"]:List Str) by decide))) (fun _ _ _ _=>(qmh (ql O_is_whole (hr.mono (by decide)) (qa (qc 0) qd)) (qmk (qml o_ge (qc 0) qe)))))) qd)) (qmk (qml (qwl hr.units) (qt (qqa rfl) T.sum_ L2.boot_sum (qa (qc 0) qd)) (qc 1))))))),?_⟩
  have h:q (.bool (qP d b)):=h
  cases hs:qan d with
  | none =>
   have e:(qpa "list" d||qpa "tuple" d)=false:=by rw [qnw,hs];rfl
   have h0:qP d b=false:=by unfold qP;rw [hs]
   rw [h0] at h
   refine qxf (fun _=>?_) (fun z=>?_)
   ·exact h
   ·rw [e] at z;cases z
  | some l =>
   have hm:qP d b=((decide (1≤l.length)&&decide (l.length≤12))&&(l.all qql&&decide ((l.map quq).sum=b))):=by unfold qP;rw [hs]
   rw [hm] at h
   refine qxf (fun z=>?_) (fun _=>qmz hs (qgx (fun h1=>qxf (fun h2=>?_) (fun h2=>?_)) (fun h1=>qsc ?_)))
   ·rw [qnw,hs] at z;cases z
   ·have e:decide (l.length≤12)=false:=by simp at h2 ⊢;omega
    rw [e,Bool.and_false,Bool.false_and] at h;exact h
   ·have e1:decide (1≤l.length)=true:=by simp;omega
    have e2:decide (l.length≤12)=true:=by simp at h2 ⊢;omega
    rw [e1,e2] at h
    replace h:q (.bool (l.all qql&&decide ((l.map quq).sum=b))):=h
    refine qQ hs (qz (l.map fun x => .bool (qql x)) (by simp) (qk (by simp at e2 ⊢;omega)) (fun e => ∃ s,e=[s]) ⟨_,rfl⟩ ?_ ?_)
    ·rintro i x ys e hx hys ⟨s,rfl⟩
     have hL:(l.map fun x=>PyData.bool (qql x))[i]?=some (.bool (qql x)):=by rw [List.getElem?_map,hx];rfl
     cases x with
     | int n=>exact ⟨qo hL hys,_,rfl⟩
     | _=>exact ⟨qo hL hys,_,rfl⟩
    ·refine ⟨l.map qql,by rw [List.map_map];rfl,?_⟩
     have e:(l.map qql).all id=l.all qql:=by rw [List.all_map];rfl
     rw [e]
     refine qxf (fun z=>?_) (fun z=>?_)
     ·obtain ⟨g1,g2⟩:=qgv z
      rw [z] at h
      refine zajc (ns:=l.map quq) (by rw [hs,← g1]) ⟨rfl,rfl,?_⟩
      have e3:PyData.eqv (.int (l.map quq).sum) (.int b)=decide ((l.map quq).sum=b):=by rw [qnq];exact Bool.beq_eq_decide_eq _ _
      rw [e3];exact h
     ·rw [z] at h;exact h
   ·have e1:decide (1≤l.length)=false:=decide_eq_false (by omega)
    rw [e1] at h;exact h
def qeb:DC
 | [bd,rd,.int lo,.int hi],q=>(1≤lo∧hi≤900)∧q (.bool (qak bd rd lo hi))
 | _,_=>False
theorem qmt:FnScope ["bottom","rows","fewest","most"] ["bottom","rows","fewest","most"] (defScope qdk):=⟨rfl,rfl,rfl,by decide +kernel,rfl,by decide +kernel,by decide +kernel⟩
theorem qmw (F:Def K mg "makes_table" qdk ["bottom","rows","fewest","most"]) (T:Txt K mg cs)
 (O_is_whole:Ok P w K mg base "is_whole" 1 ["thing"] (PSp K qag))
 (O_makes_row:Ok P w K mg base "makes_row" 2 ["row","bottom"] (PSp K qfk))
 : Ok P w K mg base "makes_table" 3 ["bottom","rows","fewest","most"] (PSp K qeb):=by
  refine F.vok qmt (fun ds q h=>by unfold qeb at h;split at h;all_goals first|rfl|exact h.elim) fun f cdv A outer s H E hr ds q h=>?_
  match ds,h with
  | [bd,rd,.int lo,.int hi],⟨⟨h1,h2⟩,h⟩ =>
  refine ⟨_,(qg (qat (VW.pt (qgo (qba (qar (ql O_is_whole (hr.mono (by decide)) (qa (qc 0) qd)))) (qff (qaj o_lt (qc 0) qe)))) (qh (qu qin)) qE)
   (qg (qat (VW.pt (qgo (qba (qar (qzs T.isinstance_ T.list_ L2.boot_list T.tuple_ L2.boot_tuple (qc 1)))) (qff (qba (qoo qvs qvs (qc 2) (qt qcd T.len_ L2.boot_len (qa (qc 1) qd)) (qc 3)))))) (qh (qu qin)) qE)
   (qg (qat (qba (qar (qt (zacl rfl) T.all_ L2.boot_all (qa (qM (qJ (caps:=["bottom"]) (own:=["row"]) (ix:=[0]) rfl ⟨rfl,rfl,rfl,rfl,rfl,rfl⟩ (qO (qc 1)) (fun _ _ _ _=>(qm (i:=1) (show List.Nodup (["bottom","row"]:List Str) by decide))) (fun _ _ _ _=>(ql O_makes_row (hr.mono (by decide)) (qa (qc 1) (qa (qc 0) qd)))))) qd)))) (qh (qu qin)) qE)
   (qh (qu (qt (zacl rfl) T.all_ L2.boot_all (qa (qM (qJ (caps:=["rows"]) (own:=["row"]) (ix:=[1]) rfl ⟨rfl,rfl,rfl,rfl,rfl,rfl⟩ (qO (qc 1)) (fun _ _ _ _=>(qm (i:=1) (show List.Nodup (["rows","row"]:List Str) by decide))) (fun _ _ _ _=>(qml (qwl hr.units) (qt qcd T.len_ L2.boot_len (qa (qc 1) qd)) (qt qcd T.len_ L2.boot_len (qa (qv (qc 0) qe) qd)))))) qd))))))),?_⟩
  have h:q (.bool (qak bd rd lo hi)):=h
  cases bd with
  | int b =>
   refine qgx (fun hb=>?_) (fun hb=>?_)
   ·have e:qak (.int b) rd lo hi=false:=by
     unfold qak
     cases qan rd with
     | none=>rfl
     | some l=>show (decide (1≤b)&&_)=false;rw [decide_eq_false (by omega)];rfl
    rw [e] at h;exact h
   cases hs:qan rd with
   | none =>
    have e:(qpa "list" rd||qpa "tuple" rd)=false:=by rw [qnw,hs];rfl
    have h0:qak (.int b) rd lo hi=false:=by unfold qak;rw [hs]
    rw [h0] at h
    refine qxf (fun _=>h) (fun z=>?_)
    rw [e] at z;cases z
   | some l =>
    have hm:qak (.int b) rd lo hi=((decide (lo≤l.length)&&decide ((l.length:Int)≤hi))&&(l.all (qP · b)&&l.all fun r=>qkk r==qkk ((l[0]?).getD .none))):=by
     unfold qak;rw [hs];show (decide (1≤b)&&_)=_;rw [decide_eq_true (by omega)];rfl
    rw [hm] at h
    refine qxf (fun z=>?_) (fun _=>qmz hs (qgx (fun g1=>qxf (fun g2=>?_) (fun g2=>?_)) (fun g1=>qsc ?_)))
    ·rw [qnw,hs] at z;cases z
    ·have e:decide ((l.length:Int)≤hi)=false:=by
      cases q:decide ((l.length:Int)≤hi) with
      | false=>rfl
      | true=>rw [q] at g2;cases g2
     rw [e,Bool.and_false,Bool.false_and] at h;exact h
    ·have e2:decide ((l.length:Int)≤hi)=true:=by
      cases q:decide ((l.length:Int)≤hi) with
      | true=>rfl
      | false=>rw [q] at g2;cases g2
     have g3:=of_decide_eq_true e2
     rw [decide_eq_true g1,e2,Bool.true_and,Bool.true_and] at h
     refine qQ hs (qz (l.map fun x => .bool (qP x b)) (by simp) (qk (by simp;omega)) (fun e => ∃ s,e=[.val (.int b),s]) ⟨_,rfl⟩ ?_ ?_)
     ·rintro i x ys e hx hys ⟨s,rfl⟩
      exact ⟨qo (by rw [List.getElem?_map,hx];rfl) hys,_,rfl⟩
     refine ⟨l.map (qP · b),by rw [List.map_map];rfl,?_⟩
     have e:(l.map (qP · b)).all id=l.all (qP · b):=by rw [List.all_map];rfl
     rw [e]
     refine qxf (fun z=>?_) (fun z=>?_)
     ·have z':l.all (qP · b)=false:=by
       cases q:l.all (qP · b) with
       | false=>rfl
       | true=>rw [q] at z;cases z
      rw [z',Bool.false_and] at h;exact h
     ·have z':l.all (qP · b)=true:=by
       cases q:l.all (qP · b) with
       | true=>rfl
       | false=>rw [q] at z;cases z
      rw [z',Bool.true_and] at h
      have sq : ∀ x ∈ l,qan x=some ((qan x).getD []):=fun x hx=>by
       obtain ⟨r,hr,_⟩:=qix.mp (List.all_eq_true.mp z' x hx)
       rw [hr];rfl
      obtain ⟨y,l',rfl⟩ : ∃ y l',l=y::l':=by
       cases l with
       | nil=>simp at g1;omega
       | cons y l'=>exact ⟨y,l',rfl⟩
      refine qQ hs (qz ((y::l').map fun x => .bool (qkk x==qkk y)) (by simp) (qk (by rw [List.length_map];omega)) (fun e => ∃ s,e=[.val rd,s]) ⟨_,rfl⟩ ?_ ?_)
      ·rintro i x ys e hx hys ⟨s,rfl⟩
       refine qmz (sq x (qbf hx)) (qsl hs (qcy _ _) (qmz (sq y (by simp)) ⟨rfl,rfl,?_,_,rfl⟩))
       refine qo ?_ hys
       rw [List.getElem?_map,hx]
       have e3:PyData.eqv (.int ((qan x).getD []).length) (.int ((qan y).getD []).length)=(qkk x==qkk y):=by
        rw [qnq];unfold qkk
        rw [Bool.eq_iff_iff];simp;omega
       rw [e3];rfl
      ·refine ⟨(y::l').map fun x=>qkk x==qkk y,by rw [List.map_map];rfl,?_⟩
       have e:((y::l').map fun x=>qkk x==qkk y).all id=(y::l').all fun x=>qkk x==qkk y:=by rw [List.all_map];rfl
       rw [e];exact h
    ·rw [decide_eq_false g1,Bool.false_and,Bool.false_and] at h;exact h
  | _=>exact h
def qdg:DC
 | [.int a,.int b],q=>q (.int (Int.gcd a b))
 | _,_=>False
theorem zaha (x:Int):0≤(if x<0 then -x else x):=by split <;> omega
theorem qdi:FnScope ["one","other","rest"] ["one","other"] (defScope qhk):=⟨rfl,rfl,rfl,by decide +kernel,rfl,by decide +kernel,by decide +kernel⟩
theorem qwj (F:Def K mg "divisor" qhk ["one","other"]) (T:Txt K mg cs)
 : Ok P w K mg base "divisor" 1 ["one","other"] (PSp K qdg):=by
  refine F.vok qdi (fun ds q h=>by unfold qdg at h;split at h;all_goals first|rfl|exact h.elim) fun f cdv A outer s H E hr ds q h=>?_
  match ds,h with
  | [.int a,.int b],h =>
  refine ⟨_,(qg (qy (i:=0) qdi.nd (qt zahw T.abs_ L2.boot_abs (qa (qc 0) qd)))
   (qg (qy (i:=1) qdi.nd (qt zahw T.abs_ L2.boot_abs (qa (qc 1) qd)))
   (qg (qvh (qaj (qzg hr.units) (qc 1) qe) (qg (qy (i:=2) qdi.nd (qw qig (qc 0) (qc 1)))
   (qg (qy (i:=0) qdi.nd (qc 1))
   (qh (qy (i:=1) qdi.nd (qc 2))))))
   (qh (qu (qc 0)))))),?_⟩
  refine ⟨fun m e => ∃ x y r,e=[.val (.int x),.val (.int y),r]∧0≤x∧0≤y∧Nat.gcd x.toNat y.toNat=Int.gcd a b∧m=y.toNat,⟨_,_,_,_,rfl,zaha a,zaha b,zabo a b,rfl⟩,?_⟩
  rintro m e ⟨x,y,r,rfl,hx,hy,hg,rfl⟩
  refine ⟨rfl,rfl,qpr (fun hne=>?_) (fun he=>?_)⟩
  ·obtain ⟨t1,t2,t3⟩:=qvk hx hy hne hg
   exact ⟨by omega,(x%y).toNat,by omega,y,x%y,_,rfl,hy,t1,t3,rfl⟩
  ·subst he
   have:=qzw hx rfl hg
   rw [this];exact h
def qcm (ds:List PyData) (q:PyData→Prop):Prop := ∃ d R,ds=[d]∧RowsD d R∧q (.int (qH R))
theorem qaf:FnScope ["rows","common","row","number"] ["rows"] (defScope qbn):=⟨rfl,rfl,rfl,by decide +kernel,rfl,by decide +kernel,by decide +kernel⟩
theorem qip (F:Def K mg "common_divisor" qbn ["rows"]) (T:Txt K mg cs)
 (O_divisor:Ok P w K mg base "divisor" 1 ["one","other"] (PSp K qdg))
 : Ok P w K mg base "common_divisor" 2 ["rows"] (PSp K qcm):=by
  refine F.vok qaf (by rintro ds q ⟨_,_,h,_⟩;rw [h];rfl) fun f cdv A outer s H E hr ds q h=>?_
  obtain ⟨d,R,rfl,hR,h⟩:=h
  refine ⟨_,(qg (qy (i:=1) qaf.nd qe)
   (qg (qet rfl (qO (qc 0)) (qm (i:=2) qaf.nd) (qh (qet rfl (qO (qc 2)) (qm (i:=3) qaf.nd) (qh (qy (i:=1) qaf.nd (ql O_divisor (hr.mono (by decide)) (qa (qc 1) (qa (qc 3) qd))))))))
   (qh (qu (qc 1))))),?_⟩
  obtain ⟨l,e,_⟩:=id hR
  refine qQ e ⟨fun i e => ∃ t1 t2 c,e=[.val d,.val (.int c),t1,t2]∧c=(qH (R.take i):Int),⟨_,_,_,rfl,rfl⟩,?_,?_⟩
  ·rintro i x e' hx ⟨t1,t2,_,rfl,rfl⟩
   obtain ⟨r,hr,er⟩:=hR.get e hx
   refine qQ er ⟨fun j e => ∃ t2 c,e=[.val d,.val (.int c),.val x,t2]∧c=(qZ (qH (R.take i)) (r.take j):Int),⟨_,_,rfl,rfl⟩,?_,?_⟩
   ·rintro j y e hy ⟨t2,_,rfl,rfl⟩
    obtain ⟨z,rfl,hz,_⟩:=qbu hy
    refine ⟨_,_,rfl,?_⟩
    rw [qkv hz,qrg]
   ·rintro e ⟨t2,_,rfl,rfl⟩
    refine ⟨_,_,_,rfl,?_⟩
    rw [List.length_map,List.take_length,List.take_add_one,hr]
    show _=((qH (R.take i++[r]):Nat):Int)
    rw [qwr]
  ·rintro e' ⟨t1,t2,_,rfl,rfl⟩
   rw [hR.len e,List.take_length]
   exact h
def qif (ds:List PyData) (q:PyData→Prop):Prop := ∃ (d:PyData) (r:List Int) (g:Int),ds=[d,.int g]∧(qan d=some (r.map .int)∧r.length≤900∧0<g∧intBits g≤9000)∧q (qdn (r.map fun n=>n/g))
theorem qxg:FnScope ["row","common"] ["row","common"] (defScope qhj):=⟨rfl,rfl,rfl,by decide +kernel,rfl,by decide +kernel,by decide +kernel⟩
theorem qwg (F:Def K mg "divided" qhj ["row","common"]) (T:Txt K mg cs)
 : Ok P w K mg base "divided" 1 ["row","common"] (qpz K qif):=by
  refine F.vokN qxg (by rintro ds q ⟨_,_,_,h,_⟩;rw [h];rfl) fun f cdv A outer s H E hr ds q h=>?_
  obtain ⟨d,r,g,rfl,⟨e,hl,g0,g1⟩,h⟩:=h
  refine ⟨_,(qh (zaji (zaih T.tuple_ (qM (qJ (caps:=["common"]) (own:=["number"]) (ix:=[1]) rfl ⟨rfl,rfl,rfl,rfl,rfl,rfl⟩ (qO (qc 0)) (fun _ _ _ _=>(qm (i:=1) (show List.Nodup (["common","number"]:List Str) by decide))) (fun _ _ _ _=>(qw qhf (qc 1) (qc 0)))))))),?_⟩
  refine qQ e (qz ((r.map fun n=>n/g).map .int) (by simp) (qk (by simp;omega)) (fun e => ∃ s,e=[.val (.int g),s]) ⟨_,rfl⟩ ?_ ?_)
  ·rintro i x ys e hx hys ⟨s,rfl⟩
   obtain ⟨z,rfl,hz,_⟩:=qbu hx
   refine ⟨⟨g0,g1⟩,qo ?_ hys,_,rfl⟩
   rw [List.getElem?_map,List.getElem?_map,hz];rfl
  ·exact ⟨List.all_eq_true.mpr fun x hx=>by obtain ⟨n,_,rfl⟩:=List.mem_map.mp hx;rfl,_,rfl,h⟩
def qT (ds:List PyData) (q:PyData→Prop):Prop := ∃ (b:Int) (d:PyData) (R:List (List Int)) (n:Nat),ds=[.int b,d]∧(RowsD d R∧Tab b R n∧R≠[]∧R.length≤900∧n≤900∧intBits b≤9000)∧q (qC (b/qH R) (qaw R (qH R)))
theorem zafj {g b:Int}{m:Nat} (hb:0<b) (h:g∣b) (hz:intBits b≤m):intBits g≤m:=by
 refine intBits_le_of_natAbs ?_ hz
 exact Nat.le_of_dvd (by omega) (Int.natAbs_dvd_natAbs.mpr h)
theorem qfs:FnScope ["bottom","rows","common"] ["bottom","rows"] (defScope qcp):=⟨rfl,rfl,rfl,by decide +kernel,rfl,by decide +kernel,by decide +kernel⟩
theorem qmc (F:Def K mg "lowest_table" qcp ["bottom","rows"]) (T:Txt K mg cs)
 (O_common_divisor:Ok P w K mg base "common_divisor" 2 ["rows"] (PSp K qcm))
 (O_divided:Ok P w K mg base "divided" 1 ["row","common"] (qpz K qif))
 : Ok P w K mg base "lowest_table" 3 ["bottom","rows"] (PSp K qT):=by
  refine F.vok qfs (by rintro ds q ⟨_,_,_,_,h,_⟩;rw [h];rfl) fun f cdv A outer s H E hr ds q h=>?_
  obtain ⟨b,d,R,n,rfl,⟨hR,hT,hn,hl,hn2,hz⟩,h⟩:=h
  refine ⟨_,(qg (qy (i:=2) qfs.nd (ql O_common_divisor (hr.mono (by decide)) (qa (qc 1) qd)))
   (qh (qu (qgj (qa (qw qhf (qc 0) (qc 2)) (qa (qas qdc T.tuple_ L2.boot_tuple (qa (qM (qJ (caps:=["common"]) (own:=["row"]) (ix:=[2]) rfl ⟨rfl,rfl,rfl,rfl,rfl,rfl⟩ (qO (qc 1)) (fun _ _ _ _=>(qm (i:=1) (show List.Nodup (["common","row"]:List Str) by decide))) (fun _ _ _ _=>(vn_e (zamd O_divided (hr.mono (by decide)) (qa (qc 1) (qa (qc 0) qd))))))) qd)) qd)))))),?_⟩
  have g0:=hT.gpos hn
  have g1:intBits (qH R:Int)≤9000:=zafj (by have:=hT.pos;omega) (hT.gdvd hn) hz
  refine ⟨d,R,rfl,hR,⟨by omega,g1⟩,?_⟩
  obtain ⟨l,e,_⟩:=id hR
  refine qQ e (qz ((qaw R (qH R)).map qdn) (by unfold qaw;simp [hR.len e]) (qk (by unfold qaw;simp;omega)) (fun e => ∃ s,e=[.val (.int (qH R)),s]) ⟨_,rfl⟩ ?_ ⟨szl,h⟩)
  rintro i x ys e' hx hys ⟨s,rfl⟩
  obtain ⟨r,hr,er⟩:=hR.get e hx
  refine ⟨x,r,qH R,rfl,⟨er,by rw [hT.len r (qbf hr)];exact hn2,by omega,g1⟩,qo ?_ hys,_,rfl⟩
  unfold qaw
  rw [List.getElem?_map,List.getElem?_map,hr];rfl
def qgs (ds:List PyData) (q:PyData→Prop):Prop := ∃ (b:Int) (d:PyData) (R:List (List Int)) (n:Nat),ds=[.int b,d]∧(RowsD d R∧Tab b R n∧1≤n∧n≤12∧2≤R.length∧R.length≤4∧intBits b≤9000)∧q (qC (b/qH R) (qaw R (qH R)))
theorem qts:FnScope ["bottom","rows"] ["bottom","rows"] (defScope qfv):=⟨rfl,rfl,rfl,by decide +kernel,rfl,by decide +kernel,by decide +kernel⟩
theorem qty (F:Def K mg "glass_of" qfv ["bottom","rows"]) (T:Txt K mg cs)
 (O_makes_table:Ok P w K mg base "makes_table" 3 ["bottom","rows","fewest","most"] (PSp K qeb))
 (O_lowest_table:Ok P w K mg base "lowest_table" 3 ["bottom","rows"] (PSp K qT))
 : Ok P w K mg base "glass_of" 4 ["bottom","rows"] (PSp K qgs):=by
  refine F.vok qts (by rintro ds q ⟨_,_,_,_,h,_⟩;rw [h];rfl) fun f cdv A outer s H E hr ds q h=>?_
  obtain ⟨b,d,R,n,rfl,⟨hR,hT,n1,n2,r1,r2,hz⟩,h⟩:=h
  refine ⟨_,(qg (qat (qba (qar (ql O_makes_table (hr.mono (by decide)) (qa (qc 0) (qa (qc 1) (qa (qfi T.FEWEST_STANDS_) (qa (qfi T.MOST_STANDS_) qd))))))) qbh qE)
   (qh (qu (ql O_lowest_table (hr.mono (by decide)) (qa (qc 0) (qa (qc 1) qd)))))),?_⟩
  refine ⟨⟨by decide,by decide⟩,?_⟩
  rw [qpx hR hT n1 n2 (by omega) (by omega)]
  exact ⟨b,d,R,n,rfl,⟨hR,hT,fun z=>by rw [z] at r1;simp at r1,by omega,by omega,hz⟩,h⟩
def qbz:DC
 | [.int n],q=>(2≤n∧n≤4)∧q .none
 | _,_=>False
theorem qlr:FnScope ["many"] ["many"] (defScope qcq):=⟨rfl,rfl,rfl,by decide +kernel,rfl,by decide +kernel,by decide +kernel⟩
theorem qlz (F:Def K mg "check_stands" qcq ["many"]) (T:Txt K mg cs)
 (O_is_whole:Ok P w K mg base "is_whole" 1 ["thing"] (PSp K qag))
 : Ok P w K mg base "check_stands" 2 ["many"] (PSp K qbz):=by
  refine F.vok qlr (fun ds q h=>by unfold qbz at h;split at h;all_goals first|rfl|exact h.elim) fun f cdv A outer s H E hr ds q h=>?_
  match ds,h with
  | [.int n],⟨⟨h1,h2⟩,h⟩ =>
  refine ⟨_,(qh (qat (VW.pt (qgo (qba (qar (ql O_is_whole (hr.mono (by decide)) (qa (qc 0) qd)))) (qff (qba (qoo qvs qvs (qfi T.FEWEST_STANDS_) (qc 0) (qfi T.MOST_STANDS_)))))) qbh qE)),?_⟩
  refine qgx (fun _=>qxf (fun z=>?_) (fun _=>h)) (fun z=>absurd h1 z)
  rw [decide_eq_true h2] at z;cases z
def qeu (p n:Nat):List Int:=(List.range n).map fun k=>if k=p then 1 else 0
def qgr (ds:List PyData) (q:PyData→Prop):Prop := ∃ p n:Nat,ds=[.int p,.int n]∧n≤900∧q (qdn (qeu p n))
theorem qtx:FnScope ["place","many"] ["place","many"] (defScope qfz):=⟨rfl,rfl,rfl,by decide +kernel,rfl,by decide +kernel,by decide +kernel⟩
theorem qtp (F:Def K mg "one_sign" qfz ["place","many"]) (T:Txt K mg cs)
 : Ok P w K mg base "one_sign" 1 ["place","many"] (PSp K qgr):=by
  refine F.vok qtx (by rintro ds q ⟨_,_,h,_⟩;rw [h];rfl) fun f cdv A outer s H E hr ds q h=>?_
  obtain ⟨p,n,rfl,hn,h⟩:=h
  refine ⟨_,(qh (qu (qas qdc T.tuple_ L2.boot_tuple (qa (qM (qJ (caps:=["place"]) (own:=["sign"]) (ix:=[0]) rfl ⟨rfl,rfl,rfl,rfl,rfl,rfl⟩ (qR T.range_ (qc 1)) (fun _ _ _ _=>(qm (i:=1) (show List.Nodup (["place","sign"]:List Str) by decide))) (fun _ _ _ _=>(que (qaj (qwl hr.units) (qc 1) (qc 0)) qe qe)))) qd)))),?_⟩
  refine ⟨⟨by omega,by omega⟩,qz ((qeu p n).map .int) (by unfold qeu;simp [qA]) (qk (by unfold qeu;simp;omega)) (fun e => ∃ s,e=[.val (.int p),s]) ⟨_,rfl⟩ ?_ h⟩
  rintro i x ys e hx hys ⟨s,rfl⟩
  obtain ⟨hi,rfl⟩:=qbq hx
  have hi':i<n:=by omega
  refine ⟨rfl,rfl,qpu (fun z=>?_) (fun z=>?_)⟩
  ·refine ⟨qo ?_ hys,_,rfl⟩
   unfold qeu
   rw [List.getElem?_map,List.getElem?_map,List.getElem?_range hi']
   have:i=p:=by omega
   simp [this]
  ·refine ⟨qo ?_ hys,_,rfl⟩
   unfold qeu
   rw [List.getElem?_map,List.getElem?_map,List.getElem?_range hi']
   have : ¬ i=p:=by omega
   simp [this]
def qcv (n:Nat):List (List Int):=(List.range n).map fun p=>qeu p n
theorem qqu {n:Nat} (h1:2≤n) (h2:n≤4):Tab 1 (qcv n) n∧qH (qcv n)=1∧qaw (qcv n) 1=qcv n∧(qcv n).length=n:=by
 have:n=2∨n=3∨n=4:=by omega
 rcases this with rfl|rfl|rfl <;> exact ⟨⟨by decide,by decide,by decide,by decide⟩,by decide,by decide,by decide⟩
def qva (ds:List PyData) (q:PyData→Prop):Prop := ∃ n:Nat,ds=[.int n]∧(2≤n∧n≤4)∧q (qC 1 (qcv n))
theorem zaei:FnScope ["many"] ["many"] (defScope qoc):=⟨rfl,rfl,rfl,by decide +kernel,rfl,by decide +kernel,by decide +kernel⟩
theorem zafw (F:Def K mg "clear" qoc ["many"]) (T:Txt K mg cs)
 (O_glass_of:Ok P w K mg base "glass_of" 4 ["bottom","rows"] (PSp K qgs))
 (O_check_stands:Ok P w K mg base "check_stands" 2 ["many"] (PSp K qbz))
 (O_one_sign:Ok P w K mg base "one_sign" 1 ["place","many"] (PSp K qgr))
 : Ok P w K mg base "clear" 5 ["many"] (PSp K qva):=by
  refine F.vok zaei (by rintro ds q ⟨_,h,_⟩;rw [h];rfl) fun f cdv A outer s H E hr ds q h=>?_
  obtain ⟨n,rfl,⟨n1,n2⟩,h⟩:=h
  refine ⟨_,(qg (qex (ql O_check_stands (hr.mono (by decide)) (qa (qc 0) qd)))
   (qh (qu (ql O_glass_of (hr.mono (by decide)) (qa qe (qa (qM (qJ (caps:=["many"]) (own:=["stand"]) (ix:=[0]) rfl ⟨rfl,rfl,rfl,rfl,rfl,rfl⟩ (qR T.range_ (qc 0)) (fun _ _ _ _=>(qm (i:=1) (show List.Nodup (["many","stand"]:List Str) by decide))) (fun _ _ _ _=>(ql O_one_sign (hr.mono (by decide)) (qa (qc 1) (qa (qc 0) qd)))))) qd)))))),?_⟩
  obtain ⟨hT,hg,hd,hl⟩:=qqu n1 n2
  refine ⟨⟨by omega,by omega⟩,⟨by omega,by omega⟩,qz ((qcv n).map qdn) (by simp [hl,qA]) (qk (by simp [hl];omega)) (fun e => ∃ s,e=[.val (.int n),s]) ⟨_,rfl⟩ ?_ ?_⟩
  ·rintro i x ys e hx hys ⟨s,rfl⟩
   obtain ⟨hi,rfl⟩:=qbq hx
   have hi':i<n:=by omega
   rw [Int.zero_add]
   refine ⟨i,n,rfl,by omega,qo ?_ hys,_,rfl⟩
   unfold qcv
   rw [List.getElem?_map,List.getElem?_map,List.getElem?_range hi'];rfl
  ·refine ⟨1,_,qcv n,n,rfl,⟨RowsD.of (f :=.tuple) (fun _=>rfl) rfl,hT,by omega,by omega,by omega,by omega,by decide⟩,?_⟩
   rw [hg]
   show q (qC (1/1) (qaw (qcv n) 1))
   rw [hd];exact h
def qce (n:Nat):List (List Int):=List.replicate n [1]
theorem qra {n:Nat} (h1:2≤n) (h2:n≤4):Tab 1 (qce n) 1∧qH (qce n)=1∧qaw (qce n) 1=qce n∧(qce n).length=n:=by
 have:n=2∨n=3∨n=4:=by omega
 rcases this with rfl|rfl|rfl <;> exact ⟨⟨by decide,by decide,by decide,by decide⟩,by decide,by decide,by decide⟩
def quw (ds:List PyData) (q:PyData→Prop):Prop := ∃ n:Nat,ds=[.int n]∧(2≤n∧n≤4)∧q (qC 1 (qce n))
theorem zaft:FnScope ["many"] ["many"] (defScope qnu):=⟨rfl,rfl,rfl,by decide +kernel,rfl,by decide +kernel,by decide +kernel⟩
theorem zadd (F:Def K mg "blind" qnu ["many"]) (T:Txt K mg cs)
 (O_glass_of:Ok P w K mg base "glass_of" 4 ["bottom","rows"] (PSp K qgs))
 (O_check_stands:Ok P w K mg base "check_stands" 2 ["many"] (PSp K qbz))
 : Ok P w K mg base "blind" 5 ["many"] (PSp K quw):=by
  refine F.vok zaft (by rintro ds q ⟨_,h,_⟩;rw [h];rfl) fun f cdv A outer s H E hr ds q h=>?_
  obtain ⟨n,rfl,⟨n1,n2⟩,h⟩:=h
  refine ⟨_,(qg (qex (ql O_check_stands (hr.mono (by decide)) (qa (qc 0) qd)))
   (qh (qu (ql O_glass_of (hr.mono (by decide)) (qa qe (qa (qM (qJ (caps:=[]) (own:=["stand"]) (ix:=[]) rfl ⟨rfl,rfl,rfl,rfl,rfl,rfl⟩ (qR T.range_ (qc 0)) (fun _ _ _ _=>(qm (i:=0) (show List.Nodup (["stand"]:List Str) by decide))) (fun _ _ _ _=>(qgj (qa qe qd))))) qd)))))),?_⟩
  obtain ⟨hT,hg,hd,hl⟩:=qra n1 n2
  refine ⟨⟨by omega,by omega⟩,⟨by omega,by omega⟩,qz ((qce n).map qdn) (by simp [hl,qA]) (qk (by simp [hl];omega)) (fun e => ∃ s,e=[s]) ⟨_,rfl⟩ ?_ ?_⟩
  ·rintro i x ys e hx hys ⟨s,rfl⟩
   obtain ⟨hi,rfl⟩:=qbq hx
   have hi':i<n:=by omega
   refine ⟨szl,qo ?_ hys,_,rfl⟩
   unfold qce
   rw [List.getElem?_map,List.getElem?_replicate,if_pos hi'];rfl
  ·refine ⟨1,_,qce n,1,rfl,⟨RowsD.of (f :=.tuple) (fun _=>rfl) rfl,hT,by omega,by omega,by omega,by omega,by decide⟩,?_⟩
   rw [hg]
   show q (qC (1/1) (qaw (qce n) 1))
   rw [hd];exact h
def qbr (ds:List PyData) (q:PyData→Prop):Prop := ∃ b r R,ds=[qC b (r::R)]∧q (.int (r.length:Nat))
theorem zafu:FnScope ["glass"] ["glass"] (defScope qnd):=⟨rfl,rfl,rfl,by decide +kernel,rfl,by decide +kernel,by decide +kernel⟩
theorem zaeu (F:Def K mg "signs" qnd ["glass"]) (T:Txt K mg cs)
 : Ok P w K mg base "signs" 1 ["glass"] (PSp K qbr):=by
  refine F.vok zafu (by rintro ds q ⟨_,_,_,h,_⟩;rw [h];rfl) fun f cdv A outer s H E hr ds q h=>?_
  obtain ⟨b,r,R,rfl,h⟩:=h
  refine ⟨_,(qh (qu (qt qcd T.len_ L2.boot_len (qa (qv (qv (qc 0) qe) qe) qd)))),?_⟩
  refine ⟨_,rfl,_,qcy _ _,?_⟩
  have e:(r.map PyData.int).length=r.length:=by simp
  show q (.int ((r.map PyData.int).length:Nat))
  rw [e];exact h
def qai (a b:List Int):Int:=(List.zipWith (· * ·) a b).sum
def qx (D:List (List Int)) (k:Nat):List Int:=D.map fun r=>(r[k]?).getD 0
def qco (R D:List (List Int)) (n:Nat):List (List Int):=R.map fun r=>(List.range n).map fun k=>qai r (qx D k)
theorem qlb {α:Type} (f g:α→Int) : ∀ l:List α,(l.map fun k=>f k+g k).sum=(l.map f).sum+(l.map g).sum
 | []=>by simp
 | x::l=>by
  simp only [List.map_cons,List.sum_cons,qlb f g l];omega
theorem qcf {α:Type} (c:Int) (f:α→Int) : ∀ l:List α,(l.map fun k=>c*f k).sum=c*(l.map f).sum
 | []=>by simp
 | x::l=>by
  simp only [List.map_cons,List.sum_cons,qcf c f l,Int.mul_add]
theorem qiy {α:Type} : ∀ l:List α,(l.map fun _=>(0:Int)).sum=0
 | []=>rfl
 | x::l=>by simp only [List.map_cons,List.sum_cons,qiy l];rfl
theorem qqg : ∀ (r:List Int),(List.range r.length).map (fun k=>(r[k]?).getD 0)=r:=by
 intro r
 apply List.ext_getElem?
 intro i
 rw [List.getElem?_map]
 by_cases h:i<r.length
 ·rw [List.getElem?_range h,List.getElem?_eq_getElem h];simp [h]
 ·have h1:r.length≤i:=by omega
  rw [List.getElem?_eq_none (by simpa using h1),List.getElem?_eq_none h1];rfl
theorem qao (x:Int) (r d:List Int) (y:Int):qai (x::r) (y::d)=x*y+qai r d:=by simp [qai]
theorem qoj {c:Int}{n:Nat} : ∀ {r:List Int}{D:List (List Int)},D.length=r.length→(∀ d ∈ D,d.length=n∧d.sum=c)→((List.range n).map fun k=>qai r (qx D k)).sum=r.sum*c
 | [],[],_,_=>by
  simp only [List.sum_nil,Int.zero_mul]
  exact qiy _
 | x::r,d::D,hl,h=>by
  have e:((List.range n).map fun k=>qai (x::r) (qx (d::D) k))=(List.range n).map fun k=>x*((d[k]?).getD 0)+qai r (qx D k):=by
   refine List.map_congr_left fun k _=>?_
   exact qao x r (qx D k) _
  rw [e,qlb,qcf,qoj (by simpa using hl) fun d' hd'=>h d' (List.mem_cons_of_mem _ hd')]
  obtain ⟨h1,h2⟩:=h d (by simp)
  rw [← h1,qqg d,h2,List.sum_cons,Int.add_mul]
 | [],_::_,hl,_=>by simp at hl
 | _::_,[],hl,_=>by simp at hl
theorem zahe : ∀ {a b:List Int},(∀ x ∈ a,0≤x)→(∀ y ∈ b,0≤y)→0≤qai a b
 | [],_,_,_=>by simp [qai]
 | _::_,[],_,_=>by simp [qai]
 | x::a,y::b,h1,h2=>by
  rw [qao]
  have p:=Int.mul_nonneg (h1 x (by simp)) (h2 y (by simp))
  have q:=zahe (fun z hz=>h1 z (List.mem_cons_of_mem _ hz)) (fun z hz=>h2 z (List.mem_cons_of_mem _ hz))
  omega
theorem qez {D:List (List Int)}{k:Nat}{x:Int} (h:x ∈ qx D k):x=0 ∨ ∃ d ∈ D,x ∈ d:=by
 obtain ⟨d,hd,rfl⟩:=List.mem_map.mp h
 cases e:d[k]? with
 | none=>exact .inl (by simp)
 | some y=>exact .inr ⟨d,hd,by simpa using List.mem_of_getElem? e⟩
theorem Tab.prod {b c:Int}{R D:List (List Int)}{m n:Nat} (h:Tab b R m) (k:Tab c D n) (hl:D.length=m):Tab (b*c) (qco R D n) n where
 pos:=by have:=Int.mul_pos (show 0<b by have:=h.pos;omega) (show 0<c by have:=k.pos;omega);omega
 len:=fun r hr=>by
  obtain ⟨s,_,rfl⟩:=List.mem_map.mp hr
  simp
 nn:=fun r hr x hx=>by
  obtain ⟨s,hs,rfl⟩:=List.mem_map.mp hr
  obtain ⟨i,_,rfl⟩:=List.mem_map.mp hx
  refine zahe (h.nn s hs) fun y hy=>?_
  rcases qez hy with rfl|⟨d,hd,hy⟩
  ·exact Int.le_refl _
  ·exact k.nn d hd y hy
 sum:=fun r hr=>by
  obtain ⟨s,hs,rfl⟩:=List.mem_map.mp hr
  rw [qoj (by rw [hl,h.len s hs]) fun d hd=>⟨k.len d hd,k.sum d hd⟩,h.sum s hs]
theorem zadn (R D:List (List Int)) (n:Nat):(qco R D n).length=R.length:=by simp [qco]
theorem qsm {x b:Int}{m:Nat} (h0:0≤x) (h:x≤b) (hz:intBits b≤m):intBits x≤m:=intBits_le_of_natAbs (by omega) hz
theorem Tab.bits {b:Int}{R:List (List Int)}{n m:Nat}{r:List Int}{x:Int} (h:Tab b R n) (hz:intBits b≤m) (hr:r ∈ R) (hx:x ∈ r):intBits x≤m:=qsm (h.le hr hx).1 (h.le hr hx).2 hz
theorem zalf {a b:List Int}{i:Nat}{x y:Int} (h1:a[i]?=some x) (h2:b[i]?=some y):(List.zipWith (· * ·) a b)[i]?=some (x*y):=by
 rw [List.getElem?_zipWith,h1,h2]
theorem zaig {D:List (List Int)}{k i:Nat}{d:List Int}{x:Int} (h:D[i]?=some d) (hx:d[k]?=some x):(qx D k)[i]?=some x:=by
 unfold qx
 rw [List.getElem?_map,h]
 simp [hx]
theorem qki (D:List (List Int)) (k:Nat):(qx D k).length=D.length:=by simp [qx]
structure Gls (b:Int) (R:List (List Int)) (n:Nat):Prop where
 t:Tab b R n
 g:qH R=1
theorem Tab.gls {b:Int}{R:List (List Int)}{n:Nat} (h:Tab b R n) (hR:R≠[]):Gls (b/qH R) (qaw R (qH R)) n:=⟨h.low hR,zaed (h.gpos hR)⟩
def idR (m:Nat):List (List Int):=(List.range m).map fun j=>(List.range m).map fun k=>if k=j then 1 else 0
theorem qvv (k:Nat) : ∀ (r:List Int) (s:Nat),qai r ((List.range r.length).map fun j=>if k=j+s then (1:Int) else 0)=if k<s then 0 else (r[k-s]?).getD 0
 | [],s=>by simp [qai]
 | x::r,s=>by
  have e:(List.range (x::r).length).map (fun j=>if k=j+s then (1:Int) else 0)=(if k=s then (1:Int) else 0)::(List.range r.length).map fun j=>if k=j+(s+1) then (1:Int) else 0:=by
   rw [List.length_cons,List.range_succ_eq_map,List.map_cons,List.map_map]
   congr 1
   ·simp
   ·refine List.map_congr_left fun j _=>?_
    have:(k=j+1+s)=(k=j+(s+1)):=by rw [Nat.add_assoc,Nat.add_comm 1 s]
    simp only [Function.comp,Nat.succ_eq_add_one,this]
  rw [e,qao,qvv k r (s+1)]
  by_cases h1:k<s
  ·have n1 : ¬ k=s:=by omega
   have n2:k<s+1:=by omega
   simp [h1,n1,n2]
  ·by_cases h2:k=s
   ·subst h2;simp
   ·have n2 : ¬ k<s+1:=by omega
    rw [if_neg h2,if_neg n2,if_neg h1]
    have:k-s=(k-(s+1))+1:=by omega
    rw [this,List.getElem?_cons_succ];simp
theorem zanj {m k:Nat} (h:k<m):qx (idR m) k=(List.range m).map fun j=>if k=j then (1:Int) else 0:=by
 unfold qx idR
 rw [List.map_map]
 refine List.map_congr_left fun j _=>?_
 simp only [Function.comp]
 rw [List.getElem?_map,List.getElem?_range h];rfl
theorem qvb : ∀ (r:List Int),qai r (List.replicate r.length 1)=r.sum
 | []=>rfl
 | x::r=>by rw [List.length_cons,List.replicate_succ,qao,qvb r,List.sum_cons,Int.mul_one]
structure PassPre (b:Int) (R:List (List Int)) (m:Nat) (c:Int) (D:List (List Int)) (n:Nat):Prop where
 r:Tab b R m
 d:Tab c D n
 rn:R≠[]
 l:D.length=m
 m1:1≤m
 m2:m≤900
 rl:R.length≤900
 n2:n≤900
 zb:intBits b≤4000
 zc:intBits c≤4000
abbrev qzx (b:Int) (P:List (List Int)):PyData:=qC (b/qH P) (qaw P (qH P))
def qfc (ds:List PyData) (q:List PyData→Prop):Prop := ∃ (d:PyData) (R:List (List Int)) (k:Nat),ds=[d,.int k]∧(RowsD d R∧R.length≤900 ∧ ∀ r ∈ R,k<r.length)∧q ((qx R k).map .int)
theorem zaal:FnScope ["rows","place"] ["rows","place"] (defScope qje):=⟨rfl,rfl,rfl,by decide +kernel,rfl,by decide +kernel,by decide +kernel⟩
theorem zabr (F:Def K mg "column" qje ["rows","place"]) (T:Txt K mg cs)
 : Ok P w K mg base "column" 1 ["rows","place"] (FSp K qfc):=by
  refine F.vokF zaal (by rintro ds q ⟨_,_,_,h,_⟩;rw [h];rfl) fun f cdv A outer s H E hr ds q h=>?_
  obtain ⟨d,R,k,rfl,⟨hR,hl,hk⟩,h⟩:=h
  refine ⟨_,(qh (qkj (qJ (caps:=["place"]) (own:=["row"]) (ix:=[1]) rfl ⟨rfl,rfl,rfl,rfl,rfl,rfl⟩ (qO (qc 0)) (fun _ _ _ _=>(qm (i:=1) (show List.Nodup (["place","row"]:List Str) by decide))) (fun _ _ _ _=>(qv (qc 1) (qc 0)))))),?_⟩
  obtain ⟨l,e,_⟩:=id hR
  refine qQ e (qz ((qx R k).map .int) (by simp [qx,hR.len e]) (qk (by simp [qx];omega)) (fun e => ∃ s,e=[.val (.int k),s]) ⟨_,rfl⟩ ?_ ?_)
  ·rintro i x ys e' hx hys ⟨s,rfl⟩
   obtain ⟨r,hr,er⟩:=hR.get e hx
   have hk':=hk r (qbf hr)
   have hx:=List.getElem?_eq_getElem hk'
   refine qsl er (qgh (by rw [List.getElem?_map,hx];rfl)) ⟨qo ?_ hys,_,rfl⟩
   rw [List.getElem?_map,zaig hr hx];rfl
  ·exact ⟨_,rfl,h⟩
def qkn (ds:List PyData) (q:PyData→Prop):Prop := ∃ (d e:PyData) (a b:List Int),ds=[d,e]∧(qan d=some (a.map .int)∧qan e=some (b.map .int)∧a.length≤900∧(∀ x ∈ a,intBits x≤4000) ∧ ∀ y ∈ b,intBits y≤4000)∧q (.int (qai a b))
theorem zaax:FnScope ["one","other"] ["one","other"] (defScope qjh):=⟨rfl,rfl,rfl,by decide +kernel,rfl,by decide +kernel,by decide +kernel⟩
theorem zabq (F:Def K mg "paired" qjh ["one","other"]) (T:Txt K mg cs)
 : Ok P w K mg base "paired" 1 ["one","other"] (PSp K qkn):=by
  refine F.vok zaax (by rintro ds q ⟨_,_,_,_,h,_⟩;rw [h];rfl) fun f cdv A outer s H E hr ds q h=>?_
  obtain ⟨d,e,a,b,rfl,⟨h1,h2,hl,za,zb⟩,h⟩:=h
  refine ⟨_,(qh (qu (qt (qqa rfl) T.sum_ L2.boot_sum (qa (qM (qJ (caps:=[]) (own:=["number","beyond"]) (ix:=[]) rfl ⟨rfl,rfl,rfl,rfl,rfl,rfl⟩ (qnf T.zip_ (qc 0) (qc 1)) (fun _ _ _ _=>(qmf (n:=2) rfl (qbi (qm (i:=0) (show List.Nodup (["number","beyond"]:List Str) by decide)) (qbi (qm (i:=1) (show List.Nodup (["number","beyond"]:List Str) by decide)) qhp)))) (fun _ _ _ _=>(qw qY (qc 0) (qc 1))))) qd)))),?_⟩
  refine qQ h1 (qQ h2 (qz ((List.zipWith (· * ·) a b).map .int) (by simp [qek]) (qk (by simp;omega)) (fun e => ∃ s t,e=[s,t]) ⟨_,_,rfl⟩ ?_ ?_))
  ·rintro i x ys e' hx hys ⟨s,t,rfl⟩
   obtain ⟨x,y,h3,h4,rfl⟩:=qja hx
   obtain ⟨x,rfl,h5,hxm⟩:=qbu h3
   obtain ⟨y,rfl,h6,hym⟩:=qbu h4
   refine ⟨rfl,rfl,qdw (za x hxm) (zb y hym),qo ?_ hys,_,_,rfl⟩
   rw [List.getElem?_map,zalf h5 h6];rfl
  ·exact ⟨_,rfl,h⟩
def qhy (ds:List PyData) (q:List PyData→Prop):Prop := ∃ (d:PyData) (r:List Int) (c:Int) (D:List (List Int)) (n:Nat),ds=[d,qC c D]∧(qan d=some (r.map .int)∧D≠[]∧Tab c D n∧r.length≤900∧n≤900∧D.length≤900∧(∀ x ∈ r,intBits x≤4000)∧intBits c≤4000) ∧
 q (((List.range n).map fun k=>qai r (qx D k)).map .int)
theorem qpt:FnScope ["row","dulling"] ["row","dulling"] (defScope qds):=⟨rfl,rfl,rfl,by decide +kernel,rfl,by decide +kernel,by decide +kernel⟩
theorem qpo (F:Def K mg "passed_row" qds ["row","dulling"]) (T:Txt K mg cs)
 (O_signs:Ok P w K mg base "signs" 1 ["glass"] (PSp K qbr))
 (O_column:Ok P w K mg base "column" 1 ["rows","place"] (FSp K qfc))
 (O_paired:Ok P w K mg base "paired" 1 ["one","other"] (PSp K qkn))
 : Ok P w K mg base "passed_row" 2 ["row","dulling"] (FSp K qhy):=by
  refine F.vokF qpt (by rintro ds q ⟨_,_,_,_,_,h,_⟩;rw [h];rfl) fun f cdv A outer s H E hr ds q h=>?_
  obtain ⟨d,r,c,D,n,rfl,⟨hd,hD,hT,hr1,hn,hD1,zr,zc⟩,h⟩:=h
  refine ⟨_,(qh (qkj (qJ (caps:=["row","dulling"]) (own:=["sign"]) (ix:=[0,1]) rfl ⟨rfl,rfl,rfl,rfl,rfl,rfl⟩ (qR T.range_ (ql O_signs (hr.mono (by decide)) (qa (qc 1) qd))) (fun _ _ _ _=>(qm (i:=2) (show List.Nodup (["row","dulling","sign"]:List Str) by decide))) (fun _ _ _ _=>(ql O_paired (hr.mono (by decide)) (qa (qc 0) (qa (qM (qgm O_column (hr.mono (by decide)) (qa (qv (qc 1) qe) (qa (qc 2) qd)))) qd))))))),?_⟩
  obtain ⟨d0,D0,rfl⟩:=List.exists_cons_of_ne_nil hD
  have hn0:=hT.len d0 (by simp)
  refine ⟨c,d0,D0,rfl,⟨by omega,by omega⟩,?_⟩
  show _∧_
  refine qz (((List.range n).map fun k=>qai r (qx (d0::D0) k)).map .int) (by simp [qA,hn0]) (qk (by simp;omega)) (fun e => ∃ s,e=[.val d,.val (qC c (d0::D0)),s]) ⟨_,rfl⟩ ?_ ?_
  ·rintro i x ys e hx hys ⟨s,rfl⟩
   obtain ⟨hi,rfl⟩:=qbq hx
   rw [Int.zero_add]
   have hi':i<n:=by omega
   refine ⟨_,rfl,_,_,i,rfl,⟨qfb _,hD1,fun r' hr'=>by rw [hT.len r' hr'];exact hi'⟩,?_⟩
   refine ⟨_,_,r,_,rfl,⟨hd,rfl,hr1,zr,fun y hy=>?_⟩,qo ?_ hys,_,rfl⟩
   ·rcases qez hy with rfl|⟨d',hd',hy⟩
    ·decide
    ·exact hT.bits zc hd' hy
   ·rw [List.getElem?_map,List.getElem?_map,List.getElem?_range hi'];rfl
  ·exact ⟨_,rfl,h⟩
def qiv (ds:List PyData) (q:PyData→Prop):Prop := ∃ (b:Int) (R:List (List Int)) (m:Nat) (c:Int) (D:List (List Int)) (n:Nat),ds=[qC b R,qC c D]∧PassPre b R m c D n∧q (qzx (b*c) (qco R D n))
theorem qrm:FnScope ["table","dulling"] ["table","dulling"] (defScope qer):=⟨rfl,rfl,rfl,by decide +kernel,rfl,by decide +kernel,by decide +kernel⟩
theorem qrq (F:Def K mg "passed_on" qer ["table","dulling"]) (T:Txt K mg cs)
 (O_lowest_table:Ok P w K mg base "lowest_table" 3 ["bottom","rows"] (PSp K qT))
 (O_signs:Ok P w K mg base "signs" 1 ["glass"] (PSp K qbr))
 (O_passed_row:Ok P w K mg base "passed_row" 2 ["row","dulling"] (FSp K qhy))
 : Ok P w K mg base "passed_on" 4 ["table","dulling"] (PSp K qiv):=by
  refine F.vok qrm (by rintro ds q ⟨_,_,_,_,_,_,h,_⟩;rw [h];rfl) fun f cdv A outer s H E hr ds q h=>?_
  obtain ⟨b,R,m,c,D,n,rfl,hp,h⟩:=h
  refine ⟨_,(qg (qat (qaj (qzg hr.units) (ql O_signs (hr.mono (by decide)) (qa (qc 0) qd)) (qt qcd T.len_ L2.boot_len (qa (qv (qc 1) qe) qd))) qbh qE)
   (qh (qu (ql O_lowest_table (hr.mono (by decide)) (qa (qw qY (qv (qc 0) qe) (qv (qc 1) qe)) (qa (qM (qJ (caps:=["dulling"]) (own:=["row"]) (ix:=[1]) rfl ⟨rfl,rfl,rfl,rfl,rfl,rfl⟩ (qO (qv (qc 0) qe)) (fun _ _ _ _=>(qm (i:=1) (show List.Nodup (["dulling","row"]:List Str) by decide))) (fun _ _ _ _=>(qM (qgm O_passed_row (hr.mono (by decide)) (qa (qc 1) (qa (qc 0) qd))))))) qd)))))),?_⟩
  have hm:=hp.l
  have hm1:=hp.m1
  have hm2:=hp.m2
  have hrl:=hp.rl
  have hn2:=hp.n2
  have hD:D≠[]:=fun z=>by rw [z] at hm;simp at hm;omega
  obtain ⟨r0,R0,rfl⟩:=List.exists_cons_of_ne_nil hp.rn
  have hl0:=hp.r.len r0 (by simp)
  refine ⟨b,r0,R0,rfl,_,rfl,rfl,rfl,qpr (fun z=>?_) (fun _=>?_)⟩
  ·exfalso;apply z;simp [hl0,hm]
  refine ⟨_,rfl,_,rfl,qdw hp.zb hp.zc,_,rfl,?_⟩
  show _∧_
  refine qz (ds:=(r0::R0).map qdn) ((qco (r0::R0) D n).map qgq) (by simp [qco]) (qk (by simp [qco] at hrl ⊢;omega)) (fun e => ∃ s,e=[.val (qC c D),s]) ⟨_,rfl⟩ ?_ ?_
  ·rintro i x ys e hx hys ⟨s,rfl⟩
   rw [List.getElem?_map] at hx
   cases hr':(r0::R0)[i]? with
   | none=>rw [hr'] at hx;cases hx
   | some r =>
    rw [hr'] at hx
    cases hx
    have hrm:=qbf hr'
    refine ⟨_,r,c,D,n,rfl,⟨rfl,hD,hp.d,by rw [hp.r.len r hrm];exact hm2,hn2,by omega,fun x hx=>hp.r.bits hp.zb hrm hx,hp.zc⟩,qo ?_ hys,_,rfl⟩
    unfold qco
    rw [List.getElem?_map,List.getElem?_map,hr'];rfl
  ·refine ⟨b*c,_,qco (r0::R0) D n,n,rfl,⟨qeg _,hp.r.prod hp.d hm,by simp [qco],by rw [zadn];exact hrl,hn2,?_⟩,h⟩
   exact qi (intBits_mul_le hp.zb hp.zc) (by decide)
def qqf (ds:List PyData) (q:PyData→Prop):Prop := ∃ (b:Int) (R:List (List Int)) (m:Nat) (c:Int) (D:List (List Int)) (n:Nat),ds=[qC b R,qC c D]∧PassPre b R m c D n∧q (qzx (b*c) (qco R D n))
theorem zabg:FnScope ["glass","dulling"] ["glass","dulling"] (defScope qji):=⟨rfl,rfl,rfl,by decide +kernel,rfl,by decide +kernel,by decide +kernel⟩
theorem zabn (F:Def K mg "dulled" qji ["glass","dulling"]) (T:Txt K mg cs)
 (O_passed_on:Ok P w K mg base "passed_on" 4 ["table","dulling"] (PSp K qiv))
 : Ok P w K mg base "dulled" 5 ["glass","dulling"] (PSp K qqf):=by
  refine F.vok zabg (by rintro ds q ⟨_,_,_,_,_,_,h,_⟩;rw [h];rfl) fun f cdv A outer s H E hr ds q h=>?_
  obtain ⟨b,R,m,c,D,n,rfl,hp,h⟩:=h
  exact ⟨_,(qh (qu (ql O_passed_on (hr.mono (by decide)) (qa (qc 0) (qa (qc 1) qd))))),b,R,m,c,D,n,rfl,hp,h⟩
def qkx (ds:List PyData) (q:List PyData→Prop):Prop := ∃ (d:PyData) (r:List Int) (k:Int),ds=[d,.int k]∧(qan d=some (r.map .int)∧r.length≤900∧(∀ x ∈ r,intBits x≤4000)∧intBits k≤4000)∧q ((r.map fun x=>x*k).map .int)
theorem zaaq:FnScope ["row","factor"] ["row","factor"] (defScope qjn):=⟨rfl,rfl,rfl,by decide +kernel,rfl,by decide +kernel,by decide +kernel⟩
theorem zaae (F:Def K mg "scaled" qjn ["row","factor"]) (T:Txt K mg cs)
 : Ok P w K mg base "scaled" 1 ["row","factor"] (FSp K qkx):=by
  refine F.vokF zaaq (by rintro ds q ⟨_,_,_,h,_⟩;rw [h];rfl) fun f cdv A outer s H E hr ds q h=>?_
  obtain ⟨d,r,k,rfl,⟨hd,hl,zr,zk⟩,h⟩:=h
  refine ⟨_,(qh (qkj (qJ (caps:=["factor"]) (own:=["number"]) (ix:=[1]) rfl ⟨rfl,rfl,rfl,rfl,rfl,rfl⟩ (qO (qc 0)) (fun _ _ _ _=>(qm (i:=1) (show List.Nodup (["factor","number"]:List Str) by decide))) (fun _ _ _ _=>(qw qY (qc 1) (qc 0)))))),?_⟩
  refine qQ hd (qz ((r.map fun x=>x*k).map .int) (by simp) (qk (by simp;omega)) (fun e => ∃ s,e=[.val (.int k),s]) ⟨_,rfl⟩ ?_ ?_)
  ·rintro i x ys e' hx hys ⟨s,rfl⟩
   obtain ⟨x,rfl,hx,hxm⟩:=qbu hx
   refine ⟨qdw (zr x hxm) zk,qo ?_ hys,_,rfl⟩
   rw [List.getElem?_map,List.getElem?_map,hx];rfl
  ·exact ⟨_,rfl,h⟩
def sc (k:Int) (R:List (List Int)):List (List Int):=R.map fun r=>r.map fun n=>k*n
theorem zagu (k:Int) : ∀ (r d:List Int),qai (r.map fun n=>k*n) d=k*qai r d
 | [],d=>by simp [qai]
 | x::r,[]=>by simp [qai]
 | x::r,y::d=>by rw [List.map_cons,qao,qao,zagu k r d,Int.mul_add,Int.mul_assoc]
def qfr (r s:List Int):List Int:=r.flatMap fun x=>s.map fun y=>y*x
def qjz (R S:List (List Int)):List (List Int):=List.zipWith qfr R S
theorem quz : ∀ (r s:List Int),(qfr r s).sum=r.sum*s.sum
 | [],s=>by simp [qfr]
 | x::r,s=>by
  have e:qfr (x::r) s=(s.map fun y=>y*x)++qfr r s:=rfl
  have e2:(s.map fun y=>y*x)=s.map fun y=>x*y:=List.map_congr_left fun y _=>Int.mul_comm _ _
  rw [e,List.sum_append,quz r s,e2,qcf,List.sum_cons,Int.add_mul]
  simp
theorem qrx : ∀ (r s:List Int),(qfr r s).length=r.length*s.length
 | [],s=>by simp [qfr]
 | x::r,s=>by
  have e:qfr (x::r) s=(s.map fun y=>y*x)++qfr r s:=rfl
  rw [e,List.length_append,qrx r s,List.length_map,List.length_cons,Nat.succ_mul,Nat.add_comm]
theorem zaje {r s:List Int}{z:Int} (h:z ∈ qfr r s) : ∃ x ∈ r,∃ y ∈ s,z=y*x:=by
 obtain ⟨x,hx,h⟩:=List.mem_flatMap.mp h
 obtain ⟨y,hy,rfl⟩:=List.mem_map.mp h
 exact ⟨x,hx,y,hy,rfl⟩
theorem qsn {R S:List (List Int)}{t:List Int} (h:t ∈ qjz R S) : ∃ r ∈ R,∃ s ∈ S,t=qfr r s:=by
 unfold qjz at h
 obtain ⟨i,hi,rfl⟩:=List.getElem_of_mem h
 rw [List.length_zipWith] at hi
 refine ⟨R[i],List.getElem_mem _,S[i],List.getElem_mem _,?_⟩
 rw [List.getElem_zipWith]
theorem Tab.bes {b c:Int}{R S:List (List Int)}{m n:Nat} (h:Tab b R m) (k:Tab c S n):Tab (b*c) (qjz R S) (m*n) where
 pos:=by have:=Int.mul_pos (show 0<b by have:=h.pos;omega) (show 0<c by have:=k.pos;omega);omega
 len:=fun t ht=>by
  obtain ⟨r,hr,s,hs,rfl⟩:=qsn ht
  rw [qrx,h.len r hr,k.len s hs]
 nn:=fun t ht z hz=>by
  obtain ⟨r,hr,s,hs,rfl⟩:=qsn ht
  obtain ⟨x,hx,y,hy,rfl⟩:=zaje hz
  exact Int.mul_nonneg (k.nn s hs y hy) (h.nn r hr x hx)
 sum:=fun t ht=>by
  obtain ⟨r,hr,s,hs,rfl⟩:=qsn ht
  rw [quz,h.sum r hr,k.sum s hs]
theorem qsk {R S:List (List Int)} (h:R.length=S.length):(qjz R S).length=R.length:=by unfold qjz;rw [List.length_zipWith,h,Nat.min_self]
theorem qyx : ∀ {a b c d:List Int},a.length=c.length→qai (a++b) (c++d)=qai a c+qai b d
 | [],b,[],d,_=>by simp [qai]
 | x::a,b,y::c,d,h=>by
  rw [List.cons_append,List.cons_append,qao,qao,qyx (by simpa using h)];omega
 | [],_,_::_,_,h=>by simp at h
 | _::_,_,[],_,h=>by simp at h
theorem qym (z:Int) : ∀ (a:List Int),qai a (List.replicate a.length z)=a.sum*z
 | []=>by simp [qai]
 | x::a=>by rw [List.length_cons,List.replicate_succ,qao,qym z a,List.sum_cons,Int.add_mul]
theorem zaem {s:List Int} (u:Nat→Int) : ∀ (r:List Int) (o:Nat),qai (qfr r s) ((List.range r.length).flatMap fun i=>List.replicate s.length (u (i+o)))=qai r ((List.range r.length).map fun i=>u (i+o))*s.sum
 | [],o=>by simp [qfr,qai]
 | x::r,o=>by
  have e:qfr (x::r) s=(s.map fun y=>y*x)++qfr r s:=rfl
  have e2:(List.range (x::r).length).flatMap (fun i=>List.replicate s.length (u (i+o)))=List.replicate s.length (u o)++(List.range r.length).flatMap fun i=>List.replicate s.length (u (i+(o+1))):=by
   rw [List.length_cons,List.range_succ_eq_map,List.flatMap_cons,List.flatMap_map]
   simp only [Nat.zero_add,Nat.succ_eq_add_one,Nat.add_assoc,Nat.add_comm 1 o]
  have e3:(List.range (x::r).length).map (fun i=>u (i+o))=u o::(List.range r.length).map fun i=>u (i+(o+1)):=by
   rw [List.length_cons,List.range_succ_eq_map,List.map_cons,List.map_map]
   simp only [Nat.zero_add,Function.comp_def,Nat.succ_eq_add_one,Nat.add_assoc,Nat.add_comm 1 o]
  have e4:qai (s.map fun y=>y*x) (List.replicate s.length (u o))=x*u o*s.sum:=by
   have:=qym (u o) (s.map fun y=>y*x)
   rw [List.length_map] at this
   rw [this]
   have e5:(s.map fun y=>y*x).sum=x*s.sum:=by
    have:(s.map fun y=>y*x)=s.map fun y=>x*y:=List.map_congr_left fun y _=>Int.mul_comm _ _
    rw [this,qcf];simp
   rw [e5,Int.mul_assoc,Int.mul_comm s.sum,← Int.mul_assoc]
  rw [e,e2,e3,qyx (by simp),e4,zaem u r (o+1),qao,Int.add_mul]
theorem zads {α:Type}{n:Nat} (f:Nat→List α) (hf : ∀ i,(f i).length=n) : ∀ (l:List Nat),(l.flatMap f).length=l.length*n
 | []=>by simp
 | x::l=>by rw [List.flatMap_cons,List.length_append,hf,zads f hf l,List.length_cons,Nat.succ_mul,Nat.add_comm]
structure BesPre (b:Int) (R:List (List Int)) (m:Nat) (c:Int) (S:List (List Int)) (n:Nat):Prop where
 r:Tab b R m
 s:Tab c S n
 l:R.length=S.length
 r1:1≤R.length
 r2:R.length≤900
 n1:n≤900
 m1:m≤900
 mn:m*n≤12
 zb:intBits b≤4000
 zc:intBits c≤4000
theorem zadf (r s:List Int) (x:Int):qfr (r++[x]) s=qfr r s++s.map fun y=>y*x:=by
 unfold qfr
 rw [List.flatMap_append];simp
def qit (ds:List PyData) (q:List PyData→Prop):Prop := ∃ (d e:PyData) (r s:List Int),ds=[d,e]∧(qan d=some (r.map .int)∧qan e=some (s.map .int)∧s.length≤900∧r.length*s.length≤900∧(∀ x ∈ r,intBits x≤4000) ∧ ∀ y ∈ s,intBits y≤4000)∧q ((qfr r s).map .int)
theorem qfl:FnScope ["row","beyond","both","number"] ["row","beyond"] (defScope qeq):=⟨rfl,rfl,rfl,by decide +kernel,rfl,by decide +kernel,by decide +kernel⟩
theorem qrp (F:Def K mg "both_seen" qeq ["row","beyond"]) (T:Txt K mg cs)
 (O_scaled:Ok P w K mg base "scaled" 1 ["row","factor"] (FSp K qkx))
 : Ok P w K mg base "both_seen" 2 ["row","beyond"] (FSp K qit):=by
  refine F.vokF qfl (by rintro ds q ⟨_,_,_,_,h,_⟩;rw [h];rfl) fun f cdv A outer s H E hr ds q h=>?_
  obtain ⟨d,e,r,s,rfl,⟨hd,he,hs,hl,zr,zs⟩,h⟩:=h
  refine ⟨_,(qg (qgi (i:=2) qfl.nd (qee qd))
   (qg (qet rfl (qO (qc 0)) (qm (i:=3) qfl.nd) (qh (zacf 2 (qgm O_scaled (hr.mono (by decide)) (qa (qc 1) (qa (qc 3) qd))))))
   (qh (qyj 2)))),?_⟩
  refine ⟨szl,qQ hd ⟨fun i e' => ∃ t l,e'=[.val d,.val e,.own l,t]∧l=(qfr (r.take i) s).map .int,⟨_,_,rfl,rfl⟩,?_,?_⟩⟩
  ·rintro i x e' hx ⟨t,l,rfl,rfl⟩
   obtain ⟨x,rfl,hx,hxm⟩:=qbu hx
   refine ⟨rfl,_,s,x,rfl,⟨he,hs,zs,zr x hxm⟩,rfl,?_,_,_,rfl,?_⟩
   ·show (List.map PyData.int _).length+(List.map PyData.int _).length≤_
    have hi:i<r.length:=(List.getElem?_eq_some_iff.mp hx).1
    have h3:(i+1)*s.length≤r.length*s.length:=Nat.mul_le_mul_right _ hi
    rw [List.length_map,List.length_map,qrx,List.length_map,List.length_take,Nat.min_eq_left (by omega)]
    rw [Nat.succ_mul] at h3
    exact qjk (by omega)
   ·rw [qkv hx,zadf,List.map_append]
    rfl
  ·rintro e' ⟨t,l,rfl,rfl⟩
   rw [List.length_map,List.take_length]
   exact ⟨_,rfl,h⟩
def qkp (ds:List PyData) (q:PyData→Prop):Prop := ∃ b R,ds=[qC b R]∧q (.int (R.length:Nat))
theorem zaab:FnScope ["glass"] ["glass"] (defScope qjd):=⟨rfl,rfl,rfl,by decide +kernel,rfl,by decide +kernel,by decide +kernel⟩
theorem zaay (F:Def K mg "stands" qjd ["glass"]) (T:Txt K mg cs)
 : Ok P w K mg base "stands" 1 ["glass"] (PSp K qkp):=by
  refine F.vok zaab (by rintro ds q ⟨_,_,h,_⟩;rw [h];rfl) fun f cdv A outer s H E hr ds q h=>?_
  obtain ⟨b,R,rfl,h⟩:=h
  refine ⟨_,(qh (qu (qt qcd T.len_ L2.boot_len (qa (qv (qc 0) qe) qd)))),?_⟩
  refine ⟨_,rfl,?_⟩
  have e:(R.map qdn).length=R.length:=by simp
  show q (.int ((R.map qdn).length:Nat))
  rw [e];exact h
def qaz (ds:List PyData) (q:PyData→Prop):Prop := ∃ b R c S,ds=[qC b R,qC c S]∧R.length=S.length∧q .none
theorem qgd:FnScope ["one","other"] ["one","other"] (defScope qac):=⟨rfl,rfl,rfl,by decide +kernel,rfl,by decide +kernel,by decide +kernel⟩
theorem qgc (F:Def K mg "check_alike_stands" qac ["one","other"]) (T:Txt K mg cs)
 (O_stands:Ok P w K mg base "stands" 1 ["glass"] (PSp K qkp))
 : Ok P w K mg base "check_alike_stands" 2 ["one","other"] (PSp K qaz):=by
  refine F.vok qgd (by rintro ds q ⟨_,_,_,_,h,_⟩;rw [h];rfl) fun f cdv A outer s H E hr ds q h=>?_
  obtain ⟨b,R,c,S,rfl,hl,h⟩:=h
  refine ⟨_,(qh (qat (qaj (qzg hr.units) (ql O_stands (hr.mono (by decide)) (qa (qc 0) qd)) (ql O_stands (hr.mono (by decide)) (qa (qc 1) qd))) qbh qE)),?_⟩
  refine ⟨b,R,rfl,c,S,rfl,rfl,rfl,qpr (fun z=>?_) (fun _=>h)⟩
  exfalso;apply z;rw [hl]
def qay (ds:List PyData) (q:PyData→Prop):Prop := ∃ k:Int,ds=[.int k]∧k≤12∧q .none
theorem qge:FnScope ["many"] ["many"] (defScope qad):=⟨rfl,rfl,rfl,by decide +kernel,rfl,by decide +kernel,by decide +kernel⟩
theorem qgf (F:Def K mg "check_not_too_many" qad ["many"]) (T:Txt K mg cs)
 : Ok P w K mg base "check_not_too_many" 1 ["many"] (PSp K qay):=by
  refine F.vok qge (by rintro ds q ⟨_,h,_⟩;rw [h];rfl) fun f cdv A outer s H E hr ds q h=>?_
  obtain ⟨k,rfl,hk,h⟩:=h
  refine ⟨_,(qh (qat (qaj o_gt (qc 0) (qfi T.MOST_SIGNS_)) qbh qE)),?_⟩
  exact qgx (fun z=>by omega) (fun _=>h)
theorem qdo {R:List (List Int)}{i:Nat}{x:PyData}{f:List Int→PyData} (h:(R.map f)[i]?=some x) : ∃ r,R[i]?=some r∧x=f r:=by
 rw [List.getElem?_map] at h
 cases hr:R[i]? with
 | none=>rw [hr] at h;cases h
 | some r=>rw [hr] at h;exact ⟨r,rfl,(Option.some.inj h).symm⟩
theorem quv {α β γ:Type}{g:α→β→γ}{a:List α}{b:List β}{i:Nat}{x:α}{y:β} (h1:a[i]?=some x) (h2:b[i]?=some y):(List.zipWith g a b)[i]?=some (g x y):=by
 rw [List.getElem?_zipWith,h1,h2]
def qqv (ds:List PyData) (q:PyData→Prop):Prop := ∃ (b:Int) (R:List (List Int)) (m:Nat) (c:Int) (S:List (List Int)) (n:Nat),ds=[qC b R,qC c S]∧BesPre b R m c S n∧q (qzx (b*c) (qjz R S))
theorem qqe:FnScope ["one","other","rows"] ["one","other"] (defScope qjm):=⟨rfl,rfl,rfl,by decide +kernel,rfl,by decide +kernel,by decide +kernel⟩
theorem zaac (F:Def K mg "beside" qjm ["one","other"]) (T:Txt K mg cs)
 (O_lowest_table:Ok P w K mg base "lowest_table" 3 ["bottom","rows"] (PSp K qT))
 (O_signs:Ok P w K mg base "signs" 1 ["glass"] (PSp K qbr))
 (O_both_seen:Ok P w K mg base "both_seen" 2 ["row","beyond"] (FSp K qit))
 (O_check_alike_stands:Ok P w K mg base "check_alike_stands" 2 ["one","other"] (PSp K qaz))
 (O_check_not_too_many:Ok P w K mg base "check_not_too_many" 1 ["many"] (PSp K qay))
 : Ok P w K mg base "beside" 4 ["one","other"] (PSp K qqv):=by
  refine F.vok qqe (by rintro ds q ⟨_,_,_,_,_,_,h,_⟩;rw [h];rfl) fun f cdv A outer s H E hr ds q h=>?_
  obtain ⟨b,R,m,c,S,n,rfl,hp,h⟩:=h
  refine ⟨_,(qg (qex (ql O_check_alike_stands (hr.mono (by decide)) (qa (qc 0) (qa (qc 1) qd))))
   (qg (qex (ql O_check_not_too_many (hr.mono (by decide)) (qa (qw qY (ql O_signs (hr.mono (by decide)) (qa (qc 0) qd)) (ql O_signs (hr.mono (by decide)) (qa (qc 1) qd))) qd)))
   (qg (qnc (caps:=[]) (own:=["row","beyond"]) (ix:=[]) (i:=2) qqe.nd rfl ⟨rfl,rfl,rfl,rfl,rfl,rfl⟩ (qnf T.zip_ (qv (qc 0) qe) (qv (qc 1) qe)) (fun _ _ _ _=>(qmf (n:=2) rfl (qbi (qm (i:=0) (show List.Nodup (["row","beyond"]:List Str) by decide)) (qbi (qm (i:=1) (show List.Nodup (["row","beyond"]:List Str) by decide)) qhp)))) (fun _ _ _ _=>(qM (qgm O_both_seen (hr.mono (by decide)) (qa (qc 0) (qa (qc 1) qd))))))
   (qh (qu (ql O_lowest_table (hr.mono (by decide)) (qa (qw qY (qv (qc 0) qe) (qv (qc 1) qe)) (qa (qc 2) qd)))))))),?_⟩
  have hl:=hp.l
  have r1:=hp.r1
  have r2:=hp.r2
  have hmn:=hp.mn
  obtain ⟨r0,R0,eR⟩:=List.exists_cons_of_ne_nil (show R≠[] from fun z=>by rw [z] at r1;simp at r1)
  obtain ⟨s0,S0,eS⟩:=List.exists_cons_of_ne_nil (show S≠[] from fun z=>by rw [z] at hl;rw [hl] at r1;simp at r1)
  have l1:r0.length=m:=hp.r.len r0 (by rw [eR];simp)
  have l2:s0.length=n:=hp.s.len s0 (by rw [eS];simp)
  refine ⟨b,R,c,S,rfl,hl,b,r0,R0,by rw [eR],c,s0,S0,by rw [eS],?_⟩
  have hmn':((r0.length:Nat):Int)*((s0.length:Nat):Int)≤12:=by
   rw [l1,l2,← Int.natCast_mul];omega
  have small:intBits ((r0.length:Nat):Int)≤64:=qV (by omega) (by
   have:=hp.n1
   have:m≤900:=hp.m1
   omega)
  refine ⟨IntMulOk.of_left small,_,rfl,hmn',_,rfl,_,rfl,?_⟩
  show _∧_
  refine qz ((qjz R S).map qgq) (by simp [qek,qjz]) (qk (by rw [List.length_map,qsk hl];omega)) (fun e => ∃ s t,e=[s,t]) ⟨_,_,rfl⟩ ?_ ?_
  ·rintro i x ys e hx hys ⟨s,t,rfl⟩
   obtain ⟨x,y,h3,h4,rfl⟩:=qja hx
   obtain ⟨r,h5,rfl⟩:=qdo h3
   obtain ⟨s',h6,rfl⟩:=qdo h4
   have m5:=qbf h5
   have m6:=qbf h6
   have k5:=hp.r.len r m5
   have k6:=hp.s.len s' m6
   have kn:=hp.n1
   refine ⟨rfl,rfl,_,_,r,s',rfl,⟨rfl,rfl,by omega,by rw [k5,k6];omega,fun x hx=>hp.r.bits hp.zb m5 hx,fun x hx=>hp.s.bits hp.zc m6 hx⟩,qo ?_ hys,_,_,rfl⟩
   unfold qjz
   rw [List.getElem?_map,quv h5 h6];rfl
  ·refine ⟨_,rfl,_,rfl,qdw hp.zb hp.zc,_,_,_,m*n,rfl,⟨qeg _,hp.r.bes hp.s,?_,by rw [qsk hl];omega,by omega,qi (intBits_mul_le hp.zb hp.zc) (by decide)⟩,h⟩
   intro z
   have:=congrArg List.length z
   rw [qsk hl,List.length_nil] at this
   omega
def dSh (p q:Int):PyData :=.tuple [.int p,.int q]
def qlh (ds:List PyData) (k:PyData→Prop):Prop := ∃ p q,ds=[dSh p q]∧Shr p q∧k (.bool true)
theorem qtm:FnScope ["thing"] ["thing"] (defScope qft):=⟨rfl,rfl,rfl,by decide +kernel,rfl,by decide +kernel,by decide +kernel⟩
theorem qto (F:Def K mg "is_share" qft ["thing"]) (T:Txt K mg cs)
 (O_is_whole:Ok P w K mg base "is_whole" 1 ["thing"] (PSp K qag))
 (O_divisor:Ok P w K mg base "divisor" 1 ["one","other"] (PSp K qdg))
 : Ok P w K mg base "is_share" 2 ["thing"] (PSp K qlh):=by
  refine F.vok qtm (by rintro ds q ⟨_,_,h,_⟩;rw [h];rfl) fun f cdv A outer s H E hr ds k h=>?_
  obtain ⟨p,q,rfl,hp,h⟩:=h
  refine ⟨_,(qg (qat (VW.pt (qgo (qba (qar (qtb T.isinstance_ T.tuple_ L2.boot_tuple (qc 0)))) (qff (qaj (qzg hr.units) (qt qcd T.len_ L2.boot_len (qa (qc 0) qd)) qe)))) (qh (qu qin)) qE)
   (qg (qat (VW.pt (qgo (qba (qar (ql O_is_whole (hr.mono (by decide)) (qa (qv (qc 0) qe) qd)))) (qff (qba (qar (ql O_is_whole (hr.mono (by decide)) (qa (qv (qc 0) qe) qd))))))) (qh (qu qin)) qE)
   (qh (qu (qmh (qml o_ge (qv (qc 0) qe) qe) (qmk (qml (qwl hr.units) (ql O_divisor (hr.mono (by decide)) (qa (qv (qc 0) qe) (qa (qv (qc 0) qe) qd))) qe))))))),?_⟩
  have hq:=hp.pos
  refine ⟨rfl,rfl,_,rfl,_,rfl,_,rfl,?_⟩
  refine qgx (fun _=>⟨_,rfl,_,rfl,rfl,rfl,?_⟩) (fun z=>(z hq).elim)
  rw [hp.gcd]
  exact h
def qns (ds:List PyData) (k:PyData→Prop):Prop := ∃ p q,ds=[dSh p q]∧Shr p q∧k (.bool (decide (0≤p∧p≤q)))
theorem qwe:FnScope ["thing"] ["thing"] (defScope qhe):=⟨rfl,rfl,rfl,by decide +kernel,rfl,by decide +kernel,by decide +kernel⟩
theorem qwx (F:Def K mg "is_part" qhe ["thing"]) (T:Txt K mg cs)
 (O_is_share:Ok P w K mg base "is_share" 2 ["thing"] (PSp K qlh))
 : Ok P w K mg base "is_part" 3 ["thing"] (PSp K qns):=by
  refine F.vok qwe (by rintro ds q ⟨_,_,h,_⟩;rw [h];rfl) fun f cdv A outer s H E hr ds k h=>?_
  obtain ⟨p,q,rfl,hp,h⟩:=h
  refine ⟨_,(qh (qu (qmh (ql O_is_share (hr.mono (by decide)) (qa (qc 0) qd)) (qmk (qup qvs qvs qe (qv (qc 0) qe) (qv (qc 0) qe)))))),?_⟩
  refine ⟨p,q,rfl,hp,_,rfl,qgx (fun a=>⟨_,rfl,?_⟩) (fun a=>?_)⟩
  ·have e:decide (0≤p∧p≤q)=decide (p≤q):=by simp [a]
   rw [e] at h;exact h
  ·have e:decide (0≤p∧p≤q)=false:=decide_eq_false fun z=>a z.1
   rw [e] at h;exact h
def qhb (w v:Int) (R S:List (List Int)):List (List Int):=List.zipWith (fun r s=>(r.map fun x=>x*w)++s.map fun y=>y*v) R S
theorem qna {w v:Int}{R S:List (List Int)} (h:R.length=S.length):(qhb w v R S).length=R.length:=by unfold qhb;rw [List.length_zipWith,h,Nat.min_self]
theorem qnz {w v:Int} : ∀ {R S:List (List Int)}{t:List Int},t ∈ qhb w v R S → ∃ r ∈ R,∃ s ∈ S,t=(r.map fun x=>x*w)++s.map fun y=>y*v
 | r::R,s::S,t,h=>by
  have h':t ∈ ((r.map fun x=>x*w)++s.map fun y=>y*v)::qhb w v R S:=h
  rcases List.mem_cons.mp h' with rfl|h'
  ·exact ⟨r,by simp,s,by simp,rfl⟩
  ·obtain ⟨r',hr,s',hs,e⟩:=qnz h'
   exact ⟨r',List.mem_cons_of_mem _ hr,s',List.mem_cons_of_mem _ hs,e⟩
theorem qos (k:Int) : ∀ (r:List Int),(r.map fun x=>x*k).sum=r.sum*k
 | []=>by simp
 | x::r=>by rw [List.map_cons,List.sum_cons,List.sum_cons,qos k r,Int.add_mul]
theorem Tab.mix {b c w v d:Int}{R S:List (List Int)}{m n:Nat} (h:Tab b R m) (k:Tab c S n) (hw:0≤w) (hv:0≤v) (hd:b*w+c*v=d) (h1:1≤d):Tab d (qhb w v R S) (m+n) where
 pos:=h1
 len:=fun t ht=>by
  obtain ⟨r,hr,s,hs,rfl⟩:=qnz ht
  rw [List.length_append,List.length_map,List.length_map,h.len r hr,k.len s hs]
 nn:=fun t ht z hz=>by
  obtain ⟨r,hr,s,hs,rfl⟩:=qnz ht
  rcases List.mem_append.mp hz with hz|hz
  ·obtain ⟨x,hx,rfl⟩:=List.mem_map.mp hz
   exact Int.mul_nonneg (h.nn r hr x hx) hw
  ·obtain ⟨x,hx,rfl⟩:=List.mem_map.mp hz
   exact Int.mul_nonneg (k.nn s hs x hx) hv
 sum:=fun t ht=>by
  obtain ⟨r,hr,s,hs,rfl⟩:=qnz ht
  rw [List.sum_append,qos,qos,h.sum r hr,k.sum s hs,hd]
theorem zajq {p q b c:Int}:b*(p*c)+c*((q-p)*b)=q*b*c:=by grind
structure MixPre (p q b:Int) (R:List (List Int)) (m:Nat) (c:Int) (S:List (List Int)) (n:Nat):Prop where
 s:Shr p q
 p0:0≤p
 pq:p≤q
 r:Tab b R m
 t:Tab c S n
 l:R.length=S.length
 r1:1≤R.length
 r2:R.length≤900
 mn:m+n≤12
 zq:intBits q≤1000
 zb:intBits b≤1000
 zc:intBits c≤1000
theorem MixPre.tab {p q b c:Int}{R S:List (List Int)}{m n:Nat} (h:MixPre p q b R m c S n):Tab (q*b*c) (qhb (p*c) ((q-p)*b) R S) (m+n):=by
 have hb:=h.r.pos
 have hc:=h.t.pos
 have hq:=h.s.pos
 have h1:0<q*b*c:=Int.mul_pos (Int.mul_pos (by omega) (by omega)) (by omega)
 exact h.r.mix h.t (Int.mul_nonneg h.p0 (by omega)) (Int.mul_nonneg (by have:=h.pq;omega) (by omega)) zajq (by omega)
def quk (ds:List PyData) (k:PyData→Prop):Prop := ∃ (p q b:Int) (R:List (List Int)) (m:Nat) (c:Int) (S:List (List Int)) (n:Nat),ds=[dSh p q,qC b R,qC c S]∧MixPre p q b R m c S n∧k (qzx (q*b*c) (qhb (p*c) ((q-p)*b) R S))
theorem qjl:FnScope ["part","one","other","weight","rest","rows"] ["part","one","other"] (defScope qnj):=⟨rfl,rfl,rfl,by decide +kernel,rfl,by decide +kernel,by decide +kernel⟩
theorem zaer (F:Def K mg "mixed" qnj ["part","one","other"]) (T:Txt K mg cs)
 (O_lowest_table:Ok P w K mg base "lowest_table" 3 ["bottom","rows"] (PSp K qT))
 (O_signs:Ok P w K mg base "signs" 1 ["glass"] (PSp K qbr))
 (O_scaled:Ok P w K mg base "scaled" 1 ["row","factor"] (FSp K qkx))
 (O_check_alike_stands:Ok P w K mg base "check_alike_stands" 2 ["one","other"] (PSp K qaz))
 (O_check_not_too_many:Ok P w K mg base "check_not_too_many" 1 ["many"] (PSp K qay))
 (O_is_part:Ok P w K mg base "is_part" 3 ["thing"] (PSp K qns))
 : Ok P w K mg base "mixed" 4 ["part","one","other"] (PSp K quk):=by
  refine F.vok qjl (by rintro ds q ⟨_,_,_,_,_,_,_,_,h,_⟩;rw [h];rfl) fun f cdv A outer s H E hr ds k h=>?_
  obtain ⟨p,q,b,R,m,c,S,n,rfl,hp,h⟩:=h
  refine ⟨_,(qg (qat (qba (qar (ql O_is_part (hr.mono (by decide)) (qa (qc 0) qd)))) qbh qE)
   (qg (qex (ql O_check_alike_stands (hr.mono (by decide)) (qa (qc 1) (qa (qc 2) qd))))
   (qg (qex (ql O_check_not_too_many (hr.mono (by decide)) (qa (qw qcz (ql O_signs (hr.mono (by decide)) (qa (qc 1) qd)) (ql O_signs (hr.mono (by decide)) (qa (qc 2) qd))) qd)))
   (qg (qy (i:=3) qjl.nd (qw qY (qv (qc 0) qe) (qv (qc 2) qe)))
   (qg (qy (i:=4) qjl.nd (qw qY (qw qjf (qv (qc 0) qe) (qv (qc 0) qe)) (qv (qc 1) qe)))
   (qg (qnc (caps:=["weight","rest"]) (own:=["row","beyond"]) (ix:=[3,4]) (i:=5) qjl.nd rfl ⟨rfl,rfl,rfl,rfl,rfl,rfl⟩ (qnf T.zip_ (qv (qc 1) qe) (qv (qc 2) qe)) (fun _ _ _ _=>(qmf (n:=2) rfl (qbi (qm (i:=2) (show List.Nodup (["weight","rest","row","beyond"]:List Str) by decide)) (qbi (qm (i:=3) (show List.Nodup (["weight","rest","row","beyond"]:List Str) by decide)) qhp)))) (fun _ _ _ _=>(qM (qxo (qM (qgm O_scaled (hr.mono (by decide)) (qa (qc 2) (qa (qc 0) qd)))) (qM (qgm O_scaled (hr.mono (by decide)) (qa (qc 3) (qa (qc 1) qd))))))))
   (qh (qu (ql O_lowest_table (hr.mono (by decide)) (qa (qw qY (qw qY (qv (qc 0) qe) (qv (qc 1) qe)) (qv (qc 2) qe)) (qa (qc 5) qd))))))))))),?_⟩
  have hl:=hp.l
  have r1:=hp.r1
  have r2:=hp.r2
  have hmn:=hp.mn
  have hb:=hp.r.pos
  have hc:=hp.t.pos
  have hq:=hp.s.pos
  have p0:=hp.p0
  have pq:=hp.pq
  obtain ⟨r0,R0,eR⟩:=List.exists_cons_of_ne_nil (show R≠[] from fun z=>by rw [z] at r1;simp at r1)
  obtain ⟨s0,S0,eS⟩:=List.exists_cons_of_ne_nil (show S≠[] from fun z=>by rw [z] at hl;rw [hl] at r1;simp at r1)
  have l1:r0.length=m:=hp.r.len r0 (by rw [eR];simp)
  have l2:s0.length=n:=hp.t.len s0 (by rw [eS];simp)
  have zp:intBits p≤1000:=qsm p0 pq hp.zq
  have zr:intBits (q-p)≤1000:=qsm (by omega) (by omega) hp.zq
  have zw:intBits (p*c)≤2000:=intBits_mul_le zp hp.zc
  have zv:intBits ((q-p)*b)≤2000:=intBits_mul_le zr hp.zb
  have zqb:intBits (q*b)≤2000:=intBits_mul_le hp.zq hp.zb
  refine ⟨p,q,rfl,hp.s,iteN (decide_eq_true ⟨p0,pq⟩) ?_⟩
  refine ⟨b,R,c,S,rfl,hl,b,r0,R0,by rw [eR],c,s0,S0,by rw [eS],_,rfl,by omega,?_⟩
  refine ⟨_,rfl,_,rfl,qdw (qi zp (by decide)) (qi hp.zc (by decide)),_,rfl,_,rfl,_,rfl,qdw (qi zr (by decide)) (qi hp.zb (by decide)),_,rfl,_,rfl,?_⟩
  show _∧_
  refine qz ((qhb (p*c) ((q-p)*b) R S).map qgq) (by simp [qek,qhb]) (qk (by rw [List.length_map,qna hl];omega)) (fun e => ∃ s t,e=[.val (.int (p*c)),.val (.int ((q-p)*b)),s,t]) ⟨_,_,rfl⟩ ?_ ?_
  ·rintro i x ys e hx hys ⟨s,t,rfl⟩
   obtain ⟨x,y,h3,h4,rfl⟩:=qja hx
   obtain ⟨r,h5,rfl⟩:=qdo h3
   obtain ⟨s',h6,rfl⟩:=qdo h4
   have m5:=qbf h5
   have m6:=qbf h6
   have k5:=hp.r.len r m5
   have k6:=hp.t.len s' m6
   refine ⟨rfl,rfl,_,r,_,rfl,⟨rfl,by omega,fun x hx=>qi (hp.r.bits hp.zb m5 hx) (by decide),qi zw (by decide)⟩,_,s',_,rfl,⟨rfl,by omega,fun x hx=>qi (hp.t.bits hp.zc m6 hx) (by decide),qi zv (by decide)⟩,?_,qo ?_ hys,_,_,rfl⟩
   ·simp only [List.length_map];exact qjk (by omega)
   ·unfold qhb
    rw [List.getElem?_map,quv h5 h6]
    simp only [Option.map_some,qgq,List.map_append]
  ·refine ⟨_,rfl,_,rfl,qdw (qi hp.zq (by decide)) (qi hp.zb (by decide)),_,rfl,qdw (qi zqb (by decide)) (qi hp.zc (by decide)),_,_,_,m+n,rfl,⟨qeg _,hp.tab,?_,by rw [qna hl];omega,by omega,qi (intBits_mul_le zqb hp.zc) (by decide)⟩,h⟩
   intro z
   have:=congrArg List.length z
   rw [qna hl,List.length_nil] at this
   omega
def qbg (r:List Int) (i j:Nat):List Int:=(r.eraseIdx j).set i ((r[i]?).getD 0+(r[j]?).getD 0)
def qeo (R:List (List Int)) (i j:Nat):List (List Int):=R.map fun r=>qbg r i j
theorem zaga {r:List Int}{i j:Nat} (h:j<r.length):(qbg r i j).length=r.length-1:=by
 unfold qbg
 rw [List.length_set,List.length_eraseIdx,if_pos h]
theorem qqj : ∀ {r:List Int}{j:Nat},j<r.length→(r.eraseIdx j).sum=r.sum-(r[j]?).getD 0
 | x::r,0,h=>by simp;omega
 | x::r,j+1,h=>by
  have h':j<r.length:=by simpa using h
  rw [List.eraseIdx_cons_succ,List.sum_cons,List.sum_cons,qqj h',List.getElem?_cons_succ];omega
theorem qza : ∀ {r:List Int}{i:Nat}{y:Int},i<r.length→(r.set i y).sum=r.sum-(r[i]?).getD 0+y
 | x::r,0,y,h=>by simp;omega
 | x::r,i+1,y,h=>by
  have h':i<r.length:=by simpa using h
  rw [List.set_cons_succ,List.sum_cons,List.sum_cons,qza h',List.getElem?_cons_succ];omega
theorem zaec {r:List Int}{i j:Nat} (h1:i<j) (h:j<r.length):(qbg r i j).sum=r.sum:=by
 unfold qbg
 have hl:(r.eraseIdx j).length=r.length-1:=by rw [List.length_eraseIdx,if_pos h]
 rw [qza (by omega),qqj h]
 have:(r.eraseIdx j)[i]?=r[i]?:=List.getElem?_eraseIdx_of_lt h1
 rw [this];omega
theorem zaen {r:List Int}{i j:Nat}{x:Int} (hi:i<r.length) (hj:j<r.length) (h:x ∈ qbg r i j):x ∈ r∨(∃ y ∈ r,∃ z ∈ r,x=y+z):=by
 unfold qbg at h
 rcases List.mem_or_eq_of_mem_set h with h|rfl
 ·exact .inl (List.mem_of_mem_eraseIdx h)
 ·refine .inr ⟨_,?_,_,?_,rfl⟩
  ·rw [List.getElem?_eq_getElem hi];exact List.getElem_mem hi
  ·rw [List.getElem?_eq_getElem hj];exact List.getElem_mem hj
theorem Tab.join {b:Int}{R:List (List Int)}{n i j:Nat} (h:Tab b R n) (h1:i<j) (h2:j<n):Tab b (qeo R i j) (n-1) where
 pos:=h.pos
 len:=fun r hr=>by
  obtain ⟨s,hs,rfl⟩:=List.mem_map.mp hr
  have:=h.len s hs
  rw [zaga (by omega),this]
 nn:=fun r hr x hx=>by
  obtain ⟨s,hs,rfl⟩:=List.mem_map.mp hr
  have:=h.len s hs
  rcases zaen (by omega) (by omega) hx with hx|⟨y,hy,z,hz,rfl⟩
  ·exact h.nn s hs x hx
  ·have a1:=h.nn s hs y hy
   have a2:=h.nn s hs z hz
   omega
 sum:=fun r hr=>by
  obtain ⟨s,hs,rfl⟩:=List.mem_map.mp hr
  have:=h.len s hs
  rw [zaec h1 (by omega),h.sum s hs]
theorem qkw (R:List (List Int)) (i j:Nat):(qeo R i j).length=R.length:=by simp [qeo]
theorem qyt {r:List Int}{i j k:Nat} (h1:i<j) (hj:j<r.length) (hk:k<j):(qbg r i j)[k]?=if k=i then some ((r[i]?).getD 0+(r[j]?).getD 0) else r[k]?:=by
 unfold qbg
 have hl:(r.eraseIdx j).length=r.length-1:=by rw [List.length_eraseIdx,if_pos hj]
 rw [List.getElem?_set,List.getElem?_eraseIdx_of_lt hk]
 by_cases h:i=k
 ·subst h;rw [if_pos rfl,if_pos (by omega),if_pos rfl]
 ·rw [if_neg h,if_neg (Ne.symm h)]
theorem zaiu {r:List Int}{i j k:Nat} (h1:i<j) (hk:j≤k):(qbg r i j)[k]?=r[k+1]?:=by
 unfold qbg
 rw [List.getElem?_set,if_neg (by omega),List.getElem?_eraseIdx_of_ge hk]
def qhz (ds:List PyData) (q:List PyData→Prop):Prop := ∃ (r:List Int) (i j:Nat),ds=[qdn r,.int i,.int j]∧(i<j∧j<r.length∧r.length≤900)∧q ((qbg r i j).map .int)
theorem qqx (r:List Int) (j:Nat):(r.map PyData.int).eraseIdx j=(r.eraseIdx j).map PyData.int:=by
 induction r generalizing j with
 | nil=>rfl
 | cons x r ih =>
  cases j with
  | zero=>rfl
  | succ j=>rw [List.map_cons,List.eraseIdx_cons_succ,ih,List.eraseIdx_cons_succ,List.map_cons]
theorem qhx:FnScope ["row","i","j","left"] ["row","i","j"] (defScope qdv):=⟨rfl,rfl,rfl,by decide +kernel,rfl,by decide +kernel,by decide +kernel⟩
theorem qpd (F:Def K mg "joined_row" qdv ["row","i","j"]) (T:Txt K mg cs)
 : Ok P w K mg base "joined_row" 1 ["row","i","j"] (FSp K qhz):=by
  refine F.vokF qhx (by rintro ds q ⟨_,_,_,h,_⟩;rw [h];rfl) fun f cdv A outer s H E hr ds q h=>?_
  obtain ⟨r,i,j,rfl,⟨h1,h2,h3⟩,h⟩:=h
  refine ⟨_,(qg (qgi (i:=3) qhx.nd (zabj zamp T.list_ L2.boot_list (qa (qc 0) qd)))
   (qg (qgn 3 (qw qcz (qv (qc 0) (qc 1)) (zakk 3 (qc 2))) (qc 1))
   (qh (qyj 3)))),?_⟩
  have e1:=List.getElem?_eq_getElem (show i<r.length by omega)
  have e2:=List.getElem?_eq_getElem h2
  have hl:(r.eraseIdx j).length=r.length-1:=by rw [List.length_eraseIdx,if_pos h2]
  have ix:ixN ((r.map PyData.int).eraseIdx j).length (i:Int)=some i:=by
   unfold ixN
   rw [qqx,List.length_map,if_pos (by omega),if_pos (by omega)];rfl
  refine ⟨.int r[i],qgh (by rw [List.getElem?_map,e1];rfl),rfl,rfl,⟨by omega,by omega⟩,.int r[j],?_,rfl,rfl,i,ix,_,rfl,?_⟩
  ·show (r.map PyData.int)[j]?=_
   rw [List.getElem?_map,e2];rfl
  ·have e:(qbg r i j).map PyData.int=((r.map PyData.int).eraseIdx j).set i (.int (r[i]+r[j])):=by
    unfold qbg
    rw [qqx,List.map_set,e1,e2];rfl
   rw [e] at h
   exact h
def qxy (ds:List PyData) (q:PyData→Prop):Prop := ∃ (b:Int) (R:List (List Int)) (n:Nat) (i j:Int),ds=[qC b R,.int i,.int j]∧(Tab b R n∧1≤R.length∧R.length≤900∧n≤900∧intBits b≤9000) ∧
 0≤i∧i<j∧j<n∧q (qzx b (qeo R i.toNat j.toNat))
theorem zaai:FnScope ["glass","i","j"] ["glass","i","j"] (defScope qjq):=⟨rfl,rfl,rfl,by decide +kernel,rfl,by decide +kernel,by decide +kernel⟩
theorem zaap (F:Def K mg "joined" qjq ["glass","i","j"]) (T:Txt K mg cs)
 (O_is_whole:Ok P w K mg base "is_whole" 1 ["thing"] (PSp K qag))
 (O_lowest_table:Ok P w K mg base "lowest_table" 3 ["bottom","rows"] (PSp K qT))
 (O_signs:Ok P w K mg base "signs" 1 ["glass"] (PSp K qbr))
 (O_joined_row:Ok P w K mg base "joined_row" 1 ["row","i","j"] (FSp K qhz))
 : Ok P w K mg base "joined" 4 ["glass","i","j"] (PSp K qxy):=by
  refine F.vok zaai (by rintro ds q ⟨_,_,_,_,_,h,_⟩;rw [h];rfl) fun f cdv A outer s H E hr ds q h=>?_
  obtain ⟨b,R,n,i,j,rfl,⟨hT,r1,r2,n2,zb⟩,h0,h1,h2,h⟩:=h
  refine ⟨_,(qg (qat (VW.pt (qgo (qba (qar (ql O_is_whole (hr.mono (by decide)) (qa (qc 1) qd)))) (qgo (qba (qar (ql O_is_whole (hr.mono (by decide)) (qa (qc 2) qd)))) (qff (qba (zabm qvs o_lt o_lt qe (qc 1) (qc 2) (ql O_signs (hr.mono (by decide)) (qa (qc 0) qd)))))))) qbh qE)
   (qh (qu (ql O_lowest_table (hr.mono (by decide)) (qa (qv (qc 0) qe) (qa (qM (qJ (caps:=["i","j"]) (own:=["row"]) (ix:=[1,2]) rfl ⟨rfl,rfl,rfl,rfl,rfl,rfl⟩ (qO (qv (qc 0) qe)) (fun _ _ _ _=>(qm (i:=2) (show List.Nodup (["i","j","row"]:List Str) by decide))) (fun _ _ _ _=>(qM (qgm O_joined_row (hr.mono (by decide)) (qa (qc 2) (qa (qc 0) (qa (qc 1) qd)))))))) qd)))))),?_⟩
  have hRn:R≠[]:=fun z=>by rw [z] at r1;simp at r1
  obtain ⟨r0,R0,eR⟩:=List.exists_cons_of_ne_nil hRn
  have l0:r0.length=n:=hT.len r0 (by rw [eR];simp)
  have hlt:j<(r0.length:Int):=by omega
  refine qgx (fun _=>qgx (fun _=>⟨b,r0,R0,by rw [eR],iteN (decide_eq_true hlt) ?_⟩) (fun z=>(z h1).elim)) (fun z=>(z h0).elim)
  obtain ⟨i',rfl⟩:=Int.eq_ofNat_of_zero_le h0
  obtain ⟨j',rfl⟩:=Int.eq_ofNat_of_zero_le (show 0≤j by omega)
  have hij:i'<j':=by omega
  have hjn:j'<n:=by omega
  refine ⟨_,rfl,_,rfl,?_⟩
  show _∧_
  refine qz (ds:=R.map qdn) ((qeo R i' j').map qgq) (by simp [qeo]) (qk (by simp [qeo];omega)) (fun e => ∃ s,e=[.val (.int i'),.val (.int j'),s]) ⟨_,rfl⟩ ?_ ?_
  ·rintro k x ys e hx hys ⟨s,rfl⟩
   obtain ⟨r,hr',rfl⟩:=qdo hx
   have hrm:=hT.len r (qbf hr')
   refine ⟨r,i',j',rfl,⟨hij,by omega,by omega⟩,qo ?_ hys,_,rfl⟩
   unfold qeo
   rw [List.getElem?_map,List.getElem?_map,hr'];rfl
  ·refine ⟨b,_,qeo R i' j',n-1,rfl,⟨qeg _,hT.join hij hjn,?_,by rw [qkw];omega,by omega,zb⟩,h⟩
   intro z;have:=congrArg List.length z;rw [qkw,List.length_nil] at this;omega
def at2 (Ls:List (List Int)) (k j:Nat):Int:=(((Ls[k]?).getD [])[j]?).getD 0
structure Bd (m w:Nat) (Ls:List (List Int)) (ss:List Int):Prop where
 l:Ls.length=m
 s:ss.length=m
 w : ∀ r ∈ Ls,r.length=w
 z : ∀ r ∈ Ls,∀ x ∈ r,intBits x≤2000
section
variable {Ls:List (List Int)}{ss:List Int}{w p i r:Nat}
end
def qL:Nat→(Nat→Int)→Int
 | 0,_=>0
 | n+1,f=>qL n f+f n
theorem qG {f g:Nat→Int} : ∀ {n:Nat},(∀ i,i<n→f i=g i)→qL n f=qL n g
 | 0,_=>rfl
 | n+1,h=>by
  show qL n f+f n=qL n g+g n
  rw [qG fun i hi=>h i (by omega),h n (by omega)]
theorem qec {f:Nat→Int}{n:Nat} (h : ∀ i,i<n→f i=0):qL n f=0:=by
 induction n with
 | zero=>rfl
 | succ n ih =>
  show qL n f+f n=0
  rw [ih fun i hi=>h i (by omega),h n (by omega)];rfl
theorem qon (k l:Int) (f g:Nat→Int) : ∀ n:Nat,qL n (fun i=>k*f i+l*g i)=k*qL n f+l*qL n g
 | 0=>by show (0:Int)=k*0+l*0;omega
 | n+1=>by
  show qL n (fun i=>k*f i+l*g i)+(k*f n+l*g n)=k*(qL n f+f n)+l*(qL n g+g n)
  rw [qon k l f g n];grind
theorem qam (k:Int) (f:Nat→Int) (n:Nat):qL n (fun i=>k*f i)=k*qL n f:=by
 have:=qon k 0 f (fun _=>0) n
 simpa using this
theorem qot (f g:Nat→Int) (n:Nat):qL n (fun i=>f i+g i)=qL n f+qL n g:=by
 have:=qon 1 1 f g n
 simpa using this
theorem qbp {f:Nat→Int}{n r:Nat} (hr:r<n) (h : ∀ i,i<n→i≠r→f i=0):qL n f=f r:=by
 induction n with
 | zero=>omega
 | succ n ih =>
  show qL n f+f n=f r
  by_cases e:r=n
  ·subst e
   rw [qec fun i hi=>h i (by omega) (by omega)];omega
  ·rw [ih (by omega) fun i hi=>h i (by omega),h n (by omega) (by omega)];omega
theorem zaet {f:Nat→Int}{n r s:Nat} (hr:r<n) (hs:s<n) (hrs:r≠s) (h : ∀ i,i<n→i≠r→i≠s→f i=0):qL n f=f r+f s:=by
 have e:qL n f=qL n (fun i=>(if i=r then f r else 0)+(if i=s then f s else 0)):=qG fun i hi=>by
  by_cases e1:i=r
  ·subst e1;rw [if_pos rfl,if_neg hrs];omega
  ·by_cases e2:i=s
   ·subst e2;rw [if_neg e1,if_pos rfl];omega
   ·rw [if_neg e1,if_neg e2,h i hi e1 e2];rfl
 rw [e,qot,qbp hr fun i _ z=>if_neg z,qbp hs fun i _ z=>if_neg z,if_pos rfl,if_pos rfl]
def skip (i x:Nat):Nat:=if x<i then x else x+1
def enc (B:Nat) (st:Nat→Nat):Nat→Nat
 | 0=>0
 | k+1=>enc B st k+st k*B^k
theorem qbs (f:Nat→Int) : ∀ n:Nat,((List.range n).map f).sum=qL n f
 | 0=>rfl
 | n+1=>by rw [List.range_succ,List.map_append,List.sum_append,qbs f n];simp [qL]
theorem qod {B q d:Int} (hB:0<B) (hq:0<q) (h1:B∣d) (h2:q∣d):0<B*q/(Int.gcd B q:Int)∧B*q/(Int.gcd B q:Int)∣d∧B∣B*q/(Int.gcd B q:Int)∧q∣B*q/(Int.gcd B q:Int):=by
 obtain ⟨x,rfl⟩:=Int.eq_ofNat_of_zero_le (Int.le_of_lt hB)
 obtain ⟨y,rfl⟩:=Int.eq_ofNat_of_zero_le (Int.le_of_lt hq)
 have e:(x:Int)*(y:Int)/(Int.gcd x y:Int)=((Nat.lcm x y:Nat):Int):=by
  unfold Nat.lcm
  rw [Int.gcd_natCast_natCast,Int.natCast_ediv,Int.natCast_mul]
 rw [e]
 have p:0<Nat.lcm x y:=Nat.lcm_pos (by omega) (by omega)
 refine ⟨by omega,?_,Int.natCast_dvd_natCast.mpr (Nat.dvd_lcm_left x y),Int.natCast_dvd_natCast.mpr (Nat.dvd_lcm_right x y)⟩
 rw [Int.ofNat_dvd_left] at h1 h2 ⊢
 exact Nat.lcm_dvd h1 h2
structure ShW (p q:Int):Prop where
 s:Shr p q
 b1:intBits p≤4000
 b2:intBits q≤4000
theorem quf (f:Nat→Int) (a:Nat) : ∀ b:Nat,qL (a+b) f=qL a f+qL b fun j=>f (a+j)
 | 0=>by show qL a f=qL a f+0;omega
 | b+1=>by
  show qL (a+b) f+f (a+b)=qL a f+(qL b (fun j=>f (a+j))+f (a+b))
  rw [quf f a b];omega
theorem qkr (f:Nat→Int) (n:Nat) : ∀ m:Nat,qL (m*n) f=qL m fun i=>qL n fun j=>f (i*n+j)
 | 0=>by rw [Nat.zero_mul];rfl
 | m+1=>by
  rw [Nat.succ_mul,quf,qkr f n m];rfl
section
variable {b:Int}{R:List (List Int)}{m:Nat}{c:Int}{S:List (List Int)}{n:Nat}
structure Dul (b:Int) (R:List (List Int)) (m:Nat) (c:Int) (S:List (List Int)) (n:Nat) (B:Int) (D:List (List Int)):Prop where
 t:Tab B D n
 l:D.length=m
 e : ∀ s j,s<R.length→j<n→c*(qL m fun i=>at2 R s i*at2 D i j)=at2 S s j*b*B
structure LcmB (V:List (List (Int×Int))) (B:Int):Prop where
 pos:0<B
 dv : ∀ r ∈ V,∀ x ∈ r,x.2∣B
 un : ∀ d:Int,(∀ r ∈ V,∀ x ∈ r,x.2∣d)→B∣d
def qcc (B:Int) (r:List (Int×Int)):List Int:=r.map fun x=>x.1*(B/x.2)
end
def dS (x:Int×Int):PyData:=dSh x.1 x.2
theorem shG {vs:List (Int×Int)}{i:Nat}{x:PyData} (h:(vs.map dS)[i]?=some x) : ∃ y,vs[i]?=some y∧x=dSh y.1 y.2:=by
 rw [List.getElem?_map] at h
 cases q:vs[i]? with
 | none=>rw [q] at h;cases h
 | some y=>rw [q] at h;exact ⟨y,rfl,(Option.some.inj h).symm⟩
theorem dvdB {x d:Int}{m:Nat} (h:x∣d) (d0:0<d) (z:intBits d≤m):intBits x≤m :=
 intBits_le_of_natAbs (Nat.le_of_dvd (by omega) (Int.natAbs_dvd_natAbs.mpr h)) z
def zapl (d:PyData) (V:List (List (Int×Int))):Prop := ∃ l,qan d=some l∧l.length=V.length ∧ ∀ (i:Nat) (x:PyData),l[i]?=some x → ∃ r:List (Int×Int),V[i]?=some r∧qan x=some (r.map dS)
structure LcmL (xs:List (Int×Int)) (B:Int):Prop where
 pos:0<B
 dv : ∀ x ∈ xs,x.2∣B
 un : ∀ d:Int,(∀ x ∈ xs,x.2∣d)→B∣d
theorem LcmL.nil:LcmL [] 1:=⟨by decide,fun x hx=>by simp at hx,fun d _=>⟨d,by omega⟩⟩
theorem LcmL.snoc {xs:List (Int×Int)}{B:Int}{y:Int×Int} (h:LcmL xs B) (hy:0<y.2):LcmL (xs++[y]) (B*y.2/(Int.gcd B y.2:Int)):=by
 have k:=qod (d:=B*y.2) h.pos hy ⟨_,rfl⟩ ⟨B,Int.mul_comm _ _⟩
 refine ⟨k.1,fun x hx=>?_,fun d hd=>(qod h.pos hy (h.un d fun x hx=>hd x (List.mem_append.mpr (.inl hx))) (hd y (by simp))).2.1⟩
 rcases List.mem_append.mp hx with q|q
 ·exact Int.dvd_trans (h.dv x q) k.2.2.1
 ·rw [List.mem_singleton.mp q];exact k.2.2.2
theorem LcmL.b {V:List (List (Int×Int))}{B:Int} (h:LcmL V.flatten B):LcmB V B :=
 ⟨h.pos,fun r hr x hx=>h.dv x (List.mem_flatten.mpr ⟨r,hr,hx⟩),fun d hd=>h.un d fun x hx=>by
  obtain ⟨r,hr,hx⟩:=List.mem_flatten.mp hx
  exact hd r hr x hx⟩
theorem zapm {V:List (List (Int×Int))}{i:Nat}{r:List (Int×Int)} (h:V[i]?=some r):(V.take (i+1)).flatten=(V.take i).flatten++r:=by
 rw [List.take_add_one,h];simp
theorem zaqc {α:Type}{zs:List α}{i:Nat}{z:α} (h:zs[i]?=some z):zs.take (i+1)=zs.take i++[z]:=by
 rw [List.take_add_one,h];rfl
def qgp (ds:List PyData) (q:PyData→Prop):Prop := ∃ (d:PyData) (r:List (Int×Int)) (B:Int),ds=[d,.int B]∧(qan d=some (r.map dS)∧r.length≤900∧(∀ x ∈ r,Shr x.1 x.2∧intBits x.1≤4000∧x.2∣B)∧0<B∧intBits B≤4000)∧q (qdn (qcc B r))
theorem qmu:FnScope ["row","bottom"] ["row","bottom"] (defScope qdh):=⟨rfl,rfl,rfl,by decide +kernel,rfl,by decide +kernel,by decide +kernel⟩
theorem qmv (F:Def K mg "over_bottom" qdh ["row","bottom"]) (T:Txt K mg cs)
 : Ok P w K mg base "over_bottom" 1 ["row","bottom"] (PSp K qgp):=by
  refine F.vok qmu (by rintro ds q ⟨_,_,_,h,_⟩;rw [h];rfl) fun f cdv A outer s H E hr ds q h=>?_
  obtain ⟨d,r,B,rfl,⟨e,hl,hx,B0,zB⟩,h⟩:=h
  refine ⟨_,(qh (qu (qas qdc T.tuple_ L2.boot_tuple (qa (qM (qJ (caps:=["bottom"]) (own:=["part"]) (ix:=[1]) rfl ⟨rfl,rfl,rfl,rfl,rfl,rfl⟩ (qO (qc 0)) (fun _ _ _ _=>(qm (i:=1) (show List.Nodup (["bottom","part"]:List Str) by decide))) (fun _ _ _ _=>(qw qY (qv (qc 1) qe) (qw qhf (qc 0) (qv (qc 1) qe)))))) qd)))),?_⟩
  refine qQ e (qz ((qcc B r).map .int) (by simp [qcc]) (qk (by simp [qcc];omega)) (fun e => ∃ s,e=[.val (.int B),s]) ⟨_,rfl⟩ ?_ h)
  rintro i x ys e hx' hys ⟨s,rfl⟩
  obtain ⟨y,hy,rfl⟩:=shG hx'
  obtain ⟨s1,s2,s3⟩:=hx y (List.mem_of_getElem? hy)
  have q0:=s1.pos
  refine ⟨.int y.1,rfl,.int y.2,rfl,⟨by omega,qi (dvdB s3 B0 zB) (by decide)⟩,qdw s2 (dvdB (x:=B/y.2) ⟨y.2,(Int.ediv_mul_cancel s3).symm⟩ B0 zB),qo ?_ hys,_,rfl⟩
  unfold qcc
  rw [List.getElem?_map,List.getElem?_map,hy];rfl
def qdz (ds:List PyData) (q:PyData→Prop):Prop := ∃ (d:PyData) (V:List (List (Int×Int))) (D0:Int),ds=[d]∧(zapl d V∧V.length≤900∧(∀ r ∈ V,r.length≤900 ∧ ∀ x ∈ r,Shr x.1 x.2∧intBits x.1≤4000∧x.2∣D0)∧0<D0∧intBits D0≤4000) ∧ ∀ B,LcmB V B→q (qC B (V.map (qcc B)))
theorem qaa:FnScope ["rows","bottom","row","part"] ["rows"] (defScope qbe):=⟨rfl,rfl,rfl,by decide +kernel,rfl,by decide +kernel,by decide +kernel⟩
theorem qic (F:Def K mg "table_of_shares" qbe ["rows"]) (T:Txt K mg cs)
 (O_divisor:Ok P w K mg base "divisor" 1 ["one","other"] (PSp K qdg))
 (O_over_bottom:Ok P w K mg base "over_bottom" 1 ["row","bottom"] (PSp K qgp))
 : Ok P w K mg base "table_of_shares" 2 ["rows"] (PSp K qdz):=by
  refine F.vok qaa (by rintro ds q ⟨_,_,_,h,_⟩;rw [h];rfl) fun f cdv A outer s H E hr ds q h=>?_
  obtain ⟨d,V,D0,rfl,⟨⟨l,e,el,hV⟩,hl,hx,d0,zd⟩,h⟩:=h
  refine ⟨_,(qg (qy (i:=1) qaa.nd qe)
   (qg (qet rfl (qO (qc 0)) (qm (i:=2) qaa.nd) (qh (qet rfl (qO (qc 2)) (qm (i:=3) qaa.nd) (qh (qy (i:=1) qaa.nd (qw qhf (qw qY (qc 1) (qv (qc 3) qe)) (ql O_divisor (hr.mono (by decide)) (qa (qc 1) (qa (qv (qc 3) qe) qd)))))))))
   (qh (qu (qgj (qa (qc 1) (qa (qas qdc T.tuple_ L2.boot_tuple (qa (qM (qJ (caps:=["bottom"]) (own:=["row"]) (ix:=[1]) rfl ⟨rfl,rfl,rfl,rfl,rfl,rfl⟩ (qO (qc 0)) (fun _ _ _ _=>(qm (i:=1) (show List.Nodup (["bottom","row"]:List Str) by decide))) (fun _ _ _ _=>(ql O_over_bottom (hr.mono (by decide)) (qa (qc 1) (qa (qc 0) qd)))))) qd)) qd))))))),?_⟩
  refine qQ e ⟨fun i e => ∃ t1 t2 B,e=[.val d,.val (.int B),t1,t2]∧LcmL (V.take i).flatten B∧B∣D0,⟨_,_,_,rfl,by simpa using LcmL.nil,⟨D0,by omega⟩⟩,?_,?_⟩
  ·rintro i x e' hxi ⟨t1,t2,B,rfl,hB,Bd⟩
   obtain ⟨r,hr,er⟩:=hV i x hxi
   refine qQ er ⟨fun j e => ∃ t2 B,e=[.val d,.val (.int B),.val x,t2]∧LcmL ((V.take i).flatten++r.take j) B∧B∣D0,⟨_,_,rfl,by simpa using hB,Bd⟩,?_,?_⟩
   ·rintro j y e hy ⟨t2,B,rfl,hB,Bd⟩
    obtain ⟨z,hz,rfl⟩:=shG hy
    obtain ⟨s1,s2,s3⟩:=(hx r (List.mem_of_getElem? hr)).2 z (List.mem_of_getElem? hz)
    have q0:=s1.pos
    have B0:=hB.pos
    have gp:(0:Int)<(Int.gcd B z.2:Nat):=by have:=Int.gcd_pos_of_ne_zero_right B (show z.2≠0 by omega);omega
    refine ⟨.int z.2,rfl,qdw (dvdB Bd d0 zd) (dvdB s3 d0 zd),.int z.2,rfl,⟨gp,qi (dvdB (Int.dvd_trans (Int.gcd_dvd_left ..) Bd) d0 zd) (by decide)⟩,_,_,rfl,?_,(qod B0 (show 0<z.2 by omega) Bd s3).2.1⟩
    rw [zaqc hz,← List.append_assoc]
    exact hB.snoc (by omega)
   ·rintro e ⟨t2,B,rfl,hB,Bd⟩
    refine ⟨_,_,_,rfl,?_,Bd⟩
    rw [List.length_map,List.take_length] at hB
    rw [zapm hr];exact hB
  rintro e' ⟨t1,t2,B,rfl,hB,Bd⟩
  rw [el,List.take_length] at hB
  have hB':=hB.b
  have B0:=hB.pos
  have zB:=dvdB Bd d0 zd
  refine qQ e (qz ((V.map (qcc B)).map qdn) (by simp [el]) (qk (by simp;omega)) (fun e => ∃ s,e=[.val (.int B),s]) ⟨_,rfl⟩ ?_ ⟨szl,h B hB'⟩)
  rintro i x ys e' hxi hys ⟨s,rfl⟩
  obtain ⟨r,hr,er⟩:=hV i x hxi
  obtain ⟨rl,rx⟩:=hx r (List.mem_of_getElem? hr)
  refine ⟨x,r,B,rfl,⟨er,rl,fun y hy=>⟨(rx y hy).1,(rx y hy).2.1,hB'.dv r (List.mem_of_getElem? hr) y hy⟩,B0,zB⟩,qo ?_ hys,_,rfl⟩
  rw [List.getElem?_map,List.getElem?_map,hr];rfl
def nrm (c:List Int):List Int:=c.map fun n=>n/(qZ 0 c:Int)
structure Col (c:List Int):Prop where
 nn : ∀ n ∈ c,0≤n
 nz : ∃ n ∈ c,n≠0
theorem qqi : ∀ {c:List Int},qZ 0 c=0 → ∀ n ∈ c,n=0:=fun {c} h n hn=>by
 have:=qfg c 0 n hn
 rw [h] at this
 exact Int.zero_dvd.mp (by simpa using this)
theorem Col.g {c:List Int} (h:Col c):0<qZ 0 c:=by
 rcases Nat.eq_zero_or_pos (qZ 0 c) with e|e
 ·obtain ⟨n,hn,z⟩:=h.nz
  exact (z (qqi e n hn)).elim
 ·exact e
theorem qkb {c:List Int}:(nrm c).map (fun n=>(qZ 0 c:Int)*n)=c:=by
 unfold nrm
 rw [List.map_map]
 exact qch fun n hn=>Int.mul_ediv_cancel' (qfg c 0 n hn)
theorem zain {c:List Int} (h:0<qZ 0 c):qZ 0 (nrm c)=1:=by
 have e:=qjp (qZ 0 c) (nrm c) 0
 rw [qkb,Nat.mul_zero] at e
 exact (Nat.eq_of_mul_eq_mul_left h (show qZ 0 c*1=qZ 0 c*qZ 0 (nrm c) by omega)).symm
theorem Col.nrm {c:List Int} (h:Col c):Col (nrm c):=by
 have g:=h.g
 constructor
 ·intro n hn
  obtain ⟨m,hm,rfl⟩:=List.mem_map.mp hn
  exact Int.ediv_nonneg (h.nn m hm) (by omega)
 ·obtain ⟨n,hn,z⟩:=h.nz
  refine ⟨n/(qZ 0 c:Int),List.mem_map.mpr ⟨n,hn,rfl⟩,fun e=>z ?_⟩
  have:=Int.mul_ediv_cancel' (qfg c 0 n hn)
  rw [e,Int.mul_zero] at this
  exact this.symm
theorem zaat {w:List Int}{k:Nat} (h:qZ 0 w=1) (hk:0<k):nrm (w.map fun n=>(k:Int)*n)=w:=by
 have e:=qjp k w 0
 rw [Nat.mul_zero,h,Nat.mul_one] at e
 unfold nrm
 rw [e,List.map_map]
 refine qch fun n _=>?_
 show (k:Int)*n/(k:Int)=n
 exact Int.mul_ediv_cancel_left n (by omega)
def Prp (u v:List Int):Prop := ∀ (i j:Nat) (a b c d:Int),u[i]?=some a→u[j]?=some b→v[i]?=some c→v[j]?=some d→a*d=b*c
theorem qww {u v:List Int} (e:nrm u=nrm v):Prp u v:=by
 intro i j a b c d ha hb hc hd
 have hu:=qkb (c:=u)
 have hv:=qkb (c:=v)
 rw [← hu] at ha hb
 rw [← hv,← e] at hc hd
 rw [List.getElem?_map] at ha hb hc hd
 cases h1:(nrm u)[i]? with
 | none=>rw [h1] at ha;cases ha
 | some x =>
  cases h2:(nrm u)[j]? with
  | none=>rw [h2] at hb;cases hb
  | some y =>
   rw [h1] at ha hc
   rw [h2] at hb hd
   simp only [Option.map_some,Option.some.injEq] at ha hb hc hd
   subst ha hb hc hd
   grind
def jc (R:List (List Int)) (G:List Nat):List Int:=R.map fun r=>(G.map fun i=>(r[i]?).getD 0).sum
theorem zaog (R:List (List Int)) (j:Nat):jc R [j]=qx R j:=by
 unfold jc qx
 refine List.map_congr_left fun r _=>?_
 simp
theorem zale (R:List (List Int)) (j:Nat) (G:List Nat):jc R (j::G)=List.zipWith (· + ·) (qx R j) (jc R G):=by
 unfold jc qx
 induction R with
 | nil=>rfl
 | cons r R ih =>
  show ((j::G).map fun i=>(r[i]?).getD 0).sum::_=(_+_)::_
  rw [ih,List.map_cons,List.sum_cons]
theorem qtf (R:List (List Int)) (G:List Nat):(jc R G).length=R.length:=List.length_map _
theorem zaev {l l':List Int} (h:l.Perm l'):l.sum=l'.sum:=by
 induction h with
 | nil=>rfl
 | cons x _ ih=>rw [List.sum_cons,List.sum_cons,ih]
 | swap x y l=>rw [List.sum_cons,List.sum_cons,List.sum_cons,List.sum_cons];omega
 | trans _ _ a b=>rw [a,b]
theorem zabh (w:List Int) (a b:Int):List.zipWith (· + ·) (w.map fun n=>a*n) (w.map fun n=>b*n)=w.map fun n=>(a+b)*n:=by
 induction w with
 | nil=>rfl
 | cons x w ih=>rw [List.map_cons,List.map_cons,List.zipWith_cons_cons,ih,List.map_cons,Int.add_mul]
theorem qvf {R:List (List Int)}{κ:List Int} : ∀ {G:List Nat},G≠[]→(∀ i ∈ G,Col (qx R i)∧nrm (qx R i)=κ) → ∃ k:Nat,0<k∧jc R G=κ.map fun n=>(k:Int)*n
 | [i],_,h=>by
  obtain ⟨c,e⟩:=h i (by simp)
  exact ⟨qZ 0 (qx R i),c.g,by rw [zaog,← e,qkb]⟩
 | i::j::G,_,h=>by
  obtain ⟨k,hk,e⟩:=qvf (G:=j::G) (by simp) fun x hx=>h x (List.mem_cons_of_mem _ hx)
  obtain ⟨c,e2⟩:=h i (by simp)
  refine ⟨qZ 0 (qx R i)+k,by omega,?_⟩
  have e3:qx R i=κ.map fun n=>(qZ 0 (qx R i):Int)*n:=by rw [← e2,qkb]
  rw [zale,e,e3,zabh,← e3];simp
theorem qxs {R:List (List Int)}{κ:List Int}{G:List Nat} (hG:G≠[]) (h : ∀ i ∈ G,Col (qx R i)∧nrm (qx R i)=κ):nrm (jc R G)=κ∧Col (jc R G):=by
 obtain ⟨k,hk,e⟩:=qvf hG h
 obtain ⟨i,hi⟩:=List.exists_mem_of_ne_nil G hG
 obtain ⟨c,e2⟩:=h i hi
 have g1:qZ 0 κ=1:=by rw [← e2];exact zain c.g
 have cκ:Col κ:=e2 ▸ c.nrm
 rw [e]
 refine ⟨zaat g1 hk,fun n hn=>?_,?_⟩
 ·obtain ⟨m,hm,rfl⟩:=List.mem_map.mp hn
  exact Int.mul_nonneg (by omega) (cκ.nn m hm)
 ·obtain ⟨m,hm,z⟩:=cκ.nz
  exact ⟨_,List.mem_map.mpr ⟨m,hm,rfl⟩,Int.mul_ne_zero (by omega) z⟩
def sgD (G:List Nat):List PyData:=G.map fun i => .int ((i:Nat):Int)
theorem zaid {G:List Nat}{i:Nat}{x:PyData} (h:(sgD G)[i]?=some x) : ∃ s:Nat,G[i]?=some s∧x = .int (s:Nat):=by
 unfold sgD at h
 rw [List.getElem?_map] at h
 cases e:G[i]? with
 | none=>rw [e] at h;cases h
 | some s=>rw [e] at h;cases h;exact ⟨s,rfl,rfl⟩
theorem qus (G:List Nat):qan (.list (sgD G))=some ((G.map fun i=>((i:Nat):Int)).map .int):=by
 unfold sgD qan
 rw [List.map_map];rfl
theorem qsv {G:List Nat}{s:Nat}:((G.map fun i=>((i:Nat):Int)).any (· == (s:Int)))=true↔s ∈ G:=by
 rw [List.any_eq_true]
 constructor
 ·rintro ⟨x,hx,e⟩
  obtain ⟨i,hi,rfl⟩:=List.mem_map.mp hx
  have:i=s:=by have:=eq_of_beq e;omega
  exact this ▸ hi
 ·intro h
  exact ⟨_,List.mem_map.mpr ⟨s,h,rfl⟩,by simp⟩
def qct (r:List Int) (G:List Nat):Int:=(G.map fun i=>(r[i]?).getD 0).sum
def grD (Gs:List (List Nat)):List PyData:=Gs.map fun G => .list (sgD G)
theorem qyi {Gs:List (List Nat)}{i:Nat}{x:PyData} (h:(grD Gs)[i]?=some x) : ∃ G,Gs[i]?=some G∧x = .list (sgD G):=by
 unfold grD at h
 rw [List.getElem?_map] at h
 cases e:Gs[i]? with
 | none=>rw [e] at h;cases h
 | some s=>rw [e] at h;cases h;exact ⟨s,rfl,rfl⟩
def grs (R:List (List Int)):Nat→List (List Int×List Nat)
 | 0=>[]
 | i+1=>if (qx R i).any (· != 0)=true then qmq (grs R i) (nrm (qx R i)) i else grs R i
def qeh (R:List (List Int)) (n i:Nat):List Nat:=((grs R n)[i]?.getD ([],[])).2
theorem zagg {gs:List (List Int×List Nat)}{k:List Int}{s:Nat}:(qmq gs k s).length≤gs.length+1:=by
 unfold qmq
 split
 ·rw [List.length_map];omega
 ·simp
theorem qno (R:List (List Int)) : ∀ i,(grs R i).length≤i
 | 0=>Nat.le_refl _
 | i+1=>by
  have:=qno R i
  unfold grs
  split
  ·exact Nat.le_trans zagg (by omega)
  ·omega
theorem qmo (R:List (List Int)) : ∀ i,∀ x ∈ grs R i,x.2.length≤i
 | 0,x,hx=>by cases hx
 | i+1,x,hx=>by
  unfold grs at hx
  split at hx
  ·unfold qmq at hx
   split at hx
   ·obtain ⟨y,hy,rfl⟩:=List.mem_map.mp hx
    have:=qmo R i y hy
    split
    ·simp;omega
    ·omega
   ·rcases List.mem_append.mp hx with z|z
    ·have:=qmo R i x z
     omega
    ·rw [List.mem_singleton.mp z];simp
  ·have:=qmo R i x hx
   omega
theorem qmg (R:List (List Int)) : ∀ i,∀ x ∈ grs R i,∀ s ∈ x.2,s<i
 | 0,x,hx=>by cases hx
 | i+1,x,hx=>by
  unfold grs at hx
  split at hx
  ·unfold qmq at hx
   split at hx
   ·obtain ⟨y,hy,rfl⟩:=List.mem_map.mp hx
    have ih:=qmg R i y hy
    split
    ·intro s hs
     rcases List.mem_append.mp hs with z|z
     ·have:=ih s z;omega
     ·have:=List.mem_singleton.mp z;omega
    ·intro s hs
     have:=ih s hs;omega
   ·rcases List.mem_append.mp hx with z|z
    ·intro s hs
     have:=qmg R i x z s hs;omega
    ·rw [List.mem_singleton.mp z]
     intro s hs
     have:=List.mem_singleton.mp hs;omega
  ·intro s hs
   have:=qmg R i x hx s hs;omega
theorem qyq {K:PySem.W.Frag}{F:Hp} (G:List Nat):Iss K F (sgD G) (grL G):=by
 have e:=qjs (K:=K) (H:=F) (G.map fun i=>((i:Nat):Int))
 unfold sgD grL
 rw [List.map_map,List.map_map] at e
 exact e
def FL (F H:Hp) (ks:List Grp):Hp:=fun b=>if b ∈ ks.map (·.2.1) then H b else F b
section
variable {F H:Hp}{ks:List Grp}
theorem FL.le (h : ∀ x ∈ ks,F x.2.1=none):Same F (FL F H ks):=fun b o e=>by
 unfold FL
 rw [if_neg fun z=>?_]
 ·exact e
 ·obtain ⟨x,hx,rfl⟩:=List.mem_map.mp z
  rw [h x hx] at e;cases e
theorem FL.fh (h:Same F H):Same (FL F H ks) H:=fun b o e=>by
 unfold FL at e
 split at e
 ·exact e
 ·exact h b o e
theorem FL.at {x:Grp}{o:HO} (hx:x ∈ ks) (h:H x.2.1=some o):FL F H ks x.2.1=some o:=by
 unfold FL
 rw [if_pos (List.mem_map.mpr ⟨x,hx,rfl⟩)];exact h
end
def qdd (ds:List PyData) (q:PyData→Prop):Prop := ∃ (d g:PyData) (r:List Int) (G:List Nat),ds=[d,g]∧(qan d=some (r.map .int)∧qan g=some (sgD G)∧G.length≤900 ∧ ∀ i ∈ G,i<r.length)∧q (.int (qct r G))
theorem qkc:FnScope ["row","group"] ["row","group"] (defScope qbx):=⟨rfl,rfl,rfl,by decide +kernel,rfl,by decide +kernel,by decide +kernel⟩
theorem qjw (F:Def K mg "joined_number" qbx ["row","group"]) (T:Txt K mg cs)
 : Ok P w K mg base "joined_number" 1 ["row","group"] (PSp K qdd):=by
  refine F.vok qkc (by rintro ds q ⟨_,_,_,_,h,_⟩;rw [h];rfl) fun f cdv A outer s H E hr ds q h=>?_
  obtain ⟨d,g,r,G,rfl,⟨e1,e2,hl,hk⟩,h⟩:=h
  refine ⟨_,(qh (qu (qt (qqa rfl) T.sum_ L2.boot_sum (qa (qM (qJ (caps:=["row"]) (own:=["sign"]) (ix:=[0]) rfl ⟨rfl,rfl,rfl,rfl,rfl,rfl⟩ (qO (qc 1)) (fun _ _ _ _=>(qm (i:=1) (show List.Nodup (["row","sign"]:List Str) by decide))) (fun _ _ _ _=>(qv (qc 0) (qc 1))))) qd)))),?_⟩
  refine qQ e2 (qz ((G.map fun i=>(r[i]?).getD 0).map .int) (by simp [sgD]) (qk (by simp;omega)) (fun e => ∃ s,e=[.val d,s]) ⟨_,rfl⟩ ?_ ⟨_,rfl,h⟩)
  rintro i x ys e hx hys ⟨s,rfl⟩
  obtain ⟨k,hi,rfl⟩:=zaid hx
  have hk':=hk k (qbf hi)
  have hx:=List.getElem?_eq_getElem hk'
  refine qsl e1 (qgh (by rw [List.getElem?_map,hx];rfl)) ⟨qo ?_ hys,_,rfl⟩
  rw [List.getElem?_map,List.getElem?_map,hi]
  show some (PyData.int ((r[k]?).getD 0))=_
  rw [hx];rfl
def qde (ds:List PyData) (q:List PyData→Prop):Prop := ∃ (b:Int) (R:List (List Int)) (g:PyData) (G:List Nat),ds=[qC b R,g]∧(R.length≤900∧qan g=some (sgD G)∧G.length≤900 ∧ ∀ r ∈ R,∀ i ∈ G,i<r.length)∧q ((jc R G).map .int)
theorem qkl:FnScope ["glass","group"] ["glass","group"] (defScope qcb):=⟨rfl,rfl,rfl,by decide +kernel,rfl,by decide +kernel,by decide +kernel⟩
theorem qjv (F:Def K mg "joined_column" qcb ["glass","group"]) (T:Txt K mg cs)
 (O_joined_number:Ok P w K mg base "joined_number" 1 ["row","group"] (PSp K qdd))
 : Ok P w K mg base "joined_column" 2 ["glass","group"] (FSp K qde):=by
  refine F.vokF qkl (by rintro ds q ⟨_,_,_,_,h,_⟩;rw [h];rfl) fun f cdv A outer s H E hr ds q h=>?_
  obtain ⟨b,R,g,G,rfl,⟨hR,eg,hl,hk⟩,h⟩:=h
  refine ⟨_,(qh (qkj (qJ (caps:=["group"]) (own:=["row"]) (ix:=[1]) rfl ⟨rfl,rfl,rfl,rfl,rfl,rfl⟩ (qO (qv (qc 0) qe)) (fun _ _ _ _=>(qm (i:=1) (show List.Nodup (["group","row"]:List Str) by decide))) (fun _ _ _ _=>(ql O_joined_number (hr.mono (by decide)) (qa (qc 1) (qa (qc 0) qd))))))),?_⟩
  refine ⟨_,rfl,?_⟩
  refine qz ((jc R G).map .int) (by simp [qtf]) (qk (by simp [qtf];omega)) (fun e => ∃ s,e=[.val g,s]) ⟨_,rfl⟩ ?_ ⟨_,rfl,h⟩
  rintro i x ys e hx hys ⟨s,rfl⟩
  rw [List.getElem?_map] at hx
  cases er:R[i]? with
  | none=>rw [er] at hx;cases hx
  | some r =>
   rw [er] at hx;cases hx
   refine ⟨_,_,r,G,rfl,⟨rfl,eg,hl,hk r (qbf er)⟩,qo ?_ hys,_,rfl⟩
   unfold jc
   rw [List.getElem?_map,List.getElem?_map,er];rfl
theorem qvp (x:Nat→Int) : ∀ k i,qmp x x k i=false
 | 0,_=>rfl
 | k+1,i=>by unfold qmp;rw [if_pos (by simp)];exact qvp x k (i+1)
theorem qzr {x y z:Nat→Int} : ∀ k i,qmp x y k i=true→qmp y z k i=true→qmp x z k i=true
 | 0,_,h,_=>by cases h
 | k+1,i,h1,h2=>by
  unfold qmp at h1 h2 ⊢
  by_cases a:x i=y i
  ·rw [if_pos (by simpa using a)] at h1
   by_cases b:y i=z i
   ·rw [if_pos (by simpa using b)] at h2
    rw [if_pos (by simpa using a.trans b)]
    exact qzr k (i+1) h1 h2
   ·rw [if_neg (by simpa using b)] at h2
    rw [a,if_neg (by simpa using b)];exact h2
  ·rw [if_neg (by simpa using a)] at h1
   have h1:=of_decide_eq_true h1
   by_cases b:y i=z i
   ·rw [← b,if_neg (by simpa using a)];exact decide_eq_true h1
   ·rw [if_neg (by simpa using b)] at h2
    have h2:=of_decide_eq_true h2
    rw [if_neg (by simp;omega)];exact decide_eq_true (by omega)
theorem qve {x y:Nat→Int} : ∀ k i,(∃ j,i≤j∧j<i+k∧x j≠y j)→qmp x y k i=true∨qmp y x k i=true
 | 0,i,⟨j,h1,h2,_⟩=>by omega
 | k+1,i,⟨j,h1,h2,h3⟩=>by
  unfold qmp
  by_cases a:x i=y i
  ·rw [if_pos (by simpa using a),if_pos (by simpa using a.symm)]
   have:j≠i:=fun z=>h3 (z ▸ a)
   exact qve k (i+1) ⟨j,by omega,by omega,h3⟩
  ·rw [if_neg (by simpa using a),if_neg (by simpa using Ne.symm a)]
   by_cases b:x i<y i
   ·exact .inl (decide_eq_true b)
   ·exact .inr (decide_eq_true (by omega))
theorem zaan {n m:Nat}{kl:Nat→List Int} (hl : ∀ i,i<n→(kl i).length=m) (hd : ∀ i j,i<n→j<n→i≠j→kl i≠kl j):OrdN n (qau kl m):=by
 refine ⟨fun i=>qvp _ _ _,fun i j k _ _ _ h1 h2=>qzr _ _ h1 h2,fun i j hi hj ne=>qve _ _ ?_⟩
 refine Classical.byContradiction fun z=>hd i j hi hj ne (List.ext_getElem? fun k=>?_)
 by_cases hk:k<m
 ·have e:(kl i).getD k 0=(kl j).getD k 0:=Classical.byContradiction fun w=>z ⟨k,Nat.zero_le _,by omega,w⟩
  have l1:=hl i hi
  have l2:=hl j hj
  rw [List.getD_eq_getElem?_getD,List.getD_eq_getElem?_getD,List.getElem?_eq_getElem (by omega),List.getElem?_eq_getElem (by omega)] at e
  rw [List.getElem?_eq_getElem (by omega),List.getElem?_eq_getElem (by omega)]
  exact congrArg some e
 ·rw [List.getElem?_eq_none (by rw [hl i hi];omega),List.getElem?_eq_none (by rw [hl j hj];omega)]
structure GrsOk (R:List (List Int)) (gs:List (List Int×List Nat)):Prop where
 ky:(gs.map (·.1)).Nodup
 ne : ∀ x ∈ gs,x.2≠[]
 me : ∀ x ∈ gs,∀ s ∈ x.2,Col (qx R s)∧nrm (qx R s)=x.1
theorem GrsOk.put {R:List (List Int)}{gs:List (List Int×List Nat)}{s:Nat} (h:GrsOk R gs) (c:Col (qx R s)):GrsOk R (qmq gs (nrm (qx R s)) s):=by
 unfold qmq
 split
 ·have key : ∀ y:List Int×List Nat,(if y.1=nrm (qx R s) then (y.1,y.2++[s]) else y).1=y.1:=fun y=>by split <;> rfl
  refine ⟨?_,fun x hx=>?_,fun x hx=>?_⟩
  ·rw [List.map_map]
   have:gs.map ((·.1) ∘ fun x=>if x.1=nrm (qx R s) then (x.1,x.2++[s]) else x)=gs.map (·.1):=List.map_congr_left fun y _=>key y
   rw [this];exact h.ky
  ·obtain ⟨y,hy,rfl⟩:=List.mem_map.mp hx
   split
   ·simp
   ·exact h.ne y hy
  ·obtain ⟨y,hy,rfl⟩:=List.mem_map.mp hx
   split
   ·rename_i e
    intro t ht
    rcases List.mem_append.mp ht with z|z
    ·exact h.me y hy t z
    ·rw [List.mem_singleton.mp z];exact ⟨c,e.symm⟩
   ·exact h.me y hy
 ·rename_i na
  have two : ∀ {P:List Int×List Nat→Prop},(∀ x ∈ gs,P x)→P (nrm (qx R s),[s]) → ∀ x ∈ gs++[(nrm (qx R s),[s])],P x:=fun a b x hx=>by
   rcases List.mem_append.mp hx with z|z
   ·exact a x z
   ·rw [List.mem_singleton.mp z];exact b
  refine ⟨?_,two h.ne (by simp),two h.me fun t ht=>?_⟩
  ·rw [List.map_append,List.map_cons,List.map_nil,List.nodup_append]
   refine ⟨h.ky,by simp,fun a ha b hb=>?_⟩
   obtain ⟨x,hx,rfl⟩:=List.mem_map.mp ha
   rw [List.mem_singleton.mp hb]
   exact fun z=>na (List.any_eq_true.mpr ⟨x,hx,by simpa using z⟩)
  ·rw [List.mem_singleton.mp ht];exact ⟨c,rfl⟩
theorem zamo {R:List (List Int)}{s:Nat} (hn : ∀ r ∈ R,∀ x ∈ r,0≤x) (ea:(qx R s).any (· != 0)=true):Col (qx R s):=by
 refine ⟨fun x hx=>?_,?_⟩
 ·rcases qez hx with rfl|⟨r,hr,hx⟩
  ·exact Int.le_refl _
  ·exact hn r hr x hx
 ·obtain ⟨x,hx,z⟩:=List.any_eq_true.mp ea
  exact ⟨x,hx,by simpa using z⟩
theorem qme {R:List (List Int)} (hn : ∀ r ∈ R,∀ x ∈ r,0≤x) : ∀ i,GrsOk R (grs R i)
 | 0=>⟨List.nodup_nil,fun x hx=>(by cases hx),fun x hx=>(by cases hx)⟩
 | i+1=>by
  unfold grs
  split
  ·rename_i ea
   exact (qme hn i).put (zamo hn ea)
  ·exact qme hn i
theorem zaiw {R:List (List Int)} (hn : ∀ r ∈ R,∀ x ∈ r,0≤x) (n:Nat):OrdN (grs R n).length (qau (fun i=>jc R (qeh R n i)) R.length):=by
 have h:=qme hn n
 have at_ : ∀ {i:Nat} (hi:i<(grs R n).length),nrm (jc R (qeh R n i))=(grs R n)[i].1:=fun {i} hi=>by
  have e:qeh R n i=(grs R n)[i].2:=by unfold qeh;rw [List.getElem?_eq_getElem hi];rfl
  have m:=List.getElem_mem hi
  rw [e]
  exact (qxs (h.ne _ m) (h.me _ m)).1
 refine zaan (fun i _=>qtf _ _) fun i j hi hj ne e=>ne ?_
 have z:(grs R n)[i].1=(grs R n)[j].1:=by rw [← at_ hi,← at_ hj];exact congrArg nrm e
 have:=h.ky
 rw [List.nodup_iff_pairwise_ne,List.pairwise_iff_getElem] at this
 rcases Nat.lt_trichotomy i j with q|q|q
 ·exact (this i j (by simpa using hi) (by simpa using hj) q (by simpa using z)).elim
 ·exact q
 ·exact (this j i (by simpa using hj) (by simpa using hi) q (by simpa using z.symm)).elim
def qey (ds:List PyData) (q:PyData→Prop):Prop := ∃ (b:Int) (R:List (List Int)) (n:Nat),ds=[qC b R]∧(Tab b R n∧R≠[]∧R.length≤900∧n≤60∧intBits b≤9000) ∧ ∀ p,PmN (grs R n).length p→SrtN (qau (fun i=>jc R (qeh R n i)) R.length) p (grs R n).length→q (.list (grD (p.toList.map fun i=>qeh R n i)))
theorem zaqm {b:Int}{R:List (List Int)}{n i:Nat} (hT:Tab b R n) (ea:(qx R i).any (· != 0)=true) (bz:intBits b≤9000):0<(qZ 0 (qx R i):Int)∧intBits (qZ 0 (qx R i):Int)≤9000:=by
 obtain ⟨x,hx,z⟩:=List.any_eq_true.mp ea
 have z:x≠0:=by simpa using z
 have dv:=qfg (qx R i) 0 x hx
 have hz:intBits x≤9000:=by
  rcases qez hx with rfl|⟨r,hr,hx⟩
  ·exact (z rfl).elim
  ·exact hT.bits bz hr hx
 have g0:qZ 0 (qx R i)≠0:=fun e=>z (qqi e x hx)
 refine ⟨by omega,intBits_le_of_natAbs ?_ hz⟩
 exact Nat.le_of_dvd (by omega) (Int.natAbs_dvd_natAbs.mpr dv)
def SgW (R:List (List Int)) (vg:V) (d:Addr) (F0 H0 Fi:Hp) (n i m:Nat) (σ:St) (H:Hp):Prop:=m+i=n ∧ ∃ F ks o2 o3 o4,σ=[some vg,some (.ref d),o2,o3,o4]∧Go F0 H0 F H∧Same Fi F∧GrAt H0 F H d ks∧qii ks=grs R i
theorem qap:FnScope ["glass","groups","sign","numbers","alone"] ["glass"] (defScope qU):=⟨rfl,rfl,rfl,by decide +kernel,rfl,by decide +kernel,by decide +kernel⟩
theorem qkh (F:DefT K mg "sorted_groups" qU ["glass"] cs.c0) (T:Txt K mg cs) (KB:K.In base)
 (O_common_divisor:Ok P w K mg base "common_divisor" 2 ["rows"] (PSp K qcm))
 (O_divided:Ok P w K mg base "divided" 1 ["row","common"] (qpz K qif))
 (O_signs:Ok P w K mg base "signs" 1 ["glass"] (PSp K qbr))
 (O_column:Ok P w K mg base "column" 1 ["rows","place"] (FSp K qfc))
 (O_joined_column:Ok P w K mg base "joined_column" 2 ["glass","group"] (FSp K qde))
 : Ok P w K mg base "sorted_groups" 4 ["glass"] (TSp cs.tb K qey):=by
  refine F.ok qap (by rintro vs H Q E ⟨_,F,ds,q,_,_,i,⟨_,_,_,h,_⟩,_⟩;rw [i.len,h];rfl) fun f A outer s H vs Q E hr h=>?_
  obtain ⟨ts,F0,ds,q,ft,sm,hi,⟨b,R,n,rfl,⟨hT,hR,hl,n9,bz⟩,hq⟩,kk⟩:=h
  have ho:=zaiw hT.nn n
  obtain ⟨hu1,hu2,hd2⟩:=hr.sort
  refine ⟨_,qej (qmj (i:=1) qap.nd rfl (by first|exact Or.inl rfl|exact Or.inr rfl) zadr) (qej (zaho PassesOwn.never rfl (VI.pi (qR T.range_ (ql O_signs (hr.mono (by decide)) (qa (qc 0) qd)))) (qzc (i:=2) qap.nd rfl (by first|exact Or.inl rfl|exact Or.inr rfl) (by first|exact .inl rfl|exact .inr rfl)) (qej (qmj (i:=3) qap.nd rfl (by first|exact Or.inl rfl|exact Or.inr rfl) (VE.pe (qM (qgm O_column (hr.mono (by decide)) (qa (qv (qc 0) qe) (qa (qc 2) qd)))))) (qkg (zalq (VT.pt (qar (qt (zaoj rfl) T.any_ L2.boot_any (qa (qc 3) qd)))) (qej (qmj (i:=4) qap.nd rfl (by first|exact Or.inl rfl|exact Or.inr rfl) (VN.pe (zamd O_divided (hr.mono (by decide)) (qa (qc 3) (qa (ql O_common_divisor (hr.mono (by decide)) (qa (qM (qee (qa (qc 3) qd))) qd)) qd))))) (qkg (qjy
   (qqn (qwn hu1 (qbb (i:=1) rfl (by first|exact Or.inl rfl|exact Or.inr (Or.inl rfl)) (by decide) (by decide)) (qbb (i:=4) rfl (by first|exact Or.inl rfl|exact Or.inr (Or.inl rfl)) (by decide) (by decide)) (zahr qbj) ⟨rfl,rfl,rfl,rfl⟩)
    (qbb (i:=2) rfl (by first|exact Or.inl rfl|exact Or.inr (Or.inl rfl)) (by decide) (by decide)))))) qyn))))
   (qkg (qmn (qwa (tb:=cs.tb) (c0:=cs.c0) (ig:=1) (iy:=0) (x := "group") (y := "glass") hu2 hr.hd hd2 ts rfl (zacb KB T.tab_h) (zake KB T.bm_ T.bm_h) rfl T.sorted_ (qbb (i:=1) rfl (by first|exact Or.inl rfl|exact Or.inr (Or.inl rfl)) (by decide) (by decide))
    ⟨rfl,rfl,rfl,rfl,rfl,by decide,by decide +kernel,qqc (by decide +kernel)⟩ rfl rfl rfl rfl (fun _ _ _ _ _ _=>rfl) (fun q f c s H=>qob O_joined_column (hr.lam _) (qN (qbb (i:=1) rfl (Or.inr (Or.inr rfl)) (by decide) (by decide)) (qN (qbb (i:=0) rfl (Or.inl rfl) (by decide) (by decide)) qbj))))))),?_⟩
  obtain ⟨r0,R0,eR⟩:=List.exists_cons_of_ne_nil hR
  have l0:r0.length=n:=hT.len r0 (by rw [eR];simp)
  obtain ⟨vg,rfl,ig⟩:=qjx hi
  refine fun d hd=>?_
  have g0:Go F0 H F0 (upd H d (.dT [])):=Go.side sm hd
  have gr0:GrAt H F0 (upd H d (.dT [])) d []:=⟨qr,qW sm hd,hd,fun x hx=>(by cases hx),fun x hx=>(by cases hx),fun x hx=>(by cases hx),fun x hx=>(by cases hx),List.nodup_nil,List.nodup_nil⟩
  have hE:EnvOk K ⟨upd H d (.dT []),upd H d (.dT []),F0⟩ F0 (upd H d (.dT [])) [.val (qC b R),.non,.non,.non,.non] [some vg,some (.ref d),none,none,none] :=
   qoy g0.fh ⟨_,_,rfl,⟨⟨vg,rfl,ig⟩,rfl⟩,_,_,rfl,⟨trivial,rfl⟩,_,_,rfl,⟨trivial,rfl⟩,_,_,rfl,⟨trivial,rfl⟩,_,_,rfl,⟨trivial,rfl⟩,rfl⟩
  refine ⟨⟨upd H d (.dT []),upd H d (.dT []),F0⟩,_,F0,fun ds e=>ds=qzh 0 n∧e=[.val (qC b R),.non,.non,.non,.non],hE,?_,fun ds J F1 H1 e1 I1 s1 hJ q1=>?_⟩
  ·refine ⟨b,r0,R0,by rw [eR],?_⟩
   rw [l0]
   exact ⟨⟨by omega,by omega⟩,rfl,rfl⟩
  obtain ⟨rfl,rfl⟩:=q1
  have g1:=g0.trans I1.goOf
  refine ⟨SgW R vg d F0 H F1 n,⟨n,by omega,F1,[],none,none,none,rfl,g1,.refl _,gr0.go I1.goOf,rfl⟩,?_⟩
  rintro i m σ H2 ⟨him,F2,ks,o2,o3,o4,rfl,g2,s2,gr,es⟩
  by_cases hin:i=n
  ·left
   subst hin
   refine ⟨by have:=hJ.stop H2 (s2.trans g2.fh);rwa [qA] at this,?_⟩
   clear hJ I1 s1 g1
   have len:ks.length=(grs R i).length:=by rw [← es];unfold qii;rw [List.length_map]
   have lenV:((ks.map qlq).map (·.2)).length=(grs R i).length:=by rw [List.length_map,List.length_map,len]
   have at_ : ∀ {j:Nat}{x:Grp},ks[j]?=some x→qeh R i j=x.2.2:=fun {j x} e=>by
    unfold qeh
    rw [← es]
    unfold qii
    rw [List.getElem?_map,e];rfl
   have inG : ∀ x ∈ ks,x.2.2.length≤i ∧ ∀ s ∈ x.2.2,s<i:=fun x hx=>by
    have z:(x.1,x.2.2) ∈ grs R i:=by rw [← es];exact List.mem_map.mpr ⟨x,hx,rfl⟩
    exact ⟨qmo R i _ z,qmg R i _ z⟩
   have ht0:H cs.tb≠none:=by obtain ⟨ps,e,_⟩:=ts;rw [e];exact fun z=>by cases z
   have ft2:F2 cs.tb=none:=by
    cases e:F2 cs.tb with
    | none=>rfl
    | some o =>
     rcases g2.new _ _ e with z|z
     ·rw [ft] at z;cases z
     ·exact (ht0 z).elim
   have tbl : ∀ x ∈ ks,x.2.1≠cs.tb:=fun x hx z=>ht0 (z ▸ gr.nl x hx)
   refine ⟨d,ks.map qlq,vg,fun j=>jc R (qeh R i j),R.length,⟨rfl,rfl,gr.hd,?_⟩,?_,fun j _=>qtf _ _,fun H3 go=>?_⟩
   ·rw [List.length_map,len]
    have:=qno R i
    omega
   ·rw [lenV];exact ho
   refine ⟨fun H'=>Same F2 H' ∧ ∀ x ∈ ks,H' x.2.1=some (.lst (grL x.2.2)),⟨fun c o e=>?_,fun x hx=>go.h _ _ (tbl x hx) (gr.hl x hx)⟩,fun j v H4 ev gg=>?_,fun p l H4 hp hs sm4 gg nl4 nl2=>?_⟩
   ·exact go.h _ _ (fun z=>by rw [z,ft2] at e;cases e) (g2.fh _ _ e)
   ·obtain ⟨sF,sL⟩:=gg
    rw [List.getElem?_map,List.getElem?_map] at ev
    cases ek:ks[j]? with
    | none=>rw [ek] at ev;cases ev
    | some x =>
     rw [ek] at ev
     cases ev
     have xm:=List.mem_of_getElem? ek
     have hx:=inG x xm
     refine ⟨vg,rfl,_,rfl,FL F2 H4 ks,[qC b R,.list (sgD x.2.2)],fun l=>l=(jc R x.2.2).map .int,FL.fh sF,qB ((ig.mono g2.f).mono (FL.le gr.fl)) (qB (qfh (SqL.of (FL.at xm (sL x xm))) (qyq _)) qS),⟨b,R,_,x.2.2,rfl,⟨hl,rfl,by omega,fun r hr s hs=>by rw [hT.len r hr];exact hx.2 s hs⟩,rfl⟩,?_⟩
     rintro l a xs F5 H5 g5 na fa ha hx5 rfl
     have e5:=hx5.ints_inv
     subst e5
     refine ⟨g5.h,⟨sF.trans g5.h,fun y hy=>g5.h _ _ (sL y hy)⟩,a,rfl,?_⟩
     show H5 a=some (.lst ((jc R (qeh R i j)).map V.int))
     rw [at_ ek];exact ha
   ·obtain ⟨sF,sL⟩:=gg
    have nl0:H l=none:=qW g2.h nl2
    rw [lenV] at hp hs
    have ltb:cs.tb≠l:=fun z=>ht0 (z ▸ nl0)
    have fl0:FL F2 H4 ks l=none:=by
     cases e:FL F2 H4 ks l with
     | none=>rfl
     | some o =>
      have:=FL.fh (ks:=ks) sF l o e
      rw [nl4] at this;cases this
    have key : ∀ js:List Nat,(∀ j ∈ js,j<ks.length) → ∀ ys,Iss K (upd (FL F2 H4 ks) l (.lst ys)) (grD (js.map fun j=>qeh R i j)) (js.map fun j=>((ks.map qlq).map (·.2)).getD j .non):=by
     intro js
     induction js with
     | nil=>intro _ _;exact qS
     | cons j js ih =>
      intro hj ys
      obtain ⟨x,ej⟩ : ∃ x,ks[j]?=some x:=⟨_,List.getElem?_eq_getElem (hj j (by simp))⟩
      have xm:=List.mem_of_getElem? ej
      have e1:((ks.map qlq).map (·.2)).getD j V.non = .ref x.2.1:=by
       rw [List.getD_eq_getElem?_getD,List.getElem?_map,List.getElem?_map,ej];rfl
      have ne:x.2.1≠l:=fun z=>by have:=sL _ xm;rw [z,nl4] at this;cases this
      show Iss K _ (PyData.list (sgD (qeh R i j))::grD (js.map fun j=>qeh R i j)) (((ks.map qlq).map (·.2)).getD j V.non::_)
      rw [e1,at_ ej]
      exact qB (qfh (SqL.of (by rw [qj ne];exact FL.at xm (sL _ xm))) (qyq _)) (ih (fun k hk=>hj k (List.mem_cons_of_mem _ hk)) ys)
    refine kk (.list (grD (p.toList.map fun j=>qeh R i j))) (.ref l) (upd (FL F2 H4 ks) l (.lst (p.toList.map fun j=>((ks.map qlq).map (·.2)).getD j .non))) _ ⟨(g2.f.trans (FL.le gr.fl)).trans (qcx fl0),fun c o n e=>?_,fun c o e=>?_,fun c o e=>?_,(go.ts.same sm4).same (qcx nl4),?_⟩ (qfh (SqL.of qr) (key _ (fun j hj=>?_) _)) (hq p hp hs)
    ·rw [qj fun z=>by rw [z,nl0] at e;cases e]
     exact sm4 _ _ (go.h c o n (g2.h _ _ e))
    ·by_cases z:c=l
     ·subst z;rw [qr] at e;rw [qr];exact e
     ·rw [qj z] at e;rw [qj z];exact FL.fh sF c o e
    ·by_cases z:c=l
     ·rw [z];exact .inr nl0
     ·rw [qj z] at e
      unfold FL at e
      split at e
      ·rename_i zz
       obtain ⟨x,hx,rfl⟩:=List.mem_map.mp zz
       exact .inr (gr.nl x hx)
      ·exact g2.new c o e
    ·rw [qj ltb]
     unfold FL
     rw [if_neg fun zz=>?_]
     ·exact ft2
     ·obtain ⟨x,hx,e⟩:=List.mem_map.mp zz
      exact tbl x hx e
    ·rw [len]
     exact List.mem_range.mp (hp.p.mem_iff.mp hj)
  have hin':i<n:=by omega
  right
  refine ⟨hJ.go i H2 (s2.trans g2.fh) (by rw [qA];exact hin'),fun σ' H' => ∃ m',m'<m∧SgW R vg d F0 H F1 n (i+1) m' σ' H',fun _ _ z=>z,fun x H3 hy=>?_⟩
  obtain ⟨dx,F3,ex,g3,ix⟩:=hJ.yld i H2 x H3 F2 s2 g2.fh (by rw [qA];exact hin') hy
  obtain ⟨_,rfl⟩:=qbq ex
  rw [Int.zero_add] at ix
  obtain rfl:=ix.int_inv
  have gr3:=gr.go g3
  have g23:=g2.trans g3
  have s3:=s2.trans g3.f
  clear g2 g3 gr s2 hy
  have hE:EnvOk K ⟨H3,H3,F3⟩ F3 H3 [.val (qC b R),.non,.val (.int i),.non,.non] [some vg,some (.ref d),some (.int i),o3,o4] :=
   qoy g23.fh ⟨_,_,rfl,⟨⟨vg,rfl,ig.mono g23.f⟩,rfl⟩,_,_,rfl,⟨trivial,rfl⟩,_,_,rfl,⟨⟨_,rfl,qab _⟩,rfl⟩,_,_,rfl,⟨trivial,rfl⟩,_,_,rfl,⟨trivial,rfl⟩,rfl⟩
  refine ⟨⟨H3,H3,F3⟩,_,F3,fun dd e=>dd = .list ((qx R i).map .int)∧e=[.val (qC b R),.non,.val (.int i),.non,.non],hE,?_,fun dd v3 F4 H4 e4 I4 s4 i4 q4=>?_⟩
  ·exact ⟨_,rfl,_,R,i,rfl,⟨qfb _,hl,fun r hr=>by rw [hT.len r hr];exact hin'⟩,rfl,rfl⟩
  obtain ⟨rfl,rfl⟩:=q4
  have g4:=I4.goOf
  have gr4:=gr3.go g4
  have g24:=g23.trans g4
  have s24:=s3.trans g4.f
  clear g23 gr3 s3 hE I4 g4
  have hE:EnvOk K ⟨H4,H4,F4⟩ F4 H4 [.val (qC b R),.non,.val (.int i),.val (.list ((qx R i).map .int)),.non] [some vg,some (.ref d),some (.int i),some v3,o4] :=
   qoy g24.fh ⟨_,_,rfl,⟨⟨vg,rfl,ig.mono g24.f⟩,rfl⟩,_,_,rfl,⟨trivial,rfl⟩,_,_,rfl,⟨⟨_,rfl,qab _⟩,rfl⟩,_,_,rfl,⟨⟨_,rfl,i4⟩,rfl⟩,_,_,rfl,⟨trivial,rfl⟩,rfl⟩
  refine ⟨⟨H4,H4,F4⟩,_,F4,fun bb e=>bb=(qx R i).any (· != 0)∧e=[.val (qC b R),.non,.val (.int i),.val (.list ((qx R i).map .int)),.non],hE,?_,fun bb F5 H5 e5 I5 s5 q5=>?_⟩
  ·exact ⟨_,rfl,rfl,rfl⟩
  obtain ⟨rfl,rfl⟩:=q5
  have g5:=I5.goOf
  have gr5:=gr4.go g5
  have g25:=g24.trans g5
  have s25:=s24.trans g5.f
  have i5:=i4.mono g5.f
  clear g24 gr4 s24 hE I5 g5 i4
  cases ea:(qx R i).any (· != 0) with
  | false =>
   refine ⟨m-1,by omega,by omega,F5,ks,_,_,_,rfl,g25,s25,gr5,?_⟩
   rw [es]
   show _=if (qx R i).any (· != 0)=true then _ else _
   rw [ea];rfl
  | true =>
   obtain ⟨gp,gz⟩:=zaqm hT ea bz
   have hE:EnvOk K ⟨H5,H5,F5⟩ F5 H5 [.val (qC b R),.non,.val (.int i),.val (.list ((qx R i).map .int)),.non] [some vg,some (.ref d),some (.int i),some v3,o4] :=
    qoy g25.fh ⟨_,_,rfl,⟨⟨vg,rfl,ig.mono g25.f⟩,rfl⟩,_,_,rfl,⟨trivial,rfl⟩,_,_,rfl,⟨⟨_,rfl,qab _⟩,rfl⟩,_,_,rfl,⟨⟨_,rfl,i5⟩,rfl⟩,_,_,rfl,⟨trivial,rfl⟩,rfl⟩
   refine ⟨⟨H5,H5,F5⟩,_,F5,fun dd e=>dd=qdn (nrm (qx R i))∧e=[.val (qC b R),.non,.val (.int i),.val (.list ((qx R i).map .int)),.non],hE,?_,fun dd v4 F6 H6 e6 I6 s6 i6 q6=>?_⟩
   ·have eg:qH [qx R i]=qZ 0 (qx R i):=rfl
    refine ⟨by simp [sizeLine_eq],_,[qx R i],rfl,qeg [qx R i],?_⟩
    exact ⟨_,qx R i,_,rfl,⟨rfl,by rw [qki];exact hl,gp,gz⟩,rfl,rfl⟩
   obtain ⟨rfl,rfl⟩:=q6
   have g6:=I6.goOf
   have gr6:=gr5.go g6
   have g26:=g25.trans g6
   unfold qdn IsN at i6
   obtain ⟨b4,xs4,rfl,hb4,hx4⟩:=i6
   have hb4:=qgg _ _ hb4
   have ex4:xs4=(nrm (qx R i)).map V.int:=(IssN.is qgg hx4).ints_inv
   subst ex4
   refine zamk (s:=i) g26 gr6 rfl rfl rfl hb4 ?_ ?_ fun p H' g' gr'=>⟨m-1,by omega,by omega,F6,_,_,_,_,rfl,g',s25.trans g6.f,gr',?_⟩
   ·have:(qii ks).length=ks.length:=by unfold qii;rw [List.length_map]
    have:=qno R i
    rw [← es] at this
    omega
   ·intro x hx
    have:(x.1,x.2.2) ∈ grs R i:=by rw [← es];exact List.mem_map.mpr ⟨x,hx,rfl⟩
    have:=qmo R i _ this
    show x.2.2.length<900
    have:x.2.2.length≤i:=this
    omega
   ·rw [zabc,es]
    show _=if (qx R i).any (· != 0)=true then _ else _
    rw [ea];rfl
def qen (ds:List PyData) (q:PyData→Prop):Prop := ∃ (d:PyData) (r:List Int) (Gs:List (List Nat)),ds=[d,.list (grD Gs)]∧(qan d=some (r.map .int)∧Gs.length≤900 ∧ ∀ G ∈ Gs,G.length≤900 ∧ ∀ i ∈ G,i<r.length)∧q (.list ((Gs.map fun G=>qct r G).map .int))
theorem qis:FnScope ["row","groups"] ["row","groups"] (defScope qbl):=⟨rfl,rfl,rfl,by decide +kernel,rfl,by decide +kernel,by decide +kernel⟩
theorem qir (F:Def K mg "joined_numbers" qbl ["row","groups"]) (T:Txt K mg cs)
 (O_joined_number:Ok P w K mg base "joined_number" 1 ["row","group"] (PSp K qdd))
 : Ok P w K mg base "joined_numbers" 2 ["row","groups"] (PSp K qen):=by
  refine F.vok qis (by rintro ds q ⟨_,_,_,h,_⟩;rw [h];rfl) fun f cdv A outer s H E hr ds q h=>?_
  obtain ⟨d,r,Gs,rfl,⟨e1,hl,hk⟩,h⟩:=h
  refine ⟨_,(qh (qu (qM (qJ (caps:=["row"]) (own:=["group"]) (ix:=[0]) rfl ⟨rfl,rfl,rfl,rfl,rfl,rfl⟩ (qO (qc 1)) (fun _ _ _ _=>(qm (i:=1) (show List.Nodup (["row","group"]:List Str) by decide))) (fun _ _ _ _=>(ql O_joined_number (hr.mono (by decide)) (qa (qc 0) (qa (qc 1) qd)))))))),?_⟩
  refine qz ((Gs.map fun G=>qct r G).map .int) (by simp [grD]) (qk (by simp;omega)) (fun e => ∃ s,e=[.val d,s]) ⟨_,rfl⟩ ?_ h
  rintro i x ys e hx hys ⟨s,rfl⟩
  unfold grD at hx
  rw [List.getElem?_map] at hx
  cases er:Gs[i]? with
  | none=>rw [er] at hx;cases hx
  | some G =>
   rw [er] at hx;cases hx
   refine ⟨_,_,r,G,rfl,⟨e1,rfl,(hk G (qbf er)).1,(hk G (qbf er)).2⟩,qo ?_ hys,_,rfl⟩
   rw [List.getElem?_map,List.getElem?_map,er];rfl
def qbm (Gs:List (List Nat)) (s:Nat):Nat:=(Gs.findIdx? fun G=>G.contains s).getD 0
theorem qxd {Gs:List (List Nat)}{s i:Nat}{G:List Nat} (e:Gs[i]?=some G) (h:s ∈ G) (hI : ∀ j (G':List Nat),j<i→Gs[j]?=some G'→s ∉ G'):qbm Gs s=i:=by
 unfold qbm
 have:Gs.findIdx? (fun G=>G.contains s)=some i:=by
  rw [List.findIdx?_eq_some_iff_getElem]
  obtain ⟨hi,rfl⟩:=List.getElem?_eq_some_iff.mp e
  exact ⟨hi,by simpa using h,fun j hj=>by simpa using hI j _ hj (List.getElem?_eq_getElem (by omega))⟩
 rw [this];rfl
theorem qiu {Gs:List (List Nat)}{s:Nat} (hI : ∀ G ∈ Gs,s ∉ G):qbm Gs s=0:=by
 unfold qbm
 have:Gs.findIdx? (fun G=>G.contains s)=none:=by
  rw [List.findIdx?_eq_none_iff]
  intro G hG;simpa using hI G hG
 rw [this];rfl
def qlo (ds:List PyData) (q:PyData→Prop):Prop := ∃ (s:Nat) (Gs:List (List Nat)),ds=[.int s,.list (grD Gs)]∧q (.int (qbm Gs s:Nat))
theorem qgu:FnScope ["sign","groups","place","group"] ["sign","groups"] (defScope qfn):=⟨rfl,rfl,rfl,by decide +kernel,rfl,by decide +kernel,by decide +kernel⟩
theorem qub (F:Def K mg "place_of" qfn ["sign","groups"]) (T:Txt K mg cs)
 : Ok P w K mg base "place_of" 1 ["sign","groups"] (PSp K qlo):=by
  refine F.vok qgu (by rintro ds q ⟨_,_,h,_⟩;rw [h];rfl) fun f cdv A outer s H E hr ds q h=>?_
  obtain ⟨s,Gs,rfl,h⟩:=h
  refine ⟨_,(qg (qet rfl (zalc T.enumerate_ (qc 1)) (qmf (n:=2) rfl (qbi (qm (i:=2) qgu.nd) (qbi (qm (i:=3) qgu.nd) qhp))) (qh (qat (qaj zali (qc 0) (qc 3)) (qh (qu (qc 2))) qE)))
   (qh (qu qe))),?_⟩
  refine ⟨fun i e => ∃ t1 t2,e=[.val (.int s),.val (.list (grD Gs)),t1,t2] ∧ ∀ j (G:List Nat),j<i→Gs[j]?=some G→s ∉ G,⟨_,_,rfl,fun j y hj=>by omega⟩,?_,?_⟩
  ·rintro i x e hx ⟨t1,t2,rfl,hI⟩
   obtain ⟨x,hx',rfl⟩:=qqd hx
   obtain ⟨G,hG,rfl⟩:=qyi hx'
   refine ⟨rfl,rfl,_,_,rfl,qus G,?_⟩
   cases a:(G.map fun i=>((i:Nat):Int)).any (· == (s:Int)) with
   | true =>
    have hm:=qsv.mp a
    rw [qxd hG hm hI] at h
    exact h
   | false =>
    refine ⟨_,_,rfl,fun j y hj hy=>?_⟩
    by_cases e:j=i
    ·subst e;rw [hG] at hy;cases hy
     exact fun m=>by rw [qsv.mpr m] at a;cases a
    ·exact hI j y (by omega) hy
  ·rintro e ⟨t1,t2,rfl,hI⟩
   rw [qdl,grD,List.length_map] at hI
   rw [qiu fun G hG=>?_] at h
   ·exact h
   ·obtain ⟨j,hj,rfl⟩:=List.mem_iff_getElem.mp hG
    exact hI j _ hj (List.getElem?_eq_getElem hj)
def qie:DC
 | [.int t,.int b],q=>(b≠0∧intBits b≤9000)∧q (dSh (shT t b) (shB t b))
 | _,_=>False
theorem qil:FnScope ["top","bottom","common"] ["top","bottom"] (defScope qhi):=⟨rfl,rfl,rfl,by decide +kernel,rfl,by decide +kernel,by decide +kernel⟩
theorem qwb (F:Def K mg "reduced" qhi ["top","bottom"]) (T:Txt K mg cs)
 (O_divisor:Ok P w K mg base "divisor" 1 ["one","other"] (PSp K qdg))
 : Ok P w K mg base "reduced" 2 ["top","bottom"] (PSp K qie):=by
  refine F.vok qil (fun ds q h=>by unfold qie at h;split at h;all_goals first|rfl|exact h.elim) fun f cdv A outer s H E hr ds q h=>?_
  match ds,h with
  | [.int t,.int b],⟨⟨hb,hz⟩,h⟩ =>
  refine ⟨_,(qg (qy (i:=2) qil.nd (ql O_divisor (hr.mono (by decide)) (qa (qc 0) (qa (qc 1) qd))))
   (qav (qat (qaj o_lt (qc 1) qe) (qh (qy (i:=2) qil.nd (zamf (qc 2)))) qE)
   (qh (qu (qgj (qa (qw zahc (qc 0) (qc 2)) (qa (qw zahc (qc 1) (qc 2)) qd))))))),?_⟩
  have hc:=zalu (t:=t) hb
  have hcz:=zakf (t:=t) hb hz
  refine ⟨fun e=>e=[.val (.int t),.val (.int b),.val (.int (cm t b))],?_,?_⟩
  ·refine qgx (fun hn=>?_) (fun hn=>?_)
   ·show _=_
    unfold cm;rw [if_pos hn];rfl
   ·show _=_
    unfold cm;rw [if_neg hn];rfl
  ·rintro e rfl
   exact ⟨⟨hc,hcz⟩,⟨hc,hcz⟩,szl,h⟩
def qjr:DC
 | [.int t,.int b],q=>(b≠0∧intBits b≤9000)∧q (dSh (shT t b) (shB t b))
 | _,_=>False
theorem zadh:FnScope ["top","bottom"] ["top","bottom"] (defScope qnx):=⟨rfl,rfl,rfl,by decide +kernel,rfl,by decide +kernel,by decide +kernel⟩
theorem zafk (F:Def K mg "share" qnx ["top","bottom"]) (T:Txt K mg cs)
 (O_is_whole:Ok P w K mg base "is_whole" 1 ["thing"] (PSp K qag))
 (O_reduced:Ok P w K mg base "reduced" 2 ["top","bottom"] (PSp K qie))
 : Ok P w K mg base "share" 3 ["top","bottom"] (PSp K qjr):=by
  refine F.vok zadh (fun ds q h=>by unfold qjr at h;split at h;all_goals first|rfl|exact h.elim) fun f cdv A outer s H E hr ds q h=>?_
  match ds,h with
  | [.int t,.int b],h =>
  refine ⟨_,(qg (qat (VW.pt (qgo (qba (qar (ql O_is_whole (hr.mono (by decide)) (qa (qc 0) qd)))) (qgo (qba (qar (ql O_is_whole (hr.mono (by decide)) (qa (qc 1) qd)))) (qff (qaj (qwl hr.units) (qc 1) qe))))) qbh qE)
   (qh (qu (ql O_reduced (hr.mono (by decide)) (qa (qc 0) (qa (qc 1) qd)))))),?_⟩
  exact ⟨rfl,rfl,qpu (fun z=>(h.1.1 z).elim) (fun _=>h)⟩
def qI (R:List (List Int)) (G:List Nat) (k:Nat):Int:=if k ∈ G then (qx R k).sum else 0
def qF (R:List (List Int)) (G:List Nat) (n:Nat):List (Int×Int):=(List.range n).map fun k=>(shT (qI R G k) (jc R G).sum,shB (qI R G k) (jc R G).sum)
def qlf (ds:List PyData) (q:PyData→Prop):Prop := ∃ (b:Int) (R:List (List Int)) (n:Nat) (G:List Nat),ds=[.list (sgD G),qC b R]∧((∀ r ∈ R,r.length=n)∧R≠[]∧R.length≤900∧n≤900∧G.length≤900∧(∀ i ∈ G,i<n)∧(jc R G).sum≠0∧intBits (jc R G).sum≤9000)∧q (.list ((qF R G n).map dS))
theorem qll:FnScope ["group","glass","whole"] ["group","glass"] (defScope qfx):=⟨rfl,rfl,rfl,by decide +kernel,rfl,by decide +kernel,by decide +kernel⟩
theorem qtv (F:Def K mg "parts_of" qfx ["group","glass"]) (T:Txt K mg cs)
 (O_signs:Ok P w K mg base "signs" 1 ["glass"] (PSp K qbr))
 (O_column:Ok P w K mg base "column" 1 ["rows","place"] (FSp K qfc))
 (O_joined_column:Ok P w K mg base "joined_column" 2 ["glass","group"] (FSp K qde))
 (O_share:Ok P w K mg base "share" 3 ["top","bottom"] (PSp K qjr))
 : Ok P w K mg base "parts_of" 4 ["group","glass"] (PSp K qlf):=by
  refine F.vok qll (by rintro ds q ⟨_,_,_,_,h,_⟩;rw [h];rfl) fun f cdv A outer s H E hr ds q h=>?_
  obtain ⟨b,R,n,G,rfl,⟨hn,hR,hl,n9,g9,hG,w0,wz⟩,h⟩:=h
  refine ⟨_,(qg (qy (i:=2) qll.nd (qt (qqa rfl) T.sum_ L2.boot_sum (qa (qM (qgm O_joined_column (hr.mono (by decide)) (qa (qc 1) (qa (qc 0) qd)))) qd)))
   (qh (qu (qM (qJ (caps:=["group","glass","whole"]) (own:=["sign"]) (ix:=[0,1,2]) rfl ⟨rfl,rfl,rfl,rfl,rfl,rfl⟩ (qR T.range_ (ql O_signs (hr.mono (by decide)) (qa (qc 1) qd))) (fun _ _ _ _=>(qm (i:=3) (show List.Nodup (["group","glass","whole","sign"]:List Str) by decide))) (fun _ _ _ _=>(ql O_share (hr.mono (by decide)) (qa (que (qaj zali (qc 3) (qc 0)) (qt (qqa rfl) T.sum_ L2.boot_sum (qa (qM (qgm O_column (hr.mono (by decide)) (qa (qv (qc 1) qe) (qa (qc 3) qd)))) qd)) qe) (qa (qc 2) qd))))))))),?_⟩
  obtain ⟨r0,R0,rfl⟩:=List.exists_cons_of_ne_nil hR
  have l0:r0.length=n:=hn r0 (by simp)
  refine ⟨b,_,_,G,rfl,⟨hl,rfl,g9,fun r hr i hi=>by rw [hn r hr];exact hG i hi⟩,?_⟩
  refine ⟨_,rfl,?_⟩
  refine ⟨b,r0,R0,rfl,?_⟩
  rw [l0]
  refine ⟨⟨by omega,by omega⟩,qz ((qF (r0::R0) G n).map dS) (by simp [qA,qF]) (qk (by simp [qF];omega)) (fun e => ∃ s,e=[.val (.list (sgD G)),.val (qC b (r0::R0)),.val (.int (jc (r0::R0) G).sum),s]) ⟨_,rfl⟩ ?_ h⟩
  rintro i x ys e hx hys ⟨s,rfl⟩
  obtain ⟨hi,rfl⟩:=qbq hx
  rw [Int.zero_add]
  have hi':i<n:=by omega
  have g:((qF (r0::R0) G n).map dS)[i]?=some (dS (shT (qI (r0::R0) G i) (jc (r0::R0) G).sum,shB (qI (r0::R0) G i) (jc (r0::R0) G).sum)):=by
   unfold qF
   rw [List.getElem?_map,List.getElem?_map,List.getElem?_range hi'];rfl
  refine ⟨_,_,rfl,qus G,?_⟩
  cases a:(G.map fun k=>((k:Nat):Int)).any (· == (i:Int)) with
  | true =>
   have hm:=qsv.mp a
   have e:qI (r0::R0) G i=(qx (r0::R0) i).sum:=if_pos hm
   rw [e] at g
   exact ⟨_,rfl,_,_,i,rfl,⟨qfb _,hl,fun r hr=>by rw [hn r hr];exact hi'⟩,_,rfl,⟨w0,wz⟩,qo g hys,_,rfl⟩
  | false =>
   have e:qI (r0::R0) G i=0:=if_neg fun m=>by rw [qsv.mpr m] at a;cases a
   rw [e] at g
   exact ⟨⟨w0,wz⟩,qo g hys,_,rfl⟩
theorem zaas (r:List Int) (G:List Nat) (s:Nat):qct r (G++[s])=qct r G+(r[s]?).getD 0:=by
 unfold qct
 rw [List.map_append,List.sum_append];simp
theorem qyk (r:List Int) (k:List Int) (s:Nat) : ∀ gs:List (List Int×List Nat),(gs.map (·.1)).Nodup→(gs.any fun x=>decide (x.1=k))=true→((gs.map fun x=>if x.1=k then (x.1,x.2++[s]) else x).map fun x=>qct r x.2).sum=(gs.map fun x=>qct r x.2).sum+(r[s]?).getD 0
 | [],_,h=>by cases h
 | x::gs,hn,h=>by
  rw [List.map_cons,List.nodup_cons] at hn
  rw [List.map_cons,List.map_cons,List.sum_cons,List.map_cons,List.sum_cons]
  by_cases e:x.1=k
  ·have rest:gs.map (fun x=>if x.1=k then (x.1,x.2++[s]) else x)=gs.map id:=List.map_congr_left fun y hy=>if_neg fun z=>hn.1 (List.mem_map.mpr ⟨y,hy,by rw [z,e]⟩)
   rw [rest,List.map_id,if_pos e]
   show qct r (x.2++[s])+_=_
   rw [zaas];omega
  ·rw [List.any_cons,decide_eq_false e,Bool.false_or] at h
   rw [qyk r k s gs hn.2 h,if_neg e];omega
theorem zafe {R:List (List Int)}{gs:List (List Int×List Nat)} (h:GrsOk R gs) (r k:List Int) (s:Nat):((qmq gs k s).map fun x=>qct r x.2).sum=(gs.map fun x=>qct r x.2).sum+(r[s]?).getD 0:=by
 unfold qmq
 split
 ·rename_i ha
  exact qyk r k s gs h.ky ha
 ·rw [List.map_append,List.sum_append]
  simp [qct]
theorem zaeq (r:List Int) (i:Nat):(r.take (i+1)).sum=(r.take i).sum+(r[i]?).getD 0:=by
 rw [List.take_add_one,List.sum_append]
 cases r[i]? <;> simp
theorem qyf {R:List (List Int)} (hn : ∀ r ∈ R,∀ x ∈ r,0≤x) {r:List Int} (hr:r ∈ R) : ∀ i,((grs R i).map fun x=>qct r x.2).sum=(r.take i).sum
 | 0=>by simp [grs]
 | i+1=>by
  rw [zaeq,← qyf hn hr i]
  show ((if (qx R i).any (· != 0)=true then qmq (grs R i) (nrm (qx R i)) i else grs R i).map fun x=>qct r x.2).sum=_
  split
  ·exact zafe (qme hn i) r _ i
  ·rename_i ea
   have:(r[i]?).getD 0=0:=Classical.byContradiction fun z=>ea (List.any_eq_true.mpr ⟨_,by unfold qx;exact List.mem_map.mpr ⟨r,hr,rfl⟩,by simpa using z⟩)
   omega
theorem zagn {α:Type}{n:Nat}{p:Array Nat} (h:PmN n p) (f:Nat→α):(p.toList.map f).Perm ((List.range n).map f):=h.p.map f
theorem qrf (R:List (List Int)) (n:Nat):(List.range (grs R n).length).map (fun i=>qeh R n i)=(grs R n).map (·.2):=by
 refine List.ext_getElem? fun i=>?_
 by_cases hi:i<(grs R n).length
 ·rw [List.getElem?_map,List.getElem?_range hi,List.getElem?_map,List.getElem?_eq_getElem hi]
  show some (qeh R n i)=some _
  unfold qeh
  rw [List.getElem?_eq_getElem hi];rfl
 ·rw [List.getElem?_eq_none (by simp;omega),List.getElem?_eq_none (by simp;omega)]
structure GsOk (R:List (List Int)) (n:Nat) (Gs:List (List Nat)):Prop where
 len:Gs.length≤n
 ne : ∀ G ∈ Gs,G≠[]
 le : ∀ G ∈ Gs,G.length≤n
 lt : ∀ G ∈ Gs,∀ s ∈ G,s<n
 co : ∀ G ∈ Gs,Col (jc R G)
 sum : ∀ r ∈ R,r.length=n→(Gs.map fun G=>qct r G).sum=r.sum
theorem zalx {R:List (List Int)} (hn : ∀ r ∈ R,∀ x ∈ r,0≤x) {n:Nat}{p:Array Nat} (hp:PmN (grs R n).length p):GsOk R n (p.toList.map fun i=>qeh R n i):=by
 have pm:=zagn hp fun i=>qeh R n i
 rw [qrf] at pm
 have h:=qme hn n
 have mem : ∀ G ∈ p.toList.map (fun i=>qeh R n i),∃ x ∈ grs R n,x.2=G:=fun G hG=>List.mem_map.mp (pm.mem_iff.mp hG)
 refine ⟨?_,fun G hG=>?_,fun G hG=>?_,fun G hG=>?_,fun G hG=>?_,fun r hr hl=>?_⟩
 ·rw [pm.length_eq,List.length_map];exact qno R n
 ·obtain ⟨x,hx,rfl⟩:=mem G hG
  exact h.ne x hx
 ·obtain ⟨x,hx,rfl⟩:=mem G hG
  exact qmo R n x hx
 ·obtain ⟨x,hx,rfl⟩:=mem G hG
  exact qmg R n x hx
 ·obtain ⟨x,hx,rfl⟩:=mem G hG
  exact (qxs (h.ne x hx) (h.me x hx)).2
 ·rw [zaev (pm.map fun G=>qct r G),List.map_map]
  have e:=qyf hn hr n
  rw [← hl,List.take_length] at e
  rw [← hl]
  exact e
def qmr (Gs:List (List Nat)) (r:List Int):List Int:=Gs.map fun G=>qct r G
def zahu (R:List (List Int)) (n:Nat) (Gs:List (List Nat)):Prop := ∃ p:Array Nat,PmN (grs R n).length p∧SrtN (qau (fun i=>jc R (qeh R n i)) R.length) p (grs R n).length∧Gs=p.toList.map fun i=>qeh R n i
def qtd (b:Int) (R:List (List Int)) (Gs:List (List Nat)):PyData:=qC (b/qH (R.map (qmr Gs))) (qaw (R.map (qmr Gs)) (qH (R.map (qmr Gs))))
def qxz (n:Nat) (Gs:List (List Nat)):PyData:=qC 1 ((List.range n).map fun s=>qeu (qbm Gs s) Gs.length)
def qvq (ds:List PyData) (q:PyData→Prop):Prop := ∃ (b:Int) (R:List (List Int)) (n:Nat),ds=[qC b R]∧(Tab b R n∧R≠[]∧R.length≤12∧1≤n∧n≤12∧b≤100000) ∧ ∀ Gs B,zahu R n Gs→LcmB (Gs.map fun G=>qF R G n) B→q (.tuple [qtd b R Gs,qxz n Gs,qC B ((Gs.map fun G=>qF R G n).map (qcc B))])
theorem qsf {r:List Int} (h : ∀ x ∈ r,0≤x) : ∀ G:List Nat,0≤qct r G
 | []=>by simp [qct]
 | i::G=>by
  have e:qct r (i::G)=(r[i]?).getD 0+qct r G:=by unfold qct;rw [List.map_cons,List.sum_cons]
  have:=qsf h G
  have:0≤(r[i]?).getD 0:=by
   cases q:r[i]? with
   | none=>exact Int.le_refl _
   | some x=>exact h x (List.mem_of_getElem? q)
  omega
theorem jTab {b:Int}{R:List (List Int)}{n:Nat}{Gs:List (List Nat)} (hT:Tab b R n) (g:GsOk R n Gs):Tab b (R.map (qmr Gs)) Gs.length:=by
 refine ⟨hT.pos,fun r hr=>?_,fun r hr x hx=>?_,fun r hr=>?_⟩
 ·obtain ⟨r0,_,rfl⟩:=List.mem_map.mp hr
  unfold qmr;rw [List.length_map]
 ·obtain ⟨r0,h0,rfl⟩:=List.mem_map.mp hr
  obtain ⟨G,_,rfl⟩:=List.mem_map.mp hx
  exact qsf (hT.nn r0 h0) G
 ·obtain ⟨r0,h0,rfl⟩:=List.mem_map.mp hr
  exact (g.sum r0 h0 (hT.len r0 h0)).trans (hT.sum r0 h0)
theorem zagk {b:Int}{R:List (List Int)}{n:Nat}{Gs:List (List Nat)} (hT:Tab b R n) (g:GsOk R n Gs) {G:List Nat} (hG:G ∈ Gs):0<(jc R G).sum∧(jc R G).sum≤b*R.length:=by
 have c:=g.co G hG
 constructor
 ·obtain ⟨x,hx,z⟩:=c.nz
  have:=c.nn x hx
  have:=qei c.nn hx
  omega
 ·have key : ∀ R':List (List Int),(∀ r ∈ R',r ∈ R)→(jc R' G).sum≤b*R'.length:=by
   intro R'
   induction R' with
   | nil=>intro _;simp [jc]
   | cons r R' ih =>
    intro h
    have h1:qct r G≤b:=by
     have hr:=h r (by simp)
     have e:=(g.sum r hr (hT.len r hr)).trans (hT.sum r hr)
     rw [← e]
     exact qei (r:=Gs.map fun G=>qct r G) (fun x hx=>by obtain ⟨G',_,rfl⟩:=List.mem_map.mp hx;exact qsf (hT.nn r hr) G') (List.mem_map.mpr ⟨G,hG,rfl⟩)
    have h2:=ih fun r hr=>h r (List.mem_cons_of_mem _ hr)
    have e:(jc (r::R') G).sum=qct r G+(jc R' G).sum:=by unfold jc;rw [List.map_cons,List.sum_cons];rfl
    rw [e,List.length_cons]
    push_cast
    rw [Int.mul_add,Int.mul_one]
    omega
  exact key R fun r hr=>hr
theorem qyo : ∀ (ws:List Int),(∀ w ∈ ws,0<w∧w≤1200000)→0<ws.foldr (· * ·) 1∧(ws.foldr (· * ·) 1).natAbs≤1200000^ws.length ∧ ∀ w ∈ ws,w∣ws.foldr (· * ·) 1
 | [],_=>⟨by decide,by decide,fun w hw=>by cases hw⟩
 | w::ws,h=>by
  obtain ⟨a1,a2,a3⟩:=qyo ws fun x hx=>h x (List.mem_cons_of_mem _ hx)
  obtain ⟨w0,w1⟩:=h w (by simp)
  rw [List.foldr_cons]
  refine ⟨Int.mul_pos w0 a1,?_,fun x hx=>?_⟩
  ·rw [Int.natAbs_mul,List.length_cons,Nat.pow_succ,Nat.mul_comm]
   exact Nat.mul_le_mul a2 (by omega)
  ·rcases List.mem_cons.mp hx with rfl|z
   ·exact Int.dvd_mul_right _ _
   ·exact Int.dvd_trans (a3 x z) (Int.dvd_mul_left _ _)
theorem zahb {b:Int}{R:List (List Int)}{n:Nat} (hT:Tab b R n) (G:List Nat) (k:Nat):0≤qI R G k∧qI R G k≤b*R.length:=by
 have b0:=hT.pos
 have p:0≤b*(R.length:Int):=Int.mul_nonneg (by omega) (by omega)
 unfold qI
 split
 ·have key : ∀ R':List (List Int),(∀ r ∈ R',r ∈ R)→0≤(qx R' k).sum∧(qx R' k).sum≤b*R'.length:=by
   intro R'
   induction R' with
   | nil=>intro _;simp [qx]
   | cons r R' ih =>
    intro h
    have hr:=h r (by simp)
    have h1:0≤(r[k]?).getD 0∧(r[k]?).getD 0≤b:=by
     cases q:r[k]? with
     | none=>exact ⟨Int.le_refl _,by show (0:Int)≤b;omega⟩
     | some x =>
      have xm:=List.mem_of_getElem? q
      refine ⟨hT.nn r hr x xm,?_⟩
      rw [← hT.sum r hr]
      exact qei (hT.nn r hr) xm
    have h2:=ih fun r hr=>h r (List.mem_cons_of_mem _ hr)
    have e:(qx (r::R') k).sum=(r[k]?).getD 0+(qx R' k).sum:=by unfold qx;rw [List.map_cons,List.sum_cons]
    rw [e,List.length_cons]
    push_cast
    rw [Int.mul_add,Int.mul_one]
    omega
  exact key R fun r hr=>hr
 ·exact ⟨Int.le_refl _,p⟩
theorem qha:FnScope ["glass","groups","form","there","back"] ["glass"] (defScope qny):=⟨rfl,rfl,rfl,by decide +kernel,rfl,by decide +kernel,by decide +kernel⟩
theorem zaee (F:Def K mg "least" qny ["glass"]) (T:Txt K mg cs)
 (O_lowest_table:Ok P w K mg base "lowest_table" 3 ["bottom","rows"] (PSp K qT))
 (O_one_sign:Ok P w K mg base "one_sign" 1 ["place","many"] (PSp K qgr))
 (O_signs:Ok P w K mg base "signs" 1 ["glass"] (PSp K qbr))
 (O_table_of_shares:Ok P w K mg base "table_of_shares" 2 ["rows"] (PSp K qdz))
 (O_sorted_groups:Ok P w K mg base "sorted_groups" 4 ["glass"] (TSp cs.tb K qey))
 (O_joined_numbers:Ok P w K mg base "joined_numbers" 2 ["row","groups"] (PSp K qen))
 (O_place_of:Ok P w K mg base "place_of" 1 ["sign","groups"] (PSp K qlo))
 (O_parts_of:Ok P w K mg base "parts_of" 4 ["group","glass"] (PSp K qlf))
 : Ok P w K mg base "least" 5 ["glass"] (TSp cs.tb K qvq):=by
  refine F.ok qha (by rintro vs H Q E ⟨_,F,ds,q,_,_,i,⟨_,_,_,h,_⟩,_⟩;rw [i.len,h];rfl) fun f cdv A outer s H vs Q E hr h=>?_
  obtain ⟨ts,F0,ds,q,ft,sm,hi,⟨b,R,n,rfl,⟨hT,hR,hl,n1,n9,b9⟩,hq⟩,kk⟩:=h
  have b0:=hT.pos
  have bz:intBits b≤200:=qi (qV (by omega) (by omega)) (by decide)
  refine ⟨_,qej (qmj (i:=1) qha.nd rfl (by first|exact Or.inl rfl|exact Or.inr rfl) (qob O_sorted_groups (hr.mono (by decide)) (qN (qbb (i:=0) rfl (by first|exact Or.inl rfl|exact Or.inr (Or.inl rfl)) (by decide) (by decide)) qbj))) (VSs.pss (qg (qy (i:=2) qha.nd (ql O_lowest_table (hr.mono (by decide)) (qa (qv (qc 0) qe) (qa (qM (qJ (caps:=["groups"]) (own:=["row"]) (ix:=[1]) rfl ⟨rfl,rfl,rfl,rfl,rfl,rfl⟩ (qO (qv (qc 0) qe)) (fun _ _ _ _=>(qm (i:=1) (show List.Nodup (["groups","row"]:List Str) by decide))) (fun _ _ _ _=>(ql O_joined_numbers (hr.mono (by decide)) (qa (qc 1) (qa (qc 0) qd)))))) qd))))
   (qg (qy (i:=3) qha.nd (qgj (qa qe (qa (qas qdc T.tuple_ L2.boot_tuple (qa (qM (qJ (caps:=["groups"]) (own:=["sign"]) (ix:=[1]) rfl ⟨rfl,rfl,rfl,rfl,rfl,rfl⟩ (qR T.range_ (ql O_signs (hr.mono (by decide)) (qa (qc 0) qd))) (fun _ _ _ _=>(qm (i:=1) (show List.Nodup (["groups","sign"]:List Str) by decide))) (fun _ _ _ _=>(ql O_one_sign (hr.mono (by decide)) (qa (ql O_place_of (hr.mono (by decide)) (qa (qc 1) (qa (qc 0) qd))) (qa (qt qcd T.len_ L2.boot_len (qa (qc 0) qd)) qd)))))) qd)) qd))))
   (qg (qy (i:=4) qha.nd (ql O_table_of_shares (hr.mono (by decide)) (qa (qM (qJ (caps:=["glass"]) (own:=["group"]) (ix:=[0]) rfl ⟨rfl,rfl,rfl,rfl,rfl,rfl⟩ (qO (qc 1)) (fun _ _ _ _=>(qm (i:=1) (show List.Nodup (["glass","group"]:List Str) by decide))) (fun _ _ _ _=>(ql O_parts_of (hr.mono (by decide)) (qa (qc 1) (qa (qc 0) qd)))))) qd)))
   (qh (qu (qgj (qa (qc 2) (qa (qc 3) (qa (qc 4) qd)))))))))),?_⟩
  obtain ⟨vg,rfl,ig⟩:=qjx hi
  refine ⟨vg,rfl,ts,F0,[qC b R],fun dd => ∃ Gs,zahu R n Gs∧dd = .list (grD Gs),ft,sm,hi,⟨b,R,n,rfl,⟨hT,hR,by omega,by omega,by omega⟩,fun p hp hs=>⟨_,⟨p,hp,hs,rfl⟩,rfl⟩⟩,?_⟩
  rintro dd v1 F1 H1 go i1 ⟨Gs,hG,rfl⟩
  have hE:EnvOk K ⟨H1,H1,F1⟩ F1 H1 [.val (qC b R),.val (.list (grD Gs)),.non,.non,.non] [some vg,some v1,none,none,none] :=
   qoy go.fh ⟨_,_,rfl,⟨⟨vg,rfl,ig.mono go.f⟩,rfl⟩,_,_,rfl,⟨⟨v1,rfl,i1⟩,rfl⟩,_,_,rfl,⟨trivial,rfl⟩,_,_,rfl,⟨trivial,rfl⟩,_,_,rfl,⟨trivial,rfl⟩,rfl⟩
  refine ⟨⟨H1,H1,F1⟩,_,F1,{ nx:=fun _=>False,rt:=fun r _=>q r.data },hE,?_,⟨fun _ _ _ _ _ _ z=>z.elim,fun r v e2 F2 H2 σ2 I2 s2 r2 q2=>?_,fun _ _ _ _ _ _ z=>z.elim,fun _ _ _ _ _ _ z=>z.elim⟩⟩
  ·obtain ⟨p,hp,hs,eG⟩:=id hG
   have gok:GsOk R n Gs:=by rw [eG];exact zalx hT.nn hp
   have gl:=gok.len
   have tj:=jTab hT gok
   obtain ⟨r0,R0,eR⟩:=List.exists_cons_of_ne_nil hR
   have l0:r0.length=n:=hT.len r0 (by rw [eR];simp)
   refine ⟨_,rfl,_,rfl,qz ((R.map (qmr Gs)).map qgq) (by simp) (qk (by simp;omega)) (fun e => ∃ s,e=[.val (.list (grD Gs)),s]) ⟨_,rfl⟩ ?_ ?_⟩
   ·rintro i x ys e hx hys ⟨s,rfl⟩
    rw [List.getElem?_map] at hx
    cases er:R[i]? with
    | none=>rw [er] at hx;cases hx
    | some r =>
     rw [er] at hx;cases hx
     have rm:=List.mem_of_getElem? er
     refine ⟨_,r,Gs,rfl,⟨rfl,by omega,fun G hG=>⟨by have:=gok.le G hG;omega,fun s hs=>by rw [hT.len r rm];exact gok.lt G hG s hs⟩⟩,qo ?_ hys,_,rfl⟩
     rw [List.getElem?_map,List.getElem?_map,er];rfl
   refine ⟨b,_,R.map (qmr Gs),Gs.length,rfl,⟨qeg _,tj,by simpa using hR,by simp;omega,by omega,by omega⟩,?_⟩
   refine ⟨b,r0,R0,by rw [eR],?_⟩
   rw [l0]
   have lg:(grD Gs).length=Gs.length:=by unfold grD;rw [List.length_map]
   refine ⟨⟨by omega,by omega⟩,qz (((List.range n).map fun s=>qeu (qbm Gs s) Gs.length).map qdn) (by simp [qA]) (qk (by simp;omega)) (fun e => ∃ s,e=[.val (.list (grD Gs)),s]) ⟨_,rfl⟩ ?_ ?_⟩
   ·rintro i x ys e hx hys ⟨s,rfl⟩
    obtain ⟨hi',rfl⟩:=qbq hx
    rw [Int.zero_add]
    have hi2:i<n:=by omega
    refine ⟨i,Gs,rfl,qbm Gs i,Gs.length,by rw [lg],by omega,qo ?_ hys,_,rfl⟩
    rw [List.getElem?_map,List.getElem?_map,List.getElem?_range hi2];rfl
   refine ⟨by rw [sizeLine_eq];simp,?_⟩
   have wb : ∀ G ∈ Gs,0<(jc R G).sum∧(jc R G).sum≤1200000:=fun G hG=>by
    obtain ⟨a1,a2⟩:=zagk hT gok hG
    refine ⟨a1,Int.le_trans a2 ?_⟩
    have:b*R.length≤100000*12:=Int.mul_le_mul b9 (by omega) (by omega) (by omega)
    omega
   refine qz ((Gs.map fun G=>qF R G n).map fun V => .list (V.map dS)) (by simp [grD]) (qk (by simp;omega)) (fun e => ∃ s,e=[.val (qC b R),s]) ⟨_,rfl⟩ ?_ ?_
   ·rintro i x ys e hx hys ⟨s,rfl⟩
    obtain ⟨G,hG,rfl⟩:=qyi hx
    have gm:=List.mem_of_getElem? hG
    obtain ⟨w0,w1⟩:=wb G gm
    refine ⟨b,R,n,G,rfl,⟨hT.len,hR,by omega,by omega,by have:=gok.le G gm;omega,gok.lt G gm,by omega,qi (qV (by omega) (by omega)) (by decide)⟩,qo ?_ hys,_,rfl⟩
    rw [List.getElem?_map,List.getElem?_map,hG];rfl
   obtain ⟨d1,d2,d3⟩:=qyo (Gs.map fun G=>(jc R G).sum) fun w hw=>by
    obtain ⟨G,hG,rfl⟩:=List.mem_map.mp hw
    exact wb G hG
   refine ⟨_,Gs.map fun G=>qF R G n,(Gs.map fun G=>(jc R G).sum).foldr (· * ·) 1,rfl,⟨⟨_,rfl,by simp,fun i x hx=>?_⟩,by simp;omega,fun r hr=>?_,d1,?_⟩,fun B hB=>⟨by rw [sizeLine_eq];simp,hq Gs B hG hB⟩⟩
   ·rw [List.getElem?_map] at hx
    cases e:(Gs.map fun G=>qF R G n)[i]? with
    | none=>rw [e] at hx;cases hx
    | some r=>rw [e] at hx;cases hx;exact ⟨r,rfl,rfl⟩
   ·obtain ⟨G,hG,rfl⟩:=List.mem_map.mp hr
    obtain ⟨w0,w1⟩:=wb G hG
    refine ⟨by simp [qF];omega,fun x hx=>?_⟩
    obtain ⟨k,_,rfl⟩:=List.mem_map.mp hx
    obtain ⟨t0,t1⟩:=zahb hT G k
    have t2:b*R.length≤100000*12:=Int.mul_le_mul b9 (by omega) (by omega) (by omega)
    refine ⟨(qlu (by omega)).1,quy (qi (qV (by omega) (by omega)) (by decide)),Int.dvd_trans ⟨_,((Int.mul_comm _ _).trans (qsb _ _)).symm⟩ (d3 _ (List.mem_map.mpr ⟨G,hG,rfl⟩))⟩
   ·refine intBits_le_of_natAbs (y:=1200000^12) ?_ (by decide)
    refine Nat.le_trans d2 ?_
    rw [List.length_map]
    exact Nat.le_trans (Nat.pow_le_pow_right (by decide) (show Gs.length≤12 by omega)) (by decide)
  ·obtain ⟨F3,g3,i3⟩:=r2.is I2
   exact kk _ v F3 H2 (go.go g3) i3 q2
def penD (h:Int) (ns:List Int) (pos rest cnt:Int):List PyData:=[.int h,.list (ns.map .int),.int pos,.int rest,.int cnt]
def qbt (p:List PyData):Prop := ∃ (h:Int) (ns:List Int) (pos rest cnt:Int),p=penD h ns pos rest cnt∧(h=0∨(h=1∧ns≠[]))∧ns.length≤63∧0≤pos
def qle (ds:List PyData) (q:List PyData→Prop):Prop := ∃ ns:List Int,ds=[.list (ns.map .int)]∧ns.length≤63 ∧ ∀ p,qbt p→q p
theorem qgw:FnScope ["_law_script","_law_head"] ["_law_script"] (defScope qfw):=⟨rfl,rfl,rfl,by decide +kernel,rfl,by decide +kernel,by decide +kernel⟩
theorem qtq (F:Def K mg "_law_pen" qfw ["_law_script"]) (T:Txt K mg cs)
 : Ok P w K mg base "_law_pen" 1 ["_law_script"] (FSp K qle):=by
  refine F.vokF qgw (by rintro ds q ⟨_,h,_⟩;rw [h];rfl) fun f cdv A outer s H E hr ds q h=>?_
  obtain ⟨ns,rfl,hl,h⟩:=h
  refine ⟨_,(qg (qy (i:=1) qgw.nd qe)
   (qav (qat (qaj o_gt (qt qcd T.len_ L2.boot_len (qa (qc 0) qd)) qe) (qh (qy (i:=1) qgw.nd (qv (qc 0) qe))) qE)
   (qh (qkj (qee (qa (qw qig (qc 1) qe) (qa (qc 0) (qa qe (qa (qw qhf (qc 1) qe) (qa qe qd)))))))))),?_⟩
  refine ⟨fun e => ∃ c:Int,e=[.val (.list (ns.map .int)),.val (.int c)]∧(ns=[]→c=0),?_,?_⟩
  ·refine qgx (fun z=>?_) (fun z=>⟨0,rfl,fun _=>rfl⟩)
   have hn:0<ns.length:=by simpa using z
   obtain ⟨n,en⟩:=qom (ns:=ns) (i:=0) (by decide) (by omega)
   refine ⟨_,en,n,rfl,fun z=>?_⟩
   rw [z] at hn;simp at hn
  ·rintro e ⟨c,rfl,hc⟩
   refine ⟨by decide,⟨by decide,by decide⟩,szl,_,rfl,h _ ⟨c%2,ns,0,c/2,0,rfl,?_,hl,by decide⟩⟩
   by_cases hn:ns=[]
   ·left;rw [hc hn];rfl
   ·have:c%2=0∨c%2=1:=by omega
    rcases this with z|z
    ·exact .inl z
    ·exact .inr ⟨z,hn⟩
def qhw (ds0 ds:List PyData) (q:PyData→List PyData→Prop):Prop := ∃ (h:Int) (ns:List Int) (pos rest cnt:Int),ds0=penD h ns pos rest cnt∧ds=[]∧(ns≠[]∧ns.length≤63∧0≤pos) ∧ ∀ x:Int,q (.int x) (penD h ns (pos+1) rest cnt)
theorem qdf:FnScope ["_law_pen_here","_law_cell","_law_number"] ["_law_pen_here"] (defScope qdt):=⟨rfl,rfl,rfl,by decide +kernel,rfl,by decide +kernel,by decide +kernel⟩
theorem qpn (F:Def K mg "_law_mixed" qdt ["_law_pen_here"]) (T:Txt K mg cs)
 : Ok P w K mg base "_law_mixed" 1 ["_law_pen_here"] (NSp K qhw):=by
  refine F.vokP qdf (by rintro ds0 ds q ⟨_,_,_,_,_,_,h,_⟩;rw [h];rfl) (by decide) fun f cdv A outer s H E hr ds0 ds q h=>?_
  obtain ⟨hh,ns,pos,rest,cnt,rfl,rfl,⟨hn,hl,hp⟩,h⟩:=h
  refine ⟨_,(qg (qgn 0 (qw qcz (qci 0 qe) qe) qe)
   (qg (qy (i:=1) qdf.nd (qv (qci 0 qe) (qw qig (qci 0 qe) (qt qcd T.len_ L2.boot_len (qa (qci 0 qe) qd)))))
   (qg (qy (i:=2) qdf.nd (qw qig (qw qY (qw qcz (qw qcz (qw qig (qc 1) qe) (qw qY qe (qci 0 qe))) qe) qe) qe))
   (qg (qy (i:=2) qdf.nd (qw qig (qw qY (qc 2) (qw qcz (qw qcz (qw qig (qc 2) qe) (qci 0 qe)) qe)) qe))
   (qh (qu (qw qhf (qw qig (qw qY (qc 2) qe) qe) qe))))))),?_⟩
  have hn0:0<(((ns.map PyData.int).length:Nat):Int):=by
   have:=List.length_pos_iff.mpr hn
   simp;omega
  have hm0:=Int.emod_nonneg (pos+1) (show (((ns.map PyData.int).length:Nat):Int)≠0 by omega)
  have hm1:=Int.emod_lt_of_pos (pos+1) hn0
  obtain ⟨c,ec⟩:=qom (ns:=ns) (i:=(pos+1)%(((ns.map PyData.int).length:Nat):Int)) hm0 (by simpa using hm1)
  refine ⟨rfl,rfl,_,rfl,rfl,rfl,2,rfl,?_⟩
  refine ⟨rfl,rfl,_,rfl,rfl,rfl,_,rfl,rfl,rfl,_,rfl,hn0,_,ec,?_⟩
  refine ⟨by decide,rfl,rfl,_,rfl,IntMulOk.of_left (by decide),IntMulOk.of_right (by decide),by decide,?_⟩
  have b0:0≤(c%2147483629+40503*(pos+1)+1)*48271%2147483647∧(c%2147483629+40503*(pos+1)+1)*48271%2147483647<2147483647:=⟨Int.emod_nonneg _ (by decide),Int.emod_lt_of_pos _ (by decide)⟩
  refine ⟨by decide,rfl,rfl,_,rfl,IntMulOk.of_left (qV (by omega) (by omega)),by decide,?_⟩
  exact ⟨IntMulOk.of_right (by decide),by decide,⟨by decide,by decide⟩,_,_,rfl,rfl,h _⟩
def qbo (ds0 ds:List PyData) (q:PyData→List PyData→Prop):Prop := ∃ m:Int,ds=[.int m]∧qbt ds0∧(0<m∧intBits m≤9000) ∧ ∀ (x:Int) (p:List PyData),0≤x→x<m→qbt p→q (.int x) p
theorem qiw:FnScope ["_law_pen_here","_law_many","_law_found"] ["_law_pen_here","_law_many"] (defScope qep):=⟨rfl,rfl,rfl,by decide +kernel,rfl,by decide +kernel,by decide +kernel⟩
theorem qrl (F:Def K mg "_law_next" qep ["_law_pen_here","_law_many"]) (T:Txt K mg cs)
 (O__law_mixed:Ok P w K mg base "_law_mixed" 1 ["_law_pen_here"] (NSp K qhw))
 : Ok P w K mg base "_law_next" 2 ["_law_pen_here","_law_many"] (NSp K qbo):=by
  refine F.vokP qiw (by rintro ds0 ds q ⟨_,h,_⟩;rw [h];rfl) (by decide) fun f cdv A outer s H E hr ds0 ds q h=>?_
  obtain ⟨m,rfl,⟨hh,ns,pos,rest,cnt,rfl,h01,hl,hp⟩,⟨m0,mz⟩,h⟩:=h
  refine ⟨_,(qg (qat (qaj (qwl hr.units) (qci 0 qe) qe) (qh (qu (qw qig (qae 0 O__law_mixed (hr.mono (by decide)) qd) (qc 1)))) qE)
   (qav (qat (qaj (qwl hr.units) (qci 0 qe) qe) (qg (qgn 0 (qw qcz (qci 0 qe) qe) qe)
   (qg (qgn 0 qe qe)
   (qav (qat (qaj o_lt (qci 0 qe) (qt qcd T.len_ L2.boot_len (qa (qci 0 qe) qd))) (qh (qgn 0 (qv (qci 0 qe) (qci 0 qe)) qe)) qE)
   (qh (qgn 0 qe qe))))) qE)
   (qg (qgn 0 (qw qcz (qci 0 qe) qe) qe)
   (qg (qy (i:=2) qiw.nd (qw qig (qci 0 qe) (qc 1)))
   (qg (qgn 0 (qw qhf (qci 0 qe) (qc 1)) qe)
   (qh (qu (qc 2)))))))),?_⟩
  refine ⟨rfl,rfl,_,rfl,rfl,rfl,qpu (fun z=>?_) (fun z=>?_)⟩
  ·have hn:ns≠[]:=by
    rcases h01 with q|⟨_,q⟩
    ·omega
    ·exact q
   refine ⟨rfl,rfl,hh,ns,pos,rest,cnt,rfl,rfl,⟨hn,hl,hp⟩,fun x=>⟨m0,_,_,rfl,rfl,h _ _ (Int.emod_nonneg _ (by omega)) (Int.emod_lt_of_pos _ m0) ⟨hh,ns,pos+1,rest,cnt,rfl,h01,hl,by omega⟩⟩⟩
  ·refine ⟨fun e => ∃ pos rest cnt t,e=[.pen (penD hh ns pos rest cnt),.val (.int m),t]∧0≤pos,?_,?_⟩
   ·refine ⟨rfl,rfl,_,rfl,rfl,rfl,qpu (fun _=>?_) (fun _=>⟨pos,rest,cnt,_,rfl,hp⟩)⟩
    refine ⟨rfl,rfl,_,rfl,rfl,rfl,2,rfl,rfl,rfl,3,rfl,?_⟩
    refine ⟨fun e => ∃ rest t,e=[.pen (penD hh ns (pos+1) rest cnt),.val (.int m),t],?_,?_⟩
    ·refine ⟨rfl,rfl,_,rfl,rfl,rfl,_,rfl,qgx (fun hlt=>?_) (fun _=>⟨_,_,rfl⟩)⟩
     obtain ⟨c,ec⟩:=qom (ns:=ns) (i:=pos+1) (by omega) (by simpa using hlt)
     exact ⟨rfl,rfl,_,rfl,rfl,rfl,_,rfl,_,ec,rfl,rfl,3,rfl,_,_,rfl⟩
    ·rintro e ⟨rest,t,rfl⟩
     exact ⟨rfl,rfl,4,rfl,_,_,_,_,rfl,by omega⟩
   ·rintro e ⟨pos,rest,cnt,t,rfl,hp⟩
    refine ⟨rfl,rfl,_,rfl,rfl,rfl,4,rfl,?_⟩
    refine ⟨rfl,rfl,_,rfl,m0,?_⟩
    refine ⟨rfl,rfl,_,rfl,⟨m0,mz⟩,rfl,rfl,3,rfl,?_⟩
    exact ⟨_,_,rfl,rfl,h _ _ (Int.emod_nonneg _ (by omega)) (Int.emod_lt_of_pos _ m0) ⟨hh,ns,pos,_,_,rfl,h01,hl,hp⟩⟩
theorem qur (g:Nat) : ∀ (r:List Int) (h:Nat),qZ (Nat.gcd g h) r=Nat.gcd g (qZ h r)
 | [],h=>rfl
 | n::r,h=>by
  have e:Int.gcd ((Nat.gcd g h:Nat):Int) n=Nat.gcd g (Int.gcd (h:Int) n):=by
   show Nat.gcd (Nat.gcd g h) n.natAbs=Nat.gcd g (Nat.gcd h n.natAbs)
   exact Nat.gcd_assoc g h n.natAbs
  show qZ (Int.gcd ((Nat.gcd g h:Nat):Int) n) r=Nat.gcd g (qZ (Int.gcd (h:Int) n) r)
  rw [e,qur g r]
theorem zadg (g:Nat) (r:List Int):qZ g r=Nat.gcd g (qZ 0 r):=by
 have:=qur g r 0
 rwa [Nat.gcd_zero_right] at this
theorem qqq : ∀ (R:List (List Int)) (g:Nat),qZ g (R.map fun r=>((qZ 0 r:Nat):Int))=R.foldl qZ g
 | [],g=>rfl
 | r::R,g=>by
  show qZ (Int.gcd (g:Int) ((qZ 0 r:Nat):Int)) (R.map fun r=>((qZ 0 r:Nat):Int))=R.foldl qZ (qZ g r)
  rw [zadg g r]
  exact qqq R _
def qdm (ds:List PyData) (q:PyData→Prop):Prop := ∃ (d:PyData) (ns:List Int),ds=[d]∧qan d=some (ns.map .int)∧q (.int (qZ 0 ns:Nat))
theorem qax:FnScope ["_law_numbers","_law_found","_law_number","_law_other"] ["_law_numbers"] (defScope qcr):=⟨rfl,rfl,rfl,by decide +kernel,rfl,by decide +kernel,by decide +kernel⟩
theorem qlx (F:Def K mg "_law_divisor" qcr ["_law_numbers"]) (T:Txt K mg cs)
 : Ok P w K mg base "_law_divisor" 1 ["_law_numbers"] (PSp K qdm):=by
  refine F.vok qax (by rintro ds q ⟨_,_,h,_⟩;rw [h];rfl) fun f cdv A outer s H E hr ds q h=>?_
  obtain ⟨d,ns,rfl,hd,h⟩:=h
  refine ⟨_,(qg (qy (i:=1) qax.nd qe)
   (qg (qet rfl (qO (qc 0)) (qm (i:=2) qax.nd) (qg (qy (i:=3) qax.nd (qt zahw T.abs_ L2.boot_abs (qa (qc 2) qd)))
   (qh (qvh (qaj o_gt (qc 3) qe) (qh (zaml (i:=1) (j:=3) rfl qax.nd (qa (qc 3) (qa (qw qig (qc 1) (qc 3)) qd))))))))
   (qh (qu (qc 1))))),?_⟩
  refine qQ hd ⟨fun i e => ∃ t2 t3,e=[.val d,.val (.int (qZ 0 (ns.take i):Nat)),t2,t3],⟨_,_,rfl⟩,?_,?_⟩
  ·rintro i x e hx ⟨t2,t3,rfl⟩
   obtain ⟨n,rfl,h5,_⟩:=qbu hx
   refine ⟨fun m e => ∃ x y:Int,e=[.val d,.val (.int x),.val (.int n),.val (.int y)]∧0≤x∧0≤y∧Nat.gcd x.toNat y.toNat=qZ 0 (ns.take (i+1))∧m=y.toNat,⟨_,_,_,rfl,by omega,by split <;> omega,?_,rfl⟩,?_⟩
   ·rw [qkv h5,qrg]
    have e1:(if n<0 then -n else n).toNat=n.natAbs:=by split <;> omega
    rw [e1];rfl
   ·rintro m e ⟨x,y,rfl,hx0,hy0,hg,rfl⟩
    refine qgx (fun hgt=>?_) (fun hle=>?_)
    ·obtain ⟨t1,t2,t3⟩:=qvk hx0 hy0 (by omega) hg
     exact ⟨by omega,(x%y).toNat,by omega,y,x%y,rfl,hy0,t1,t3,rfl⟩
    ·have hy:y=0:=by omega
     have:=qzw hx0 hy hg
     exact ⟨_,_,by rw [this]⟩
  ·rintro e ⟨t2,t3,rfl⟩
   rw [List.length_map,List.take_length]
   exact h
def qew (ds:List PyData) (q:PyData→Prop):Prop := ∃ t b:Int,ds=[.int t,.int b]∧(1≤b∧intBits b≤9000)∧q (dSh (shT t b) (shB t b))
theorem zaoi {t b:Int} (h:1≤b):shT t b=t/(Int.gcd t b:Int)∧shB t b=b/(Int.gcd t b:Int):=by
 unfold shT shB cm
 rw [if_neg (by omega)]
 exact ⟨Int.fdiv_eq_ediv_of_nonneg _ (by omega),Int.fdiv_eq_ediv_of_nonneg _ (by omega)⟩
theorem qhq:FnScope ["_law_top","_law_bottom","_law_both"] ["_law_top","_law_bottom"] (defScope qdq):=⟨rfl,rfl,rfl,by decide +kernel,rfl,by decide +kernel,by decide +kernel⟩
theorem qpm (F:Def K mg "_law_share" qdq ["_law_top","_law_bottom"]) (T:Txt K mg cs)
 (O__law_divisor:Ok P w K mg base "_law_divisor" 1 ["_law_numbers"] (PSp K qdm))
 : Ok P w K mg base "_law_share" 2 ["_law_top","_law_bottom"] (PSp K qew):=by
  refine F.vok qhq (by rintro ds q ⟨_,_,h,_⟩;rw [h];rfl) fun f cdv A outer s H E hr ds q h=>?_
  obtain ⟨t,b,rfl,⟨hb,zb⟩,h⟩:=h
  refine ⟨_,(qg (qy (i:=2) qhq.nd (ql O__law_divisor (hr.mono (by decide)) (qa (qM (qee (qa (qc 0) (qa (qc 1) qd)))) qd)))
   (qh (qu (qgj (qa (qw qhf (qc 0) (qc 2)) (qa (qw qhf (qc 1) (qc 2)) qd)))))),?_⟩
  have eg:qZ 0 [t,b]=Int.gcd t b:=by
   show Int.gcd ((Int.gcd ((0:Nat):Int) t:Nat):Int) b=Int.gcd t b
   simp
   show Nat.gcd (Int.natAbs (t.natAbs:Int)) b.natAbs=Nat.gcd t.natAbs b.natAbs
   rw [Int.natAbs_natCast]
  have g0:=qsd (t:=t) (b:=b) (by omega)
  have zg:intBits (Int.gcd t b:Int)≤9000:=by
   refine intBits_le_of_natAbs ?_ zb
   exact Nat.le_of_dvd (by omega) (Nat.gcd_dvd_right t.natAbs b.natAbs)
  refine ⟨szl,_,[t,b],rfl,rfl,?_⟩
  rw [eg]
  obtain ⟨e1,e2⟩:=zaoi (t:=t) hb
  rw [e1,e2] at h
  exact ⟨⟨by omega,zg⟩,⟨by omega,zg⟩,szl,h⟩
def qgb (ds:List PyData) (q:PyData→Prop):Prop := ∃ (b:Int) (R:List (List Int)) (n:Nat),ds=[.int b,qti R]∧(Tab b R n∧R≠[]∧R.length≤900∧n≤900∧intBits b≤9000)∧q (qzx b R)
theorem qca:FnScope ["_law_bottom","_law_rows","_law_both","_law_found","_law_row_here"] ["_law_bottom","_law_rows"] (defScope qcn):=⟨rfl,rfl,rfl,by decide +kernel,rfl,by decide +kernel,by decide +kernel⟩
theorem qmb (F:Def K mg "_law_reduced" qcn ["_law_bottom","_law_rows"]) (T:Txt K mg cs)
 (O__law_divisor:Ok P w K mg base "_law_divisor" 1 ["_law_numbers"] (PSp K qdm))
 : Ok P w K mg base "_law_reduced" 2 ["_law_bottom","_law_rows"] (PSp K qgb):=by
  refine F.vok qca (by rintro ds q ⟨_,_,_,h,_⟩;rw [h];rfl) fun f cdv A outer s H E hr ds q h=>?_
  obtain ⟨b,R,n,rfl,⟨hT,hR,hl,hn,zb⟩,h⟩:=h
  refine ⟨_,(qg (qy (i:=2) qca.nd (ql O__law_divisor (hr.mono (by decide)) (qa (qM (qJ (caps:=[]) (own:=["_law_row_here"]) (ix:=[]) rfl ⟨rfl,rfl,rfl,rfl,rfl,rfl⟩ (qO (qc 1)) (fun _ _ _ _=>(qm (i:=0) (show List.Nodup (["_law_row_here"]:List Str) by decide))) (fun _ _ _ _=>(ql O__law_divisor (hr.mono (by decide)) (qa (qc 0) qd))))) qd)))
   (qg (qgi (i:=3) qca.nd (qee qd))
   (qg (qet rfl (qO (qc 1)) (qm (i:=4) qca.nd) (qh (qfd 3 (qas qdc T.tuple_ L2.boot_tuple (qa (qM (qJ (caps:=["_law_both"]) (own:=["_law_number"]) (ix:=[2]) rfl ⟨rfl,rfl,rfl,rfl,rfl,rfl⟩ (qO (qc 4)) (fun _ _ _ _=>(qm (i:=1) (show List.Nodup (["_law_both","_law_number"]:List Str) by decide))) (fun _ _ _ _=>(qw qhf (qc 1) (qc 0))))) qd)))))
   (qpk 3 (qh (qu (qgj (qa (qw qhf (qc 0) (qc 2)) (qa (qas qdc T.tuple_ L2.boot_tuple (qa (qc 3) qd)) qd))))))))),?_⟩
  have g0:=hT.gpos hR
  have zg:intBits (qH R:Int)≤9000:=by
   refine intBits_le_of_natAbs ?_ zb
   have:=hT.pos
   exact Nat.le_of_dvd (by omega) (Int.natAbs_dvd_natAbs.mpr (hT.gdvd hR))
  show _∧_
  refine qz (ds:=R.map qgq) ((R.map fun r=>((qZ 0 r:Nat):Int)).map .int) (by simp) (qk (by simp;omega)) (fun e => ∃ s,e=[s]) ⟨_,rfl⟩ ?_ ?_
  ·rintro i x ys e hx hys ⟨s,rfl⟩
   obtain ⟨r,hr',rfl⟩:=qdo hx
   refine ⟨_,r,rfl,rfl,qo ?_ hys,_,rfl⟩
   rw [List.getElem?_map,List.getElem?_map,hr'];rfl
  ·refine ⟨_,_,rfl,rfl,?_⟩
   rw [qqq R 0]
   show (fun z=>z) _
   refine ⟨szl,⟨fun i e => ∃ t4 l,e=[.val (.int b),.val (qti R),.val (.int (qH R)),.own l,t4]∧l=((qaw R (qH R)).take i).map qdn,⟨_,_,rfl,rfl⟩,?_,?_⟩⟩
   ·rintro i x e hx ⟨t4,l,rfl,rfl⟩
    obtain ⟨r,hr',rfl⟩:=qdo hx
    have hrl:=hT.len r (qbf hr')
    refine ⟨rfl,?_⟩
    show _∧_
    refine qz ((r.map fun n=>n/(qH R:Int)).map .int) (by simp) (qk (by simp;omega)) (fun e => ∃ s,e=[.val (.int (qH R)),s]) ⟨_,rfl⟩ ?_ ⟨rfl,?_,?_⟩
    ·rintro j y ys e hy hys ⟨s,rfl⟩
     obtain ⟨z,rfl,hz,_⟩:=qbu hy
     refine ⟨⟨by omega,zg⟩,qo ?_ hys,_,rfl⟩
     rw [List.getElem?_map,List.getElem?_map,hz];rfl
    ·show (List.map qdn _).length<_
     rw [List.length_map]
     refine qk (Nat.le_trans (List.length_take_le' _ _) ?_)
     unfold qaw;rw [List.length_map];omega
    ·refine ⟨_,_,rfl,?_⟩
     have e2:(qaw R (qH R))[i]?=some (r.map fun n=>n/(qH R:Int)):=by unfold qaw;rw [List.getElem?_map,hr'];rfl
     rw [List.take_add_one,e2]
     simp only [Option.toList_some,List.map_append,List.map_cons,List.map_nil]
     rfl
   ·rintro e ⟨t4,l,rfl,rfl⟩
    have e3:(R.map qgq).length=(qaw R (qH R)).length:=by simp [qaw]
    rw [e3,List.take_length]
    exact ⟨⟨by omega,zg⟩,szl,h⟩
def qnv (a:Int) (cs:List Int) (b:Int):List Int:=List.zipWith (fun lo hi=>hi-lo) (a::cs) (cs++[b])
theorem qug : ∀ (cs:List Int) (a b:Int),cs.Pairwise (· ≤ ·)→(∀ c ∈ cs,a≤c∧c≤b)→a≤b→(qnv a cs b).length=cs.length+1∧(∀ x ∈ qnv a cs b,0≤x)∧(qnv a cs b).sum=b-a
 | [],a,b,_,_,hab=>by simp [qnv];omega
 | c::cs,a,b,hp,h,hab=>by
  have e:qnv a (c::cs) b=(c-a)::qnv c cs b:=rfl
  obtain ⟨h1,h2⟩:=List.pairwise_cons.mp hp
  obtain ⟨q1,q2⟩:=h c (by simp)
  obtain ⟨i1,i2,i3⟩:=qug cs c b h2 (fun x hx=>⟨h1 x hx,(h x (List.mem_cons_of_mem _ hx)).2⟩) q2
  rw [e]
  refine ⟨by simp [i1],fun x hx=>?_,by rw [List.sum_cons,i3];omega⟩
  rcases List.mem_cons.mp hx with rfl|hx
  ·omega
  ·exact i2 x hx
def qdj (r:List Int) (k s:Int) (at' to:Nat):List Int:=qik ((r.map fun n=>n*k).set at' ((r[at']?).getD 0*s)) to ((r[at']?).getD 0*(k-s))
theorem zajw {α:Type}{l:List α}{k:Nat}{y:α} (h:k≤l.length):(qik l k y).length=l.length+1:=by
 unfold qik
 simp;omega
theorem zaii {l:List Int}{k:Nat}{y:Int}:(qik l k y).sum=l.sum+y:=by
 unfold qik
 have:=congrArg List.sum (List.take_append_drop k l)
 rw [List.sum_append] at this
 rw [List.sum_append,List.sum_cons];omega
theorem zaku {l:List Int}{k:Nat}{x y:Int} (h:x ∈ qik l k y):x ∈ l∨x=y:=by
 unfold qik at h
 rcases List.mem_append.mp h with h|h
 ·exact .inl (List.mem_of_mem_take h)
 ·rcases List.mem_cons.mp h with h|h
  ·exact .inr h
  ·exact .inl (List.mem_of_mem_drop h)
theorem set_sum' : ∀ {r:List Int}{i:Nat}{y:Int},i<r.length→(r.set i y).sum=r.sum-(r[i]?).getD 0+y
 | x::r,0,y,h=>by simp;omega
 | x::r,i+1,y,h=>by
  have h':i<r.length:=by simpa using h
  rw [List.set_cons_succ,List.sum_cons,List.sum_cons,set_sum' h',List.getElem?_cons_succ];omega
theorem qvo (k:Int) : ∀ (r:List Int),(r.map fun x=>x*k).sum=r.sum*k
 | []=>by simp
 | x::r=>by rw [List.map_cons,List.sum_cons,List.sum_cons,qvo k r,Int.add_mul]
theorem zadv {r:List Int}{k s:Int}{a t:Nat} (ha:a<r.length) (ht:t≤r.length) (hr : ∀ x ∈ r,0≤x) (s0:0≤s) (sk:s≤k):(qdj r k s a t).length=r.length+1∧(∀ x ∈ qdj r k s a t,0≤x)∧(qdj r k s a t).sum=r.sum*k:=by
 unfold qdj
 have hl:((r.map fun n=>n*k).set a ((r[a]?).getD 0*s)).length=r.length:=by simp
 have hra:0≤(r[a]?).getD 0:=by rw [List.getElem?_eq_getElem ha];exact hr _ (List.getElem_mem ha)
 refine ⟨by rw [zajw (by omega),hl],fun x hx=>?_,?_⟩
 ·rcases zaku hx with hx|rfl
  ·rcases List.mem_or_eq_of_mem_set hx with hx|rfl
   ·obtain ⟨y,hy,rfl⟩:=List.mem_map.mp hx
    exact Int.mul_nonneg (hr y hy) (by omega)
   ·exact Int.mul_nonneg hra s0
  ·exact Int.mul_nonneg hra (by omega)
 ·rw [zaii,set_sum' (by simpa using ha),qvo,List.getElem?_map,List.getElem?_eq_getElem ha]
  simp only [Option.map_some,Option.getD_some]
  grind
def qln (ds0 ds:List PyData) (q:PyData→List PyData→Prop):Prop := ∃ (wd:Nat) (b:Int),ds=[.int wd,.int b]∧qbt ds0∧(1≤wd∧wd≤60∧1≤b∧b≤999999) ∧ ∀ (r:List Int) (p:List PyData),r.length=wd→(∀ x ∈ r,0≤x)→r.sum=b→qbt p→q (qgq r) p
theorem qld:FnScope ["_law_pen_here","_law_width","_law_bottom","_law_cuts"] ["_law_pen_here","_law_width","_law_bottom"] (defScope qfq):=⟨rfl,rfl,rfl,by decide +kernel,rfl,by decide +kernel,by decide +kernel⟩
theorem qua (F:Def K mg "_law_row" qfq ["_law_pen_here","_law_width","_law_bottom"]) (T:Txt K mg cs)
 (O__law_next:Ok P w K mg base "_law_next" 2 ["_law_pen_here","_law_many"] (NSp K qbo))
 : Ok P w K mg base "_law_row" 3 ["_law_pen_here","_law_width","_law_bottom"] (NSp K qln):=by
  refine F.vokP qld (by rintro ds0 ds q ⟨_,_,h,_⟩;rw [h];rfl) (by decide) fun f cdv A outer s H E hr ds0 ds q h=>?_
  obtain ⟨wd,b,rfl,hP,⟨w1,w2,b1,b2⟩,h⟩:=h
  refine ⟨_,(qg (qy (i:=3) qld.nd (qM (zadq zagb T.sorted_ L2.boot_sorted (qa (qM (qop (caps:=["_law_pen_here","_law_bottom"]) (own:=["_law_k"]) (ix:=[0,2]) (i0:=0) (j0:=0) rfl ⟨rfl,rfl,rfl,rfl,rfl,rfl⟩ (qR T.range_ (qw qjf (qc 1) qe)) (fun _ _ _ _=>(qm (i:=2) (show List.Nodup (["_law_pen_here","_law_bottom","_law_k"]:List Str) by decide))) (fun _ _ _ _=>(qae 0 O__law_next (hr.mono (by decide)) (qa (qw qcz (qc 1) qe) qd))) (qjt rfl))) qd))))
   (qh (qu (qM (qJ (caps:=[]) (own:=["_law_low","_law_high"]) (ix:=[]) rfl ⟨rfl,rfl,rfl,rfl,rfl,rfl⟩ (qnf T.zip_ (qM (qxo (qM (qee (qa qe qd))) (qc 3))) (qM (qxo (qc 3) (qM (qee (qa (qc 2) qd)))))) (fun _ _ _ _=>(qmf (n:=2) rfl (qbi (qm (i:=0) (show List.Nodup (["_law_low","_law_high"]:List Str) by decide)) (qbi (qm (i:=1) (show List.Nodup (["_law_low","_law_high"]:List Str) by decide)) qhp)))) (fun _ _ _ _=>(qw qjf (qc 1) (qc 0)))))))),?_⟩
  refine ⟨⟨by omega,by omega⟩,?_⟩
  refine ⟨qk (by rw [qA];omega),rfl,fun i ys e => ∃ cs:List Int,ys=cs.map .int∧cs.length=i∧(∀ c ∈ cs,0≤c∧c≤b) ∧ ∃ p t,qbt p∧e=[.pen p,.val (.int b),t],⟨[],rfl,rfl,by simp,_,_,hP,rfl⟩,?_,?_⟩
  ·rintro i d ys e hd ⟨cs,rfl,hc1,hc2,p,t,hp,rfl⟩
   refine ⟨rfl,rfl,b+1,rfl,hp,⟨by omega,qi (qV (by omega) (by omega)) (by decide)⟩,fun x p' x0 x1 hp'=>?_⟩
   refine ⟨cs++[x],by simp,by simp [hc1],fun c hc=>?_,p',_,hp',rfl⟩
   rcases List.mem_append.mp hc with hc|hc
   ·exact hc2 c hc
   ·rw [List.mem_singleton.mp hc];omega
  ·rintro ys e ⟨cs,rfl,hc1,hc2,p,t,hp,rfl⟩
   rw [qA] at hc1
   refine ⟨p,rfl,cs,rfl,by omega,fun ns hperm hsort=>?_⟩
   have hn : ∀ c ∈ ns,0≤c∧c≤b:=fun c hc=>hc2 c (hperm.mem_iff.mp hc)
   have hl:=hperm.length_eq
   obtain ⟨d1,d2,d3⟩:=qug ns 0 b hsort hn (by omega)
   refine ⟨szl,?_,szl,?_,?_⟩
   ·simp only [List.length_map,List.length_cons,List.length_nil];exact qjk (by omega)
   ·simp only [List.length_map,List.length_cons,List.length_nil];exact qjk (by omega)
   show _∧_
   have ea:[PyData.int 0]++ns.map PyData.int=(0::ns).map PyData.int:=rfl
   have eb:ns.map PyData.int++[PyData.int b]=(ns++[b]).map PyData.int:=by simp
   rw [ea,eb]
   refine qz ((qnv 0 ns b).map .int) (by simp [qek,d1]) (qk (by rw [List.length_map,d1];omega)) (fun e => ∃ s t,e=[s,t]) ⟨_,_,rfl⟩ ?_ ⟨_,_,rfl,rfl,h _ p (by omega) d2 (by omega) hp⟩
   rintro i x ys e hx hys ⟨s,t,rfl⟩
   obtain ⟨x,y,h3,h4,rfl⟩:=qja hx
   obtain ⟨x,rfl,h5,_⟩:=qbu h3
   obtain ⟨y,rfl,h6,_⟩:=qbu h4
   refine ⟨rfl,rfl,qo ?_ hys,_,_,rfl⟩
   unfold qnv
   rw [List.getElem?_map,List.getElem?_zipWith,h5,h6];rfl
def qht (ds0 ds:List PyData) (q:PyData→List PyData→Prop):Prop := ∃ (b:Int) (R:List (List Int)) (n:Nat),ds=[qti R]∧qbt ds0∧(Tab b R n∧1≤R.length∧R.length≤60∧1≤n∧n≤60∧b≤999999) ∧ ∀ (k:Int) (R':List (List Int)) (p:List PyData),2≤k→k≤4→Tab (b*k) R' (n+1)→R'.length=R.length→qbt p→q (qti R') p
theorem qX:FnScope ["_law_pen_here","_law_rows","_law_at","_law_parts","_law_some","_law_to","_law_found","_law_row_here","_law_wide"] ["_law_pen_here","_law_rows"] (defScope qdr):=⟨rfl,rfl,rfl,by decide +kernel,rfl,by decide +kernel,by decide +kernel⟩
theorem qph (F:Def K mg "_law_split" qdr ["_law_pen_here","_law_rows"]) (T:Txt K mg cs)
 (O__law_next:Ok P w K mg base "_law_next" 2 ["_law_pen_here","_law_many"] (NSp K qbo))
 : Ok P w K mg base "_law_split" 3 ["_law_pen_here","_law_rows"] (NSp K qht):=by
  refine F.vokP qX (by rintro ds0 ds q ⟨_,_,_,h,_⟩;rw [h];rfl) (by decide) fun f cdv A outer s H E hr ds0 ds q h=>?_
  obtain ⟨b,R,n,rfl,hP,⟨hT,r1,r2,n1,n2,hb⟩,h⟩:=h
  refine ⟨_,(qg (qy (i:=2) qX.nd (qae 0 O__law_next (hr.mono (by decide)) (qa (qt qcd T.len_ L2.boot_len (qa (qv (qc 1) qe) qd)) qd)))
   (qg (qy (i:=3) qX.nd (qw qcz qe (qae 0 O__law_next (hr.mono (by decide)) (qa qe qd))))
   (qg (qy (i:=4) qX.nd (qw qcz qe (qae 0 O__law_next (hr.mono (by decide)) (qa (qw qjf (qc 3) qe) qd))))
   (qg (qy (i:=5) qX.nd (qae 0 O__law_next (hr.mono (by decide)) (qa (qw qcz (qt qcd T.len_ L2.boot_len (qa (qv (qc 1) qe) qd)) qe) qd)))
   (qg (qgi (i:=6) qX.nd (qee qd))
   (qg (qet rfl (qO (qc 1)) (qm (i:=7) qX.nd) (qg (zadc (caps:=["_law_parts"]) (own:=["_law_number"]) (ix:=[3]) (i:=8) qX.nd rfl ⟨rfl,rfl,rfl,rfl,rfl,rfl⟩ (qO (qc 7)) (fun _ _ _ _=>(qm (i:=1) (show List.Nodup (["_law_parts","_law_number"]:List Str) by decide))) (fun _ _ _ _=>(qw qY (qc 1) (qc 0))))
   (qg (qgn 8 (qw qY (qv (qc 7) (qc 2)) (qc 4)) (qc 2))
   (qg (zace 8 (qc 5) (qw qY (qv (qc 7) (qc 2)) (qw qjf (qc 3) (qc 4))))
   (qpk 8 (qh (qfd 6 (qc 8))))))))
   (qpk 6 (qh (qu (qc 6)))))))))),?_⟩
  have hRn:R≠[]:=fun z=>by rw [z] at r1;simp at r1
  obtain ⟨r0,R0,eR⟩:=List.exists_cons_of_ne_nil hRn
  have l0:r0.length=n:=hT.len r0 (by rw [eR];simp)
  have aR:atI (R.map qgq) 0=some (qgq r0):=by rw [eR];exact qcy _ _
  have eN:(((r0.map PyData.int).length:Nat):Int)=(n:Int):=by simp [l0]
  have sm : ∀ {z:Int},0<z→z≤1000000→intBits z≤9000:=fun h1 h2=>qi (qV (by omega) (by omega)) (by decide)
  refine ⟨rfl,_,aR,rfl,_,rfl,hP,⟨by omega,sm (by omega) (by omega)⟩,fun xa p1 xa0 xa1 hp1=>?_⟩
  refine ⟨rfl,rfl,3,rfl,hp1,⟨by decide,by decide⟩,fun xk p2 xk0 xk1 hp2=>?_⟩
  refine ⟨rfl,rfl,_,rfl,hp2,⟨by omega,sm (by omega) (by omega)⟩,fun xs p3 xs0 xs1 hp3=>?_⟩
  refine ⟨rfl,_,aR,rfl,_,rfl,hp3,⟨by omega,sm (by omega) (by omega)⟩,fun xt p4 xt0 xt1 hp4=>?_⟩
  obtain ⟨a,rfl⟩:=Int.eq_ofNat_of_zero_le xa0
  obtain ⟨to,rfl⟩:=Int.eq_ofNat_of_zero_le xt0
  have ha:a<n:=by omega
  have hto:to≤n:=by omega
  have hsp : ∀ r ∈ R,(qdj r (2+xk) (1+xs) a to).length=n+1∧(∀ x ∈ qdj r (2+xk) (1+xs) a to,0≤x)∧(qdj r (2+xk) (1+xs) a to).sum=b*(2+xk):=fun r hr=>by
   have e1:=hT.len r hr
   obtain ⟨q1,q2,q3⟩:=zadv (r:=r) (k:=2+xk) (s:=1+xs) (a:=a) (t:=to) (by omega) (by omega) (hT.nn r hr) (by omega) (by omega)
   exact ⟨by omega,q2,by rw [q3,hT.sum r hr]⟩
  have hT':Tab (b*(2+xk)) (R.map fun r=>qdj r (2+xk) (1+xs) a to) (n+1):=by
   have bp:=hT.pos
   refine ⟨?_,fun r hr=>?_,fun r hr=>?_,fun r hr=>?_⟩
   ·have:=Int.mul_pos (show 0<b by omega) (show 0<2+xk by omega);omega
   all_goals (obtain ⟨s',hs',rfl⟩:=List.mem_map.mp hr)
   ·exact (hsp s' hs').1
   ·exact (hsp s' hs').2.1
   ·exact (hsp s' hs').2.2
  refine ⟨szl,⟨fun i e => ∃ t7 t8 l,e=[.pen p4,.val (qti R),.val (.int a),.val (.int (2+xk)),.val (.int (1+xs)),.val (.int to),.own l,t7,t8]∧l=((R.map fun r=>qdj r (2+xk) (1+xs) a to).take i).map qgq,⟨_,_,_,rfl,rfl⟩,?_,?_⟩⟩
  ·rintro i x e hx ⟨t7,t8,l,rfl,rfl⟩
   obtain ⟨r,hr',rfl⟩:=qdo hx
   have hrm:=qbf hr'
   have hrl:=hT.len r hrm
   have bz : ∀ x ∈ r,intBits x≤64:=fun x hx=>by
    have:=hT.le hrm hx
    exact qV (by omega) (by omega)
   show _∧_
   refine ⟨qk (by simp;omega),fun j ys e=>ys=(((r.map fun n=>n*(2+xk)).map PyData.int).take j) ∧ ∃ s,e=[.val (.int (2+xk)),s],⟨by simp,_,rfl⟩,?_,?_⟩
   ·rintro j y ys e hy ⟨hys,s,rfl⟩
    obtain ⟨z,rfl,hz,hzm⟩:=qbu hy
    refine ⟨IntMulOk.of_left (bz z hzm),qo ?_ hys,_,rfl⟩
    rw [List.getElem?_map,List.getElem?_map,hz];rfl
   rintro ys0 e0 ⟨hys0,s0,rfl⟩
   rw [show (r.map PyData.int).length=((r.map fun n=>n*(2+xk)).map PyData.int).length by simp,List.take_length] at hys0
   subst hys0
   have har:a<r.length:=by omega
   have era:=List.getElem?_eq_getElem har
   have zra:=bz _ (List.getElem_mem har)
   have aa:atI (r.map PyData.int) (a:Int)=some (.int r[a]):=qgh (by rw [List.getElem?_map,era];rfl)
   have ix:ixN (((r.map fun n=>n*(2+xk)).map PyData.int)).length (a:Int)=some a:=by
    unfold ixN
    rw [List.length_map,List.length_map,if_pos (by omega),if_pos (by omega)];rfl
   refine ⟨_,aa,IntMulOk.of_left zra,rfl,rfl,a,ix,?_⟩
   refine ⟨rfl,_,aa,IntMulOk.of_left zra,rfl,⟨by omega,?_,?_⟩,?_⟩
   ·show (to:Int)≤(((((r.map fun n=>n*(2+xk)).map PyData.int).set a (.int (r[a]*(1+xs))))).length:Nat)
    simp;omega
   ·show (((r.map fun n=>n*(2+xk)).map PyData.int).set a (.int (r[a]*(1+xs)))).length<_
    exact qk (by simp;omega)
   have es:qik (((r.map fun n=>n*(2+xk)).map PyData.int).set a (.int (r[a]*(1+xs)))) (Int.toNat (to:Int)) (.int (r[a]*(2+xk-(1+xs))))=(qdj r (2+xk) (1+xs) a to).map .int:=by
    unfold qdj qik
    rw [era]
    simp only [Option.getD_some,Int.toNat_natCast,List.map_append,List.map_cons,List.map_take,List.map_drop,List.map_set]
   refine ⟨rfl,rfl,?_,_,_,_,rfl,?_⟩
   ·show (List.map qgq _).length<_
    rw [List.length_map]
    exact qk (Nat.le_trans (List.length_take_le' _ _) (by simp;omega))
   ·have e3:(R.map fun r=>qdj r (2+xk) (1+xs) a to)[i]?=some (qdj r (2+xk) (1+xs) a to):=by rw [List.getElem?_map,hr'];rfl
    rw [List.take_add_one,e3]
    simp only [Option.toList_some,List.map_append,List.map_cons,List.map_nil]
    show List.map qgq _++[PyData.list (qik (((r.map fun n=>n*(2+xk)).map PyData.int).set a (.int (r[a]*(1+xs)))) (Int.toNat (to:Int)) (.int (r[a]*(2+xk-(1+xs)))))]=_
    rw [es];rfl
  ·rintro e ⟨t7,t8,l,rfl,rfl⟩
   have e3:(R.map qgq).length=(R.map fun r=>qdj r (2+xk) (1+xs) a to).length:=by simp
   rw [e3,List.take_length]
   exact ⟨_,_,rfl,rfl,h _ _ p4 (by omega) (by omega) hT' (by simp) hp4⟩
def qhv (ds0 ds:List PyData) (q:PyData→List PyData→Prop):Prop := ∃ (many most far:Int),ds=[.int many,.int most,.int far]∧qbt ds0∧(1≤many∧many≤4∧1≤most∧most≤12∧1≤far∧far≤60) ∧
 ∀ (b:Int) (R:List (List Int)) (n:Nat) (p:List PyData),Gls b R n→b≤9999→R.length=many→1≤n→n≤most→qbt p→q (qC b R) p
theorem qbc:FnScope ["_law_pen_here","_law_many","_law_most","_law_far","_law_width","_law_bottom","_law_rows","_law_time"] ["_law_pen_here","_law_many","_law_most","_law_far"] (defScope qdx):=⟨rfl,rfl,rfl,by decide +kernel,rfl,by decide +kernel,by decide +kernel⟩
theorem qpl (F:Def K mg "_law_table" qdx ["_law_pen_here","_law_many","_law_most","_law_far"]) (T:Txt K mg cs)
 (O__law_next:Ok P w K mg base "_law_next" 2 ["_law_pen_here","_law_many"] (NSp K qbo))
 (O__law_reduced:Ok P w K mg base "_law_reduced" 2 ["_law_bottom","_law_rows"] (PSp K qgb))
 (O__law_row:Ok P w K mg base "_law_row" 3 ["_law_pen_here","_law_width","_law_bottom"] (NSp K qln))
 (O__law_split:Ok P w K mg base "_law_split" 3 ["_law_pen_here","_law_rows"] (NSp K qht))
 : Ok P w K mg base "_law_table" 4 ["_law_pen_here","_law_many","_law_most","_law_far"] (NSp K qhv):=by
  refine F.vokP qbc (by rintro ds0 ds q ⟨_,_,_,h,_⟩;rw [h];rfl) (by decide) fun f cdv A outer s H E hr ds0 ds q h=>?_
  obtain ⟨many,most,far,rfl,hP,⟨m1,m2,o1,o2,f1,f2⟩,h⟩:=h
  refine ⟨_,(qg (qy (i:=4) qbc.nd (qw qcz qe (qae 0 O__law_next (hr.mono (by decide)) (qa (qc 2) qd))))
   (qg (qy (i:=5) qbc.nd (qw qcz qe (qae 0 O__law_next (hr.mono (by decide)) (qa (qc 3) qd))))
   (qg (zaff (caps:=["_law_pen_here","_law_width","_law_bottom"]) (own:=["_law_k"]) (ix:=[0,4,5]) (i0:=0) (j0:=0) (i:=6) qbc.nd rfl ⟨rfl,rfl,rfl,rfl,rfl,rfl⟩ (qR T.range_ (qc 1)) (fun _ _ _ _=>(qm (i:=3) (show List.Nodup (["_law_pen_here","_law_width","_law_bottom","_law_k"]:List Str) by decide))) (fun _ _ _ _=>(qae 0 O__law_row (hr.mono (by decide)) (qa (qc 1) (qa (qc 2) qd)))) (qjt rfl))
   (qg (qet rfl (qR T.range_ (qw qhf (qae 0 O__law_next (hr.mono (by decide)) (qa qe qd)) qe)) (qm (i:=7) qbc.nd) (qh (qat (qaj o_lt (qt qcd T.len_ L2.boot_len (qa (qv (qc 6) qe) qd)) (qc 2)) (qh (qy (i:=6) qbc.nd (qae 0 O__law_split (hr.mono (by decide)) (qa (qc 6) qd)))) qE)))
   (qh (qu (ql O__law_reduced (hr.mono (by decide)) (qa (qt (qqa rfl) T.sum_ L2.boot_sum (qa (qv (qc 6) qe) qd)) (qa (qc 6) qd))))))))),?_⟩
  have sm : ∀ {z:Int},0<z→z≤1000000→intBits z≤9000:=fun h1 h2=>qi (qV (by omega) (by omega)) (by decide)
  refine ⟨rfl,rfl,most,rfl,hP,⟨by omega,sm (by omega) (by omega)⟩,fun xw p1 w0 w1 hp1=>?_⟩
  refine ⟨rfl,rfl,far,rfl,hp1,⟨by omega,sm (by omega) (by omega)⟩,fun xb p2 b0 b1 hp2=>?_⟩
  obtain ⟨wd,ew⟩:=Int.eq_ofNat_of_zero_le (show 0≤1+xw by omega)
  refine ⟨⟨by omega,by omega⟩,qk (by rw [qA];omega),rfl,fun i ys e => ∃ R:List (List Int),ys=R.map qgq∧R.length=i∧Tab (1+xb) R wd ∧ ∃ p t,qbt p∧e=[.pen p,.val (.int (1+xw)),.val (.int (1+xb)),t],⟨[],rfl,rfl,⟨by omega,by simp,by simp,by simp⟩,_,_,hp2,rfl⟩,?_,?_⟩
  ·rintro i d ys e hd ⟨R,rfl,hR,hT,p,t,hp,rfl⟩
   refine ⟨rfl,rfl,wd,1+xb,by rw [← ew],hp,⟨by omega,by omega,by omega,by omega⟩,fun r p' r1 r2 r3 hp'=>?_⟩
   refine ⟨R++[r],by simp,by simp [hR],⟨by omega,?_,?_,?_⟩,p',_,hp',rfl⟩
   ·intro r' hr'
    rcases List.mem_append.mp hr' with h|h
    ·exact hT.len r' h
    ·rw [List.mem_singleton.mp h];exact r1
   ·intro r' hr'
    rcases List.mem_append.mp hr' with h|h
    ·exact hT.nn r' h
    ·rw [List.mem_singleton.mp h];exact r2
   ·intro r' hr'
    rcases List.mem_append.mp hr' with h|h
    ·exact hT.sum r' h
    ·rw [List.mem_singleton.mp h];exact r3
  ·rintro ys e ⟨R,rfl,hR,hT,p3,t,hp3,rfl⟩
   rw [qA] at hR
   refine ⟨p3,rfl,rfl,rfl,6,rfl,hp3,⟨by decide,by decide⟩,fun xt p4 t0 t1 hp4=>?_⟩
   refine ⟨⟨by decide,by decide⟩,⟨by omega,by omega⟩,?_⟩
   refine ⟨fun i e => ∃ (b:Int) (R':List (List Int)) (n:Nat) (p:List PyData) (t:Sl),e=[.pen p,.val (.int many),.val (.int most),.val (.int far),.val (.int (1+xw)),.val (.int (1+xb)),.val (qti R'),t]∧qbt p∧Tab b R' n∧R'.length=R.length∧1≤n∧n≤most∧b≤60*4^i,⟨_,R,wd,_,_,rfl,hp4,hT,rfl,by omega,by omega,by omega⟩,?_,?_⟩
   ·rintro i d e hd ⟨b,R',n,p,t,rfl,hp,hT',hl,n1,n2,hb⟩
    obtain ⟨hi,rfl⟩:=qbq hd
    have hRn:R'≠[]:=fun z=>by rw [z] at hl;simp at hl;omega
    obtain ⟨r0,R0,eR⟩:=List.exists_cons_of_ne_nil hRn
    have l0:r0.length=n:=hT'.len r0 (by rw [eR];simp)
    have aR:atI (R'.map qgq) 0=some (qgq r0):=by rw [eR];exact qcy _ _
    have eN:(((r0.map PyData.int).length:Nat):Int)=(n:Int):=by simp [l0]
    have hi3:i<3:=by omega
    have hb3:b≤999999:=by
     have:i=0∨i=1∨i=2:=by omega
     rcases this with rfl|rfl|rfl <;> omega
    refine ⟨_,aR,qgx (fun hlt=>?_) (fun hge=>?_)⟩
    ·refine ⟨rfl,rfl,b,R',n,rfl,hp,⟨hT',by omega,by omega,n1,by omega,hb3⟩,fun k R2 p' k1 k2 hT2 hl2 hp'=>?_⟩
     refine ⟨b*k,R2,n+1,p',_,rfl,hp',hT2,by omega,by omega,by omega,?_⟩
     have bp:=hT'.pos
     have e1:b*k≤b*4:=Int.mul_le_mul_of_nonneg_left k2 (by omega)
     have:i=0∨i=1∨i=2:=by omega
     rcases this with rfl|rfl|rfl <;> omega
    ·refine ⟨b,R',n,p,_,rfl,hp,hT',hl,n1,n2,?_⟩
     have:i=0∨i=1∨i=2:=by omega
     rcases this with rfl|rfl|rfl <;> omega
   ·rintro e ⟨b,R',n,p,t,rfl,hp,hT',hl,n1,n2,hb⟩
    rw [qA] at hb
    have hRn:R'≠[]:=fun z=>by rw [z] at hl;simp at hl;omega
    obtain ⟨r0,R0,eR⟩:=List.exists_cons_of_ne_nil hRn
    have aR:atI (R'.map qgq) 0=some (qgq r0):=by rw [eR];exact qcy _ _
    have hs0:r0.sum=b:=hT'.sum r0 (by rw [eR];simp)
    have hb3:b≤9999:=by
     have:(xt/2).toNat=0∨(xt/2).toNat=1∨(xt/2).toNat=2:=by omega
     rcases this with z|z|z <;> rw [z] at hb <;> omega
    have bp:=hT'.pos
    have hL:=hT'.gls hRn
    refine ⟨_,aR,r0,rfl,r0.sum,R',n,rfl,⟨by rw [hs0];exact hT',hRn,by omega,by omega,by rw [hs0];exact sm (by omega) (by omega)⟩,?_⟩
    rw [hs0]
    refine ⟨_,_,rfl,rfl,h _ _ n p hL (Int.le_trans (Int.ediv_le_self _ (by omega)) hb3) ?_ n1 n2 hp⟩
    unfold qaw
    rw [List.length_map];omega
structure Pays (Y:List (List Int)) (m a:Nat):Prop where
 m:Y.length=m
 a : ∀ y ∈ Y,y.length=a
 b : ∀ y ∈ Y,∀ x ∈ y,-1000000≤x∧x≤1000000
def qij (Y:List (List Int)):PyData :=.tuple (Y.map qdn)
def qqp (R Y:List (List Int)) (pl:List Int):Int:=((List.range pl.length).map fun s=>qai (qx R s) (qx Y ((pl[s]?).getD 0).toNat)).sum
def inP (xs:List Int) (m:Int):Bool:=xs.all fun x=>decide (0≤x)&&decide (x<m)
structure WorPre (b:Int) (R:List (List Int)) (n:Nat) (Y:List (List Int)) (a:Nat) (s x:Int):Prop where
 t:Tab b R n
 y:Pays Y R.length a
 r:R.length≤900
 s0:0≤s
 s1:s<n
 x0:0≤x
 x1:x<a
 z:intBits b≤4000
theorem zaeh {x:Int} (h : -1000000≤x∧x≤1000000):intBits x≤4000:=qi (qV (by omega) (by omega)) (by decide)
def qga (ds0 ds:List PyData) (q:PyData→List PyData→Prop):Prop := ∃ (many acts:Nat),ds=[.int many,.int acts]∧qbt ds0∧(1≤many∧many≤60∧1≤acts∧acts≤60) ∧ ∀ (Y:List (List Int)) (p:List PyData),Pays Y many acts→qbt p→q (qij Y) p
theorem zagd {x:Int} (h0:1≤x) (h1:x≤3) : ∃ m:Int,atI [PyData.int 3,.int 9,.int 100] (x-1)=some (.int m)∧1≤m∧m≤100:=by
 have:x=1∨x=2∨x=3:=by omega
 rcases this with rfl|rfl|rfl <;> exact ⟨_,rfl,by decide,by decide⟩
theorem qby:FnScope ["_law_pen_here","_law_many","_law_acts","_law_way","_law_found","_law_stand"] ["_law_pen_here","_law_many","_law_acts"] (defScope qcs):=⟨rfl,rfl,rfl,by decide +kernel,rfl,by decide +kernel,by decide +kernel⟩
theorem qls (F:Def K mg "_law_payoffs" qcs ["_law_pen_here","_law_many","_law_acts"]) (T:Txt K mg cs)
 (O__law_next:Ok P w K mg base "_law_next" 2 ["_law_pen_here","_law_many"] (NSp K qbo))
 : Ok P w K mg base "_law_payoffs" 3 ["_law_pen_here","_law_many","_law_acts"] (NSp K qga):=by
  refine F.vokP qby (by rintro ds0 ds q ⟨_,_,h,_⟩;rw [h];rfl) (by decide) fun f cdv A outer s H E hr ds0 ds q h=>?_
  obtain ⟨many,acts,rfl,hP,⟨m1,m2,a1,a2⟩,h⟩:=h
  refine ⟨_,(qg (qy (i:=3) qby.nd (qae 0 O__law_next (hr.mono (by decide)) (qa qe qd)))
   (qg (qgi (i:=4) qby.nd (qee qd))
   (qg (qet rfl (qR T.range_ (qc 1)) (qm (i:=5) qby.nd) (qh (qat (qaj (qwl hr.units) (qc 3) qe) (qh (qfd 4 (qas qdc T.tuple_ L2.boot_tuple (qa (qM (qop (caps:=["_law_pen_here"]) (own:=["_law_act"]) (ix:=[0]) (i0:=0) (j0:=0) rfl ⟨rfl,rfl,rfl,rfl,rfl,rfl⟩ (qR T.range_ (qc 2)) (fun _ _ _ _=>(qm (i:=1) (show List.Nodup (["_law_pen_here","_law_act"]:List Str) by decide))) (fun _ _ _ _=>(qw qjf (qae 0 O__law_next (hr.mono (by decide)) (qa qe qd)) qe)) (qjt rfl))) qd)))) (qh (qfd 4 (qas qdc T.tuple_ L2.boot_tuple (qa (qM (qop (caps:=["_law_pen_here","_law_way"]) (own:=["_law_act"]) (ix:=[0,3]) (i0:=0) (j0:=0) rfl ⟨rfl,rfl,rfl,rfl,rfl,rfl⟩ (qR T.range_ (qc 2)) (fun _ _ _ _=>(qm (i:=2) (show List.Nodup (["_law_pen_here","_law_way","_law_act"]:List Str) by decide))) (fun _ _ _ _=>(qw qjf (qae 0 O__law_next (hr.mono (by decide)) (qa (qv (qM (qee (qa qe (qa qe (qa qe qd))))) (qw qjf (qc 1) qe)) qd)) (qc 1))) (qjt rfl))) qd)))))))
   (qpk 4 (qh (qu (qas qdc T.tuple_ L2.boot_tuple (qa (qc 4) qd)))))))),?_⟩
  refine ⟨rfl,rfl,4,rfl,hP,⟨by decide,by decide⟩,fun xw p1 w0 w1 hp1=>?_⟩
  refine ⟨szl,⟨by omega,by omega⟩,⟨fun i e => ∃ (Y:List (List Int)) (p:List PyData) (t:Sl) (l:List PyData),e=[.pen p,.val (.int many),.val (.int acts),.val (.int xw),.own l,t]∧l=Y.map qdn∧qbt p∧Pays Y i acts,⟨[],_,_,_,rfl,rfl,hp1,⟨rfl,by simp,by simp⟩⟩,?_,?_⟩⟩
  ·rintro i d e hd ⟨Y,p,t,l,rfl,rfl,hp,hY⟩
   obtain ⟨hi,rfl⟩:=qbq hd
   have hi':i<many:=by omega
   have hlen:(Y.map qdn).length<sizeLine:=by rw [List.length_map,hY.m];exact qk (by omega)
   have snoc : ∀ y:List Int,y.length=acts→(∀ x ∈ y,-1000000≤x∧x≤1000000)→Pays (Y++[y]) (i+1) acts:=fun y h1 h2=>by
    refine ⟨by simp [hY.m],fun z hz=>?_,fun z hz=>?_⟩
    ·rcases List.mem_append.mp hz with h|h
     ·exact hY.a z h
     ·rw [List.mem_singleton.mp h];exact h1
    ·rcases List.mem_append.mp hz with h|h
     ·exact hY.b z h
     ·rw [List.mem_singleton.mp h];exact h2
   refine ⟨rfl,rfl,qpu (fun z=>?_) (fun z=>?_)⟩
   ·refine ⟨rfl,⟨by omega,by omega⟩,qk (by rw [qA];omega),rfl,fun j ys e => ∃ y:List Int,ys=y.map .int∧y.length=j∧(∀ x ∈ y,-1000000≤x∧x≤1000000) ∧ ∃ p t,qbt p∧e=[.pen p,t],⟨[],rfl,rfl,by simp,_,_,hp,rfl⟩,?_,?_⟩
    ·rintro j d ys e hd ⟨y,rfl,y1,y2,p,t,hp,rfl⟩
     refine ⟨rfl,rfl,2000001,rfl,hp,⟨by decide,by decide⟩,fun x p' x0 x1 hp'=>?_⟩
     refine ⟨y++[x-1000000],by simp,by simp [y1],fun c hc=>?_,p',_,hp',rfl⟩
     rcases List.mem_append.mp hc with hc|hc
     ·exact y2 c hc
     ·rw [List.mem_singleton.mp hc];omega
    ·rintro ys e ⟨y,rfl,y1,y2,p,t,hp,rfl⟩
     rw [qA] at y1
     refine ⟨p,rfl,rfl,hlen,Y++[y],p,_,_,rfl,by simp [qdn];rfl,hp,snoc y (by omega) y2⟩
   ·have hw1:1≤xw:=by omega
    obtain ⟨m,em,mm1,mm2⟩:=zagd hw1 (by omega)
    refine ⟨rfl,⟨by omega,by omega⟩,qk (by rw [qA];omega),rfl,fun j ys e => ∃ y:List Int,ys=y.map .int∧y.length=j∧(∀ x ∈ y,-1000000≤x∧x≤1000000) ∧ ∃ p t,qbt p∧e=[.pen p,.val (.int xw),t],⟨[],rfl,rfl,by simp,_,_,hp,rfl⟩,?_,?_⟩
    ·rintro j d ys e hd ⟨y,rfl,y1,y2,p,t,hp,rfl⟩
     refine ⟨rfl,szl,_,em,rfl,m,rfl,hp,⟨by omega,qi (qV (by omega) (by omega)) (by decide)⟩,fun x p' x0 x1 hp'=>?_⟩
     refine ⟨y++[x-xw],by simp,by simp [y1],fun c hc=>?_,p',_,hp',rfl⟩
     rcases List.mem_append.mp hc with hc|hc
     ·exact y2 c hc
     ·rw [List.mem_singleton.mp hc];omega
    ·rintro ys e ⟨y,rfl,y1,y2,p,t,hp,rfl⟩
     rw [qA] at y1
     refine ⟨p,rfl,rfl,hlen,Y++[y],p,_,_,rfl,by simp [qdn];rfl,hp,snoc y (by omega) y2⟩
  ·rintro e ⟨Y,p,t,l,rfl,rfl,hp,hY⟩
   rw [qA] at hY
   exact ⟨_,_,rfl,rfl,h Y p (by simpa using hY) hp⟩
def qdb (ds:List PyData) (q:PyData→Prop):Prop := ∃ b R Y,ds=[qC b R,qij Y]∧Y.length=R.length∧q .none
theorem qkd:FnScope ["glass","payoffs"] ["glass","payoffs"] (defScope qbw):=⟨rfl,rfl,rfl,by decide +kernel,rfl,by decide +kernel,by decide +kernel⟩
theorem qkf (F:Def K mg "check_payoffs" qbw ["glass","payoffs"]) (T:Txt K mg cs)
 (O_stands:Ok P w K mg base "stands" 1 ["glass"] (PSp K qkp))
 : Ok P w K mg base "check_payoffs" 2 ["glass","payoffs"] (PSp K qdb):=by
  refine F.vok qkd (by rintro ds q ⟨_,_,_,h,_⟩;rw [h];rfl) fun f cdv A outer s H E hr ds q h=>?_
  obtain ⟨b,R,Y,rfl,hl,h⟩:=h
  refine ⟨_,(qh (qat (qaj (qzg hr.units) (qt qcd T.len_ L2.boot_len (qa (qc 1) qd)) (ql O_stands (hr.mono (by decide)) (qa (qc 0) qd))) qbh qE)),?_⟩
  refine ⟨b,R,rfl,rfl,rfl,qpr (fun z=>?_) (fun _=>h)⟩
  exfalso;apply z;simp [hl]
def qnk (ds:List PyData) (q:PyData→Prop):Prop := ∃ (pl:List Int) (m a:Int),ds=[.tuple (pl.map .int),.int m,.int a]∧(pl.length≤900∧pl.length=m∧inP pl a=true)∧q (.bool true)
theorem qxe:FnScope ["plan","many","acts"] ["plan","many","acts"] (defScope qhm):=⟨rfl,rfl,rfl,by decide +kernel,rfl,by decide +kernel,by decide +kernel⟩
theorem qwp (F:Def K mg "is_plan" qhm ["plan","many","acts"]) (T:Txt K mg cs)
 (O_is_whole:Ok P w K mg base "is_whole" 1 ["thing"] (PSp K qag))
 : Ok P w K mg base "is_plan" 2 ["plan","many","acts"] (PSp K qnk):=by
  refine F.vok qxe (by rintro ds q ⟨_,_,_,h,_⟩;rw [h];rfl) fun f cdv A outer s H E hr ds q h=>?_
  obtain ⟨pl,m,a,rfl,⟨hl,hm,hi⟩,h⟩:=h
  refine ⟨_,(qg (qat (VW.pt (qgo (qba (qar (qtb T.isinstance_ T.tuple_ L2.boot_tuple (qc 0)))) (qff (qaj (qzg hr.units) (qt qcd T.len_ L2.boot_len (qa (qc 0) qd)) (qc 1))))) (qh (qu qin)) qE)
   (qh (qu (qt (zacl rfl) T.all_ L2.boot_all (qa (qM (qJ (caps:=["acts"]) (own:=["act"]) (ix:=[2]) rfl ⟨rfl,rfl,rfl,rfl,rfl,rfl⟩ (qO (qc 0)) (fun _ _ _ _=>(qm (i:=1) (show List.Nodup (["acts","act"]:List Str) by decide))) (fun _ _ _ _=>(qmh (ql O_is_whole (hr.mono (by decide)) (qa (qc 1) qd)) (qmk (qup qvs o_lt qe (qc 1) (qc 0))))))) qd))))),?_⟩
  refine ⟨rfl,rfl,qpr (fun z=>?_) (fun _=>?_)⟩
  ·exfalso;apply z;simp [hm]
  show _∧_
  refine qz (pl.map fun x=>PyData.bool (decide (0≤x)&&decide (x<a))) (by simp) (qk (by simp;omega)) (fun e => ∃ s,e=[.val (.int a),s]) ⟨_,rfl⟩ ?_ ?_
  ·rintro i x ys e hx hys ⟨s,rfl⟩
   obtain ⟨x,rfl,hx,hxm⟩:=qbu hx
   refine qgx (fun h0=>?_) (fun h0=>?_)
   ·refine ⟨qo ?_ hys,_,rfl⟩
    rw [List.getElem?_map,hx]
    simp [h0]
   ·refine ⟨qo ?_ hys,_,rfl⟩
    rw [List.getElem?_map,hx]
    simp [h0]
  ·refine ⟨pl.map fun x=>decide (0≤x)&&decide (x<a),by rw [List.map_map];rfl,?_⟩
   have e:((pl.map fun x=>decide (0≤x)&&decide (x<a)).all id)=inP pl a:=by rw [List.all_map];rfl
   rw [e,hi]
   exact h
def qoq (ds:List PyData) (q:PyData→Prop):Prop := ∃ b R n Y a s x,ds=[qC b R,qij Y,.int s,.int x]∧WorPre b R n Y a s x∧q (.int (qai (qx R s.toNat) (qx Y x.toNat)))
theorem zadk:FnScope ["glass","payoffs","sign","act"] ["glass","payoffs","sign","act"] (defScope qnr):=⟨rfl,rfl,rfl,by decide +kernel,rfl,by decide +kernel,by decide +kernel⟩
theorem zagi (F:Def K mg "worth" qnr ["glass","payoffs","sign","act"]) (T:Txt K mg cs)
 (O_column:Ok P w K mg base "column" 1 ["rows","place"] (FSp K qfc))
 (O_paired:Ok P w K mg base "paired" 1 ["one","other"] (PSp K qkn))
 : Ok P w K mg base "worth" 2 ["glass","payoffs","sign","act"] (PSp K qoq):=by
  refine F.vok zadk (by rintro ds q ⟨_,_,_,_,_,_,_,h,_⟩;rw [h];rfl) fun f cdv A outer s H E hr ds q h=>?_
  obtain ⟨b,R,n,Y,a,s,x,rfl,hw,h⟩:=h
  refine ⟨_,(qh (qu (ql O_paired (hr.mono (by decide)) (qa (qM (qgm O_column (hr.mono (by decide)) (qa (qv (qc 0) qe) (qa (qc 2) qd)))) (qa (qM (qgm O_column (hr.mono (by decide)) (qa (qc 1) (qa (qc 3) qd)))) qd))))),?_⟩
  obtain ⟨s',rfl⟩:=Int.eq_ofNat_of_zero_le hw.s0
  obtain ⟨x',rfl⟩:=Int.eq_ofNat_of_zero_le hw.x0
  have hs1:=hw.s1
  have hx1:=hw.x1
  have hr1:=hw.r
  have hy:=hw.y.m
  refine ⟨_,rfl,_,R,s',rfl,⟨qfb _,hr1,fun r hr=>by rw [hw.t.len r hr];omega⟩,_,Y,x',rfl,⟨qfb _,by omega,fun y hy=>by rw [hw.y.a y hy];omega⟩,_,_,_,_,rfl,⟨rfl,rfl,by rw [qki];omega,fun z hz=>?_,fun z hz=>?_⟩,h⟩
  ·rcases qez hz with rfl|⟨r,hr,hz⟩
   ·decide
   ·exact hw.t.bits hw.z hr hz
  ·rcases qez hz with rfl|⟨y,hy,hz⟩
   ·decide
   ·exact zaeh (hw.y.b y hy z hz)
structure GainPre (b:Int) (R:List (List Int)) (n:Nat) (Y:List (List Int)) (a:Nat) (pl:List Int):Prop where
 t:Tab b R n
 y:Pays Y R.length a
 r1:1≤R.length
 r:R.length≤900
 n2:n≤900
 l:pl.length=n
 p:inP pl a=true
 z:intBits b≤4000
def qyw (ds:List PyData) (q:PyData→Prop):Prop := ∃ b R n Y a pl,ds=[qC b R,qij Y,.tuple (pl.map .int)]∧GainPre b R n Y a pl∧q (dSh (shT (qqp R Y pl) b) (shB (qqp R Y pl) b))
theorem qxw:FnScope ["glass","payoffs","plan","worths"] ["glass","payoffs","plan"] (defScope qtc):=⟨rfl,rfl,rfl,by decide +kernel,rfl,by decide +kernel,by decide +kernel⟩
theorem zajr (F:Def K mg "gain" qtc ["glass","payoffs","plan"]) (T:Txt K mg cs)
 (O_signs:Ok P w K mg base "signs" 1 ["glass"] (PSp K qbr))
 (O_share:Ok P w K mg base "share" 3 ["top","bottom"] (PSp K qjr))
 (O_check_payoffs:Ok P w K mg base "check_payoffs" 2 ["glass","payoffs"] (PSp K qdb))
 (O_is_plan:Ok P w K mg base "is_plan" 2 ["plan","many","acts"] (PSp K qnk))
 (O_worth:Ok P w K mg base "worth" 2 ["glass","payoffs","sign","act"] (PSp K qoq))
 : Ok P w K mg base "gain" 4 ["glass","payoffs","plan"] (PSp K qyw):=by
  refine F.vok qxw (by rintro ds q ⟨_,_,_,_,_,_,h,_⟩;rw [h];rfl) fun f cdv A outer s H E hr ds q h=>?_
  obtain ⟨b,R,n,Y,a,pl,rfl,hg,h⟩:=h
  refine ⟨_,(qg (qex (ql O_check_payoffs (hr.mono (by decide)) (qa (qc 0) (qa (qc 1) qd))))
   (qg (qat (qba (qar (ql O_is_plan (hr.mono (by decide)) (qa (qc 2) (qa (ql O_signs (hr.mono (by decide)) (qa (qc 0) qd)) (qa (qt qcd T.len_ L2.boot_len (qa (qv (qc 1) qe) qd)) qd)))))) qbh qE)
   (qg (qnc (caps:=["glass","payoffs"]) (own:=["sign","act"]) (ix:=[0,1]) (i:=3) qxw.nd rfl ⟨rfl,rfl,rfl,rfl,rfl,rfl⟩ (zafb T.enumerate_ (qc 2)) (fun _ _ _ _=>(qmf (n:=2) rfl (qbi (qm (i:=2) (show List.Nodup (["glass","payoffs","sign","act"]:List Str) by decide)) (qbi (qm (i:=3) (show List.Nodup (["glass","payoffs","sign","act"]:List Str) by decide)) qhp)))) (fun _ _ _ _=>(ql O_worth (hr.mono (by decide)) (qa (qc 0) (qa (qc 1) (qa (qc 2) (qa (qc 3) qd)))))))
   (qh (qu (ql O_share (hr.mono (by decide)) (qa (qt (qqa rfl) T.sum_ L2.boot_sum (qa (qc 3) qd)) (qa (qv (qc 0) qe) qd)))))))),?_⟩
  have r1:=hg.r1
  have hn2:=hg.n2
  have hl:=hg.l
  have hRn:R≠[]:=fun z=>by rw [z] at r1;simp at r1
  have hYn:Y≠[]:=fun z=>by have:=hg.y.m;rw [z] at this;simp at this;omega
  obtain ⟨r0,R0,eR⟩:=List.exists_cons_of_ne_nil hRn
  obtain ⟨y0,Y0,eY⟩:=List.exists_cons_of_ne_nil hYn
  have l1:r0.length=n:=hg.t.len r0 (by rw [eR];simp)
  have l2:y0.length=a:=hg.y.a y0 (by rw [eY];simp)
  have aY:atI (Y.map qdn) 0=some (qdn y0):=by rw [eY];exact qcy _ _
  refine ⟨b,R,Y,rfl,hg.y.m,b,r0,R0,by rw [eR],_,aY,pl,_,_,rfl,⟨by omega,by omega,by simp [l2];exact hg.p⟩,?_⟩
  show _∧_
  refine qz (((List.range pl.length).map fun s=>qai (qx R s) (qx Y ((pl[s]?).getD 0).toNat)).map .int) (by simp [qdl]) (qk (by simp;omega)) (fun e => ∃ s t,e=[.val (qC b R),.val (qij Y),s,t]) ⟨_,_,rfl⟩ ?_ ?_
  ·rintro i d ys e hd hys ⟨s,t,rfl⟩
   obtain ⟨x,hx,rfl⟩:=qqd hd
   obtain ⟨x,rfl,h5,hxm⟩:=qbu hx
   have hi:i<pl.length:=(List.getElem?_eq_some_iff.mp h5).1
   have hb:=List.all_eq_true.mp hg.p x hxm
   have hb':0≤x∧x<a:=by simpa using hb
   refine ⟨rfl,rfl,b,R,n,Y,a,i,x,rfl,⟨hg.t,hg.y,hg.r,by omega,by omega,hb'.1,hb'.2,hg.z⟩,qo ?_ hys,_,_,rfl⟩
   rw [List.getElem?_map,List.getElem?_map,List.getElem?_range hi,Int.toNat_natCast]
   simp [h5]
  ·have bp:=hg.t.pos
   refine ⟨_,rfl,_,rfl,⟨by omega,qi hg.z (by decide)⟩,h⟩
def fbA (w:List Int):Nat:=w.findIdx fun v=>w.all fun x=>decide (x≤v)
structure FB (w:List Int) (j:Nat) (v:Int):Prop where
 g:w[j]?=some v
 m : ∀ x ∈ w,x≤v
 l : ∀ m,m<j → ∀ u,w[m]?=some u→u<v
theorem zacu : ∀ {w:List Int},w≠[] → ∃ v ∈ w,∀ x ∈ w,x≤v
 | [],h=>absurd rfl h
 | [a],_=>⟨a,by simp,by simp⟩
 | a::b::w,_=>by
  obtain ⟨v,hv,hm⟩:=zacu (w:=b::w) (by simp)
  by_cases h:a≤v
  ·exact ⟨v,List.mem_cons_of_mem _ hv,fun x hx=>by
    rcases List.mem_cons.mp hx with rfl|hx
    ·exact h
    ·exact hm x hx⟩
  ·exact ⟨a,by simp,fun x hx=>by
    rcases List.mem_cons.mp hx with rfl|hx
    ·omega
    ·have:=hm x hx;omega⟩
theorem zahz {w:List Int}{v:Int} (hv:v ∈ w) (hm : ∀ x ∈ w,x≤v):FB w (fbA w) v:=by
 have hp:(w.all fun x=>decide (x≤v))=true:=List.all_eq_true.mpr fun x hx=>by simpa using hm x hx
 have hl:fbA w<w.length:=List.findIdx_lt_length_of_exists ⟨v,hv,hp⟩
 have hq:(w.all fun x=>decide (x≤w[fbA w]))=true:=List.findIdx_getElem (w:=hl)
 have e:w[fbA w]=v:=by
  have a1:=List.all_eq_true.mp hq v hv
  have a2:=hm _ (List.getElem_mem hl)
  simp at a1;omega
 refine ⟨by rw [List.getElem?_eq_getElem hl,e],hm,fun m h u hu=>?_⟩
 obtain ⟨h2,e2⟩:=List.getElem?_eq_some_iff.mp hu
 have n1:(w.all fun x=>decide (x≤w[m]))=false:=by
  have:=List.not_of_lt_findIdx (p:=fun v=>w.all fun x=>decide (x≤v)) h
  simpa using this
 have n2:=hm _ (List.getElem_mem h2)
 have n3:w[m]≠v:=fun z=>by rw [z,hp] at n1;cases n1
 rw [← e2];omega
theorem zalz {w:List Int} (h:w≠[]) : ∃ v,FB w (fbA w) v:=by
 obtain ⟨v,hv,hm⟩:=zacu h
 exact ⟨v,zahz hv hm⟩
theorem zacq {w:List Int} (h:w≠[]):fbA w<w.length:=by
 obtain ⟨v,hv⟩:=zalz h
 exact (List.getElem?_eq_some_iff.mp hv.g).1
def wk (R Y:List (List Int)) (a s:Nat):List Int:=(List.range a).map fun x=>qai (qx R s) (qx Y x)
theorem qiz (R Y:List (List Int)) (a s:Nat):(wk R Y a s).length=a:=by simp [wk]
theorem qnn {R Y:List (List Int)}{a:Nat} (s:Nat) (h:1≤a):wk R Y a s≠[]:=fun z=>by
 have:=qiz R Y a s
 rw [z] at this;simp at this;omega
def plB (R Y:List (List Int)) (a n:Nat):List Int:=(List.range n).map fun s=>((fbA (wk R Y a s):Nat):Int)
theorem qka (R Y:List (List Int)) (a n:Nat):(plB R Y a n).length=n:=by simp [plB]
theorem zaov {R Y:List (List Int)}{a n:Nat} (h:1≤a):inP (plB R Y a n) a=true:=by
 rw [inP,List.all_eq_true]
 intro x hx
 obtain ⟨s,_,rfl⟩:=List.mem_map.mp hx
 have:=zacq (qnn (R:=R) (Y:=Y) s h)
 rw [qiz] at this
 simp;omega
theorem zahf {R Y:List (List Int)}{a s j:Nat} (h:j<a):(wk R Y a s)[j]?=some (qai (qx R s) (qx Y j)):=by
 rw [wk,List.getElem?_map,List.getElem?_range h];rfl
theorem zaiz (R Y:List (List Int)) (a n:Nat):qqp R Y (plB R Y a n)=((List.range n).map fun s=>qai (qx R s) (qx Y (fbA (wk R Y a s)))).sum:=by
 unfold qqp
 rw [qka]
 refine congrArg List.sum (List.map_congr_left fun s hs=>?_)
 have h:=List.mem_range.mp hs
 simp [plB,List.getElem?_range h]
structure FbPre (b:Int) (R:List (List Int)) (n:Nat) (Y:List (List Int)) (a:Nat):Prop where
 t:Tab b R n
 y:Pays Y R.length a
 r1:1≤R.length
 r:R.length≤900
 n2:n≤900
 a1:1≤a
 a2:a≤900
 z:intBits b≤4000
def qel (ds:List PyData) (q:PyData→Prop):Prop := ∃ b R n Y a,∃ s:Nat,ds=[qC b R,qij Y,.int (s:Nat)]∧(FbPre b R n Y a∧s<n)∧q (.int (fbA (wk R Y a s):Nat))
theorem qem:FnScope ["glass","payoffs","sign","worths"] ["glass","payoffs","sign"] (defScope qbk):=⟨rfl,rfl,rfl,by decide +kernel,rfl,by decide +kernel,by decide +kernel⟩
theorem qiq (F:Def K mg "first_best_act" qbk ["glass","payoffs","sign"]) (T:Txt K mg cs)
 (O_worth:Ok P w K mg base "worth" 2 ["glass","payoffs","sign","act"] (PSp K qoq))
 : Ok P w K mg base "first_best_act" 3 ["glass","payoffs","sign"] (PSp K qel):=by
  refine F.vok qem (by rintro ds q ⟨_,_,_,_,_,_,h,_⟩;rw [h];rfl) fun f cdv A outer s H E hr ds q h=>?_
  obtain ⟨b,R,n,Y,a,s,rfl,⟨hg,hs⟩,h⟩:=h
  refine ⟨_,(qg (qnc (caps:=["glass","payoffs","sign"]) (own:=["act"]) (ix:=[0,1,2]) (i:=3) qem.nd rfl ⟨rfl,rfl,rfl,rfl,rfl,rfl⟩ (qR T.range_ (qt qcd T.len_ L2.boot_len (qa (qv (qc 1) qe) qd))) (fun _ _ _ _=>(qm (i:=3) (show List.Nodup (["glass","payoffs","sign","act"]:List Str) by decide))) (fun _ _ _ _=>(ql O_worth (hr.mono (by decide)) (qa (qc 0) (qa (qc 1) (qa (qc 2) (qa (qc 3) qd)))))))
   (qh (qu (zacd 3 (qt (zamn rfl) T.max_ L2.boot_max (qa (qc 3) qd)))))),?_⟩
  have r1:=hg.r1
  have ha1:=hg.a1
  have ha2:=hg.a2
  have hYn:Y≠[]:=fun z=>by have:=hg.y.m;rw [z] at this;simp at this;omega
  obtain ⟨y0,Y0,eY⟩:=List.exists_cons_of_ne_nil hYn
  have l2:y0.length=a:=hg.y.a y0 (by rw [eY];simp)
  have aY:atI (Y.map qdn) 0=some (qdn y0):=by rw [eY];exact qcy _ _
  refine ⟨_,aY,⟨by omega,by simp;omega⟩,?_⟩
  show _∧_
  refine qz ((wk R Y a s).map .int) (by simp [qA,qiz];omega) (qk (by simp [qiz];omega)) (fun e => ∃ u,e=[.val (qC b R),.val (qij Y),.val (.int (s:Nat)),u]) ⟨_,rfl⟩ ?_ ?_
  ·rintro i d ys e hd hys ⟨u,rfl⟩
   obtain ⟨hi,rfl⟩:=qbq hd
   rw [Int.zero_add]
   have hi2:i<a:=by simp at hi;omega
   refine ⟨b,R,n,Y,a,s,i,rfl,⟨hg.t,hg.y,hg.r,by omega,by omega,by omega,by omega,hg.z⟩,qo ?_ hys,_,rfl⟩
   rw [List.getElem?_map,zahf hi2];rfl
  ·refine ⟨_,rfl,_,rfl,qnn s ha1,fun M h1 h2=>?_⟩
   have hf:=zahz h1 h2
   refine ⟨_,_,fbA (wk R Y a s),rfl,rfl,hf.g,fun m hm z=>?_,h⟩
   have:=hf.l m hm _ z
   omega
def qyy (ds:List PyData) (q:PyData→Prop):Prop := ∃ b R n Y a,ds=[qC b R,qij Y]∧FbPre b R n Y a∧q (.tuple [dSh (shT (qqp R Y (plB R Y a n)) b) (shB (qqp R Y (plB R Y a n)) b),.tuple ((plB R Y a n).map .int)])
theorem qzu:FnScope ["glass","payoffs","plan"] ["glass","payoffs"] (defScope qsy):=⟨rfl,rfl,rfl,by decide +kernel,rfl,by decide +kernel,by decide +kernel⟩
theorem zalb (F:Def K mg "best" qsy ["glass","payoffs"]) (T:Txt K mg cs)
 (O_signs:Ok P w K mg base "signs" 1 ["glass"] (PSp K qbr))
 (O_check_payoffs:Ok P w K mg base "check_payoffs" 2 ["glass","payoffs"] (PSp K qdb))
 (O_gain:Ok P w K mg base "gain" 4 ["glass","payoffs","plan"] (PSp K qyw))
 (O_first_best_act:Ok P w K mg base "first_best_act" 3 ["glass","payoffs","sign"] (PSp K qel))
 : Ok P w K mg base "best" 5 ["glass","payoffs"] (PSp K qyy):=by
  refine F.vok qzu (by rintro ds q ⟨_,_,_,_,_,h,_⟩;rw [h];rfl) fun f cdv A outer s H E hr ds q h=>?_
  obtain ⟨b,R,n,Y,a,rfl,hg,h⟩:=h
  refine ⟨_,(qg (qex (ql O_check_payoffs (hr.mono (by decide)) (qa (qc 0) (qa (qc 1) qd))))
   (qg (qy (i:=2) qzu.nd (qas qdc T.tuple_ L2.boot_tuple (qa (qM (qJ (caps:=["glass","payoffs"]) (own:=["sign"]) (ix:=[0,1]) rfl ⟨rfl,rfl,rfl,rfl,rfl,rfl⟩ (qR T.range_ (ql O_signs (hr.mono (by decide)) (qa (qc 0) qd))) (fun _ _ _ _=>(qm (i:=2) (show List.Nodup (["glass","payoffs","sign"]:List Str) by decide))) (fun _ _ _ _=>(ql O_first_best_act (hr.mono (by decide)) (qa (qc 0) (qa (qc 1) (qa (qc 2) qd))))))) qd)))
   (qh (qu (qgj (qa (ql O_gain (hr.mono (by decide)) (qa (qc 0) (qa (qc 1) (qa (qc 2) qd)))) (qa (qc 2) qd))))))),?_⟩
  have r1:=hg.r1
  have hn2:=hg.n2
  have hRn:R≠[]:=fun z=>by rw [z] at r1;simp at r1
  obtain ⟨r0,R0,eR⟩:=List.exists_cons_of_ne_nil hRn
  have l1:r0.length=n:=hg.t.len r0 (by rw [eR];simp)
  refine ⟨b,R,Y,rfl,hg.y.m,b,r0,R0,by rw [eR],⟨by omega,by omega⟩,?_⟩
  show _∧_
  refine qz ((plB R Y a n).map .int) (by simp [qA,qka];omega) (qk (by simp [qka];omega)) (fun e => ∃ s,e=[.val (qC b R),.val (qij Y),s]) ⟨_,rfl⟩ ?_ ?_
  ·rintro i d ys e hd hys ⟨s,rfl⟩
   obtain ⟨hi,rfl⟩:=qbq hd
   rw [Int.zero_add]
   have hi2:i<n:=by omega
   refine ⟨b,R,n,Y,a,i,rfl,⟨hg,hi2⟩,qo ?_ hys,_,rfl⟩
   rw [List.getElem?_map,plB,List.getElem?_map,List.getElem?_range hi2];rfl
  ·exact ⟨b,R,n,Y,a,plB R Y a n,rfl,⟨hg.t,hg.y,hg.r1,hg.r,hg.n2,qka _ _ _ _,zaov hg.a1,hg.z⟩,szl,h⟩
def qhs (ds:List PyData) (q:PyData→Prop):Prop := ∃ b R n Y a,ds=[qC b R,qij Y]∧FbPre b R n Y a∧q (dSh (shT (qqp R Y (plB R Y a n)) b) (shB (qqp R Y (plB R Y a n)) b))
theorem qpq:FnScope ["_law_glass","_law_payoffs_here"] ["_law_glass","_law_payoffs_here"] (defScope qdu):=⟨rfl,rfl,rfl,by decide +kernel,rfl,by decide +kernel,by decide +kernel⟩
theorem qpp (F:Def K mg "_law_gains" qdu ["_law_glass","_law_payoffs_here"]) (T:Txt K mg cs)
 (O_best:Ok P w K mg base "best" 5 ["glass","payoffs"] (PSp K qyy))
 : Ok P w K mg base "_law_gains" 6 ["_law_glass","_law_payoffs_here"] (PSp K qhs):=by
  refine F.vok qpq (by rintro ds q ⟨_,_,_,_,_,h,_⟩;rw [h];rfl) fun f cdv A outer s H E hr ds q h=>?_
  obtain ⟨b,R,n,Y,a,rfl,hg,h⟩:=h
  refine ⟨_,(qh (qu (qv (ql O_best (hr.mono (by decide)) (qa (qc 0) (qa (qc 1) qd))) qe))),?_⟩
  exact ⟨b,R,n,Y,a,rfl,hg,_,rfl,h⟩
def qev (ds:List PyData) (q:PyData→Prop):Prop := ∃ p1 q1 p2 q2:Int,ds=[dSh p1 q1,dSh p2 q2]∧(intBits p1≤4000∧intBits q1≤4000∧intBits p2≤4000∧intBits q2≤4000)∧q (.bool (decide (p1*q2>p2*q1)))
theorem qps:FnScope ["_law_one","_law_other"] ["_law_one","_law_other"] (defScope qdp):=⟨rfl,rfl,rfl,by decide +kernel,rfl,by decide +kernel,by decide +kernel⟩
theorem qpw (F:Def K mg "_law_above" qdp ["_law_one","_law_other"]) (T:Txt K mg cs)
 : Ok P w K mg base "_law_above" 1 ["_law_one","_law_other"] (PSp K qev):=by
  refine F.vok qps (by rintro ds q ⟨_,_,_,_,h,_⟩;rw [h];rfl) fun f cdv A outer s H E hr ds q h=>?_
  obtain ⟨p1,q1,p2,q2,rfl,⟨z1,z2,z3,z4⟩,h⟩:=h
  refine ⟨_,(qh (qu (qml o_gt (qw qY (qv (qc 0) qe) (qv (qc 1) qe)) (qw qY (qv (qc 1) qe) (qv (qc 0) qe))))),?_⟩
  exact ⟨_,rfl,_,rfl,qdw z1 z4,_,rfl,_,rfl,qdw z3 z2,h⟩
def qsz (a c p1 q1 p2 q2:Int):Int:=a*p1*q2+(c-a)*p2*q1
def qea (ds:List PyData) (q:PyData→Prop):Prop := ∃ a c p1 q1 p2 q2:Int,ds=[dSh a c,dSh p1 q1,dSh p2 q2]∧(intBits a≤4000∧intBits p1≤4000∧intBits (a*p1)≤4000∧intBits q2≤4000∧intBits (c-a)≤4000∧intBits p2≤4000∧intBits ((c-a)*p2)≤4000∧intBits q1≤4000∧intBits c≤4000∧intBits (c*q1)≤4000∧1≤c*q1*q2∧intBits (c*q1*q2)≤9000)∧q (dSh (shT (qsz a c p1 q1 p2 q2) (c*q1*q2)) (shB (qsz a c p1 q1 p2 q2) (c*q1*q2)))
theorem qdy:FnScope ["_law_part","_law_one","_law_other","_law_top"] ["_law_part","_law_one","_law_other"] (defScope qbd):=⟨rfl,rfl,rfl,by decide +kernel,rfl,by decide +kernel,by decide +kernel⟩
theorem qib (F:Def K mg "_law_mixed_gain" qbd ["_law_part","_law_one","_law_other"]) (T:Txt K mg cs)
 (O__law_share:Ok P w K mg base "_law_share" 2 ["_law_top","_law_bottom"] (PSp K qew))
 : Ok P w K mg base "_law_mixed_gain" 3 ["_law_part","_law_one","_law_other"] (PSp K qea):=by
  refine F.vok qdy (by rintro ds q ⟨_,_,_,_,_,_,h,_⟩;rw [h];rfl) fun f cdv A outer s H E hr ds q h=>?_
  obtain ⟨a,c,p1,q1,p2,q2,rfl,⟨z1,z2,z3,z4,z5,z6,z7,z8,z9,z10,z11,z12⟩,h⟩:=h
  refine ⟨_,(qg (qy (i:=3) qdy.nd (qw qcz (qw qY (qw qY (qv (qc 0) qe) (qv (qc 1) qe)) (qv (qc 2) qe)) (qw qY (qw qY (qw qjf (qv (qc 0) qe) (qv (qc 0) qe)) (qv (qc 2) qe)) (qv (qc 1) qe))))
   (qh (qu (ql O__law_share (hr.mono (by decide)) (qa (qc 3) (qa (qw qY (qw qY (qv (qc 0) qe) (qv (qc 1) qe)) (qv (qc 2) qe)) qd)))))),?_⟩
  exact ⟨_,rfl,_,rfl,qdw z1 z2,_,rfl,qdw z3 z4,_,rfl,_,rfl,_,rfl,qdw z5 z6,_,rfl,qdw z7 z8,_,rfl,_,rfl,qdw z9 z8,_,rfl,qdw z10 z4,_,_,rfl,⟨z11,z12⟩,h⟩
section
variable {b:Int}{R:List (List Int)}{m:Nat}{c:Int}{S:List (List Int)}{n:Nat}{B:Int}{D:List (List Int)}
theorem qda {T:List (List Int)}{i j:Nat}{r:List Int}{x:Int} (h:T[i]?=some r) (k:r[j]?=some x):at2 T i j=x:=by
 unfold at2
 rw [h]
 show (r[j]?).getD 0=x
 rw [k];rfl
theorem zanl {T:List (List Int)} (h : ∀ r ∈ T,∀ x ∈ r,0≤x) (i j:Nat):0≤at2 T i j:=by
 unfold at2
 cases e:T[i]? with
 | none=>exact Int.le_refl _
 | some r =>
  show 0≤(r[j]?).getD 0
  cases e':r[j]? with
  | none=>exact Int.le_refl _
  | some x=>exact h r (List.mem_of_getElem? e) x (List.mem_of_getElem? e')
theorem zaej {r:List Int}{T:List (List Int)}{i:Nat} (h:T[i]?=some r):(qL r.length fun j=>at2 T i j)=r.sum:=by
 have e1:(List.range r.length).map (fun j=>at2 T i j)=r:=by
  refine List.ext_getElem? fun j=>?_
  rw [List.getElem?_map]
  by_cases hj:j<r.length
  ·rw [List.getElem?_range hj,List.getElem?_eq_getElem hj]
   show some (at2 T i j)=_
   rw [qda h (List.getElem?_eq_getElem hj)]
  ·rw [List.getElem?_eq_none (l:=r) (by omega),List.getElem?_eq_none (by simp;omega)];rfl
 have e2:=qbs (fun j=>at2 T i j) r.length
 rw [e1] at e2
 exact e2.symm
theorem Tab.rs {T:List (List Int)} (h:Tab B T n) {i:Nat} (hi:i<T.length):(qL n fun j=>at2 T i j)=B:=by
 have e:T[i]?=some T[i]:=List.getElem?_eq_getElem hi
 rw [← h.len _ (List.getElem_mem hi),zaej e,h.sum _ (List.getElem_mem hi)]
def mkT (m n:Nat) (f:Nat→Nat→Int):List (List Int):=(List.range m).map fun i=>(List.range n).map fun j=>f i j
theorem zaoa {m n:Nat}{f:Nat→Nat→Int}{i j:Nat} (hi:i<m) (hj:j<n):at2 (mkT m n f) i j=f i j:=by
 refine qda (r:=(List.range n).map fun j=>f i j) ?_ ?_
 ·unfold mkT
  rw [List.getElem?_map,List.getElem?_range hi];rfl
 ·rw [List.getElem?_map,List.getElem?_range hj];rfl
theorem zaim (m n:Nat) (f:Nat→Nat→Int):(mkT m n f).length=m:=by simp [mkT]
theorem zajn {m n:Nat}{f:Nat→Nat→Int}{B:Int} (hB:1≤B) (h0 : ∀ i j,i<m→j<n→0≤f i j) (hs : ∀ i,i<m→qL n (f i)=B):Tab B (mkT m n f) n where
 pos:=hB
 len:=fun r hr=>by
  obtain ⟨i,_,rfl⟩:=List.mem_map.mp hr
  simp
 nn:=fun r hr x hx=>by
  obtain ⟨i,hi,rfl⟩:=List.mem_map.mp hr
  obtain ⟨j,hj,rfl⟩:=List.mem_map.mp hx
  exact h0 i j (List.mem_range.mp hi) (List.mem_range.mp hj)
 sum:=fun r hr=>by
  obtain ⟨i,hi,rfl⟩:=List.mem_map.mp hr
  rw [qbs]
  exact hs i (List.mem_range.mp hi)
theorem qse (p q:Nat) (f:Nat→Nat→Int):(qL p fun i=>qL q fun j=>f i j)=qL q fun j=>qL p fun i=>f i j:=by
 induction p with
 | zero=>exact (qec fun j _=>rfl).symm
 | succ p ih =>
  show (qL p fun i=>qL q fun j=>f i j)+qL q (fun j=>f p j)=qL q fun j=>(qL p fun i=>f i j)+f p j
  rw [ih,qot]
theorem qhg {f g:Nat→Int} : ∀ {n:Nat},(∀ i,i<n→f i≤g i)→qL n f≤qL n g
 | 0,_=>Int.le_refl _
 | n+1,h=>by
  show qL n f+f n≤qL n g+g n
  have a:=qhg (f:=f) (g:=g) (n:=n) fun i hi=>h i (by omega)
  have b:=h n (by omega)
  omega
theorem qov {a x y:Int} (h:0≤a) (e:x≤y):a*x≤a*y:=Int.mul_le_mul_of_nonneg_left e h
theorem Dul.pick {f:Nat→Nat} (hf : ∀ i,i<m→f i<n) (h : ∀ s j,s<R.length→j<n→c*(qL m fun i=>at2 R s i*if f i=j then 1 else 0)=at2 S s j*b):Dul b R m c S n 1 (mkT m n fun i j=>if f i=j then 1 else 0):=by
 refine ⟨zajn (by decide) (fun i j _ _=>by split <;> decide) (fun i hi=>?_),zaim ..,fun s j hs hj=>?_⟩
 ·rw [qbp (hf i hi) fun j _ ne=>if_neg (Ne.symm ne),if_pos rfl]
 ·rw [Int.mul_one,← h s j hs hj]
  congr 1
  exact qG fun i hi=>by rw [zaoa hi hj]
theorem Dul.same {b b':Int}{R R':List (List Int)}{m:Nat} (h : ∀ s j,s<R.length→j<m→b'*at2 R s j=at2 R' s j*b):Dul b R m b' R' m 1 (mkT m m fun i j=>if i=j then 1 else 0) :=
 Dul.pick (f:=id) (fun i hi=>hi) fun s j hs hj=>by
  rw [qbp hj fun i _ ne=>by rw [if_neg (show ¬ id i=j from ne),Int.mul_zero],if_pos (show id j=j from rfl),Int.mul_one,h s j hs hj]
def qlj (f:Nat→Int):Nat→Int
 | 0=>f 0
 | k+1=>if qlj f k<f (k+1) then f (k+1) else qlj f k
theorem qsi (f:Nat→Int) : ∀ {k i:Nat},i≤k→f i≤qlj f k
 | 0,i,h=>by rw [Nat.le_zero.mp h];exact Int.le_refl _
 | k+1,i,h=>by
  show f i≤if qlj f k<f (k+1) then f (k+1) else qlj f k
  by_cases e:i=k+1
  ·subst e;split <;> omega
  ·have:=qsi f (show i≤k by omega)
   split <;> omega
theorem qrz (f:Nat→Int) : ∀ k:Nat,∃ i,i≤k∧qlj f k=f i
 | 0=>⟨0,Nat.le_refl _,rfl⟩
 | k+1=>by
  obtain ⟨i,hi,e⟩:=qrz f k
  show ∃ i,i≤k+1∧(if qlj f k<f (k+1) then f (k+1) else qlj f k)=f i
  by_cases h:qlj f k<f (k+1)
  ·exact ⟨k+1,Nat.le_refl _,by rw [if_pos h]⟩
  ·exact ⟨i,by omega,by rw [if_neg h,e]⟩
def qfo (R Y:List (List Int)) (w m a:Nat):Int:=qL m fun i=>qlj (fun x=>qL w fun s=>at2 R s i*at2 Y s x) a
theorem Dul.best {Y:List (List Int)}{a:Nat} (hb:0<b) (hc:0<c) (h:Dul b R m c S n B D):qfo S Y R.length n a*b≤qfo R Y R.length m a*c:=by
 have hB:=h.t.pos
 have key : ∀ j,j<n→b*B*qlj (fun x=>qL R.length fun s=>at2 S s j*at2 Y s x) a≤c*qL m fun i=>at2 D i j*qlj (fun x=>qL R.length fun s=>at2 R s i*at2 Y s x) a:=fun j hj=>by
  obtain ⟨x,hx,e⟩:=qrz (fun x=>qL R.length fun s=>at2 S s j*at2 Y s x) a
  rw [e]
  have e1:b*B*(qL R.length fun s=>at2 S s j*at2 Y s x)=c*qL m fun i=>at2 D i j*qL R.length fun s=>at2 R s i*at2 Y s x:=by
   have a1:b*B*(qL R.length fun s=>at2 S s j*at2 Y s x)=qL R.length fun s=>at2 Y s x*(c*qL m fun i=>at2 R s i*at2 D i j):=by
    rw [← qam]
    refine qG fun s hs=>?_
    rw [h.e s j hs hj];grind
   have a2:(qL R.length fun s=>at2 Y s x*(c*qL m fun i=>at2 R s i*at2 D i j))=qL R.length fun s=>qL m fun i=>c*(at2 D i j*(at2 R s i*at2 Y s x)):=qG fun s hs=>by
    rw [← qam,← qam]
    exact qG fun i _=>by grind
   rw [a1,a2,qse,← qam]
   exact qG fun i hi=>by rw [qam,qam]
  rw [e1]
  exact qov (by omega) (qhg fun i hi=>qov (zanl h.t.nn i j) (qsi (fun x=>qL R.length fun s=>at2 R s i*at2 Y s x) hx))
 have s1:b*B*qfo S Y R.length n a≤c*B*qfo R Y R.length m a:=by
  unfold qfo
  rw [← qam]
  refine Int.le_trans (qhg key) ?_
  rw [qam,qse,Int.mul_assoc]
  refine qov (by omega) ?_
  rw [← qam]
  refine qhg fun i hi=>?_
  have:(qL n fun j=>at2 D i j*qlj (fun x=>qL R.length fun s=>at2 R s i*at2 Y s x) a)=B*qlj (fun x=>qL R.length fun s=>at2 R s i*at2 Y s x) a:=by
   rw [qG (g:=fun j=>qlj (fun x=>qL R.length fun s=>at2 R s i*at2 Y s x) a*at2 D i j) fun j _=>Int.mul_comm _ _,qam,h.t.rs (by rw [h.l];exact hi),Int.mul_comm]
  rw [this];exact Int.le_refl _
 have s2:B*(qfo S Y R.length n a*b)≤B*(qfo R Y R.length m a*c):=by
  have e1:B*(qfo S Y R.length n a*b)=b*B*qfo S Y R.length n a:=by grind
  have e2:B*(qfo R Y R.length m a*c)=c*B*qfo R Y R.length m a:=by grind
  rw [e1,e2];exact s1
 exact Int.le_of_mul_le_mul_left s2 (by omega)
end
theorem qzj {R Y:List (List Int)}{w s x:Nat} (hR:R.length=w) (hY:Y.length=w):qai (qx R s) (qx Y x)=qL w fun t=>at2 R t s*at2 Y t x:=by
 unfold qai
 rw [← qbs]
 congr 1
 refine List.ext_getElem? fun t=>?_
 rw [List.getElem?_zipWith,List.getElem?_map]
 unfold qx
 rw [List.getElem?_map,List.getElem?_map]
 by_cases ht:t<w
 ·have e1:R[t]?=some (R[t]'(by omega)):=List.getElem?_eq_getElem _
  have e2:Y[t]?=some (Y[t]'(by omega)):=List.getElem?_eq_getElem _
  rw [List.getElem?_range ht,e1,e2]
  show some _=some (at2 R t s*at2 Y t x)
  unfold at2
  rw [e1,e2];rfl
 ·rw [List.getElem?_eq_none (l:=R) (by omega),List.getElem?_eq_none (l:=List.range w) (by simp;omega)];rfl
theorem zald {f:Nat→Int}{k j:Nat}{v:Int} (hj:j≤k) (e:f j=v) (h : ∀ i,i≤k→f i≤v):qlj f k=v:=by
 obtain ⟨i,hi,e2⟩:=qrz f k
 have a:=h i hi
 have b:=qsi f hj
 omega
theorem zael {R Y:List (List Int)}{w a n:Nat} (hR:R.length=w) (hY:Y.length=w):qqp R Y (plB R Y (a+1) n)=qfo R Y w n a:=by
 unfold qqp qfo
 rw [qka,qbs]
 refine qG fun s hs=>?_
 have e1:((plB R Y (a+1) n)[s]?).getD 0=((fbA (wk R Y (a+1) s):Nat):Int):=by
  unfold plB
  rw [List.getElem?_map,List.getElem?_range hs];rfl
 rw [e1,Int.toNat_natCast]
 obtain ⟨v,hv⟩:=zalz (qnn (R:=R) (Y:=Y) (a:=a+1) s (by omega))
 have hl:=zacq (qnn (R:=R) (Y:=Y) (a:=a+1) s (by omega))
 rw [qiz] at hl
 have g:=hv.g
 unfold wk at g
 rw [List.getElem?_map] at g
 have g':(List.range (a+1))[fbA (wk R Y (a+1) s)]?=some (fbA (wk R Y (a+1) s)):=List.getElem?_range hl
 unfold wk at g'
 rw [g'] at g
 have g:some (qai (qx R s) (qx Y (fbA (wk R Y (a+1) s))))=some v:=g
 injection g with g
 rw [g]
 refine (zald (j:=fbA (wk R Y (a+1) s)) (by omega) ?_ fun i hi=>?_).symm
 ·rw [← g,qzj hR hY]
 ·have:=hv.m (qai (qx R s) (qx Y i)) (List.mem_map.mpr ⟨i,List.mem_range.mpr (by omega),rfl⟩)
  rw [qzj hR hY] at this
  exact this
theorem zaib {t u b c:Int} (hb:0<b) (hc:0<c) (h:t*c≤u*b):shT t b*shB u c≤shT u c*shB t b:=by
 obtain ⟨s1,e1⟩:=qlu (t:=t) (b:=b) (by omega)
 obtain ⟨s2,e2⟩:=qlu (t:=u) (b:=c) (by omega)
 have q1:=s1.pos
 have q2:=s2.pos
 generalize shT t b=p at *
 generalize shB t b=q at *
 generalize shT u c=r at *
 generalize shB u c=s at *
 have a:=Int.mul_le_mul_of_nonneg_right h (Int.le_of_lt (Int.mul_pos (show 0<q by omega) (show 0<s by omega)))
 have x1:t*c*(q*s)=p*s*(b*c):=by
  have:t*c*(q*s)=t*q*(c*s):=by grind
  rw [this,← e1];grind
 have x2:u*b*(q*s)=r*q*(b*c):=by
  have:u*b*(q*s)=u*s*(b*q):=by grind
  rw [this,← e2];grind
 rw [x1,x2] at a
 exact Int.le_of_mul_le_mul_right a (Int.mul_pos hb hc)
theorem qxt {t u b c:Int} (hb:0<b) (hc:0<c) (h:t*c=u*b):shT t b=shT u c∧shB t b=shB u c:=by
 obtain ⟨s1,e1⟩:=qlu (t:=t) (b:=b) (by omega)
 obtain ⟨s2,e2⟩:=qlu (t:=u) (b:=c) (by omega)
 have l1:=zaib hb hc (Int.le_of_eq h)
 have l2:=zaib hc hb (Int.le_of_eq h.symm)
 exact zajy s1 s2 (by omega)
theorem zala {R:List (List Int)}{g:Int} (g0:g≠0) (h : ∀ r ∈ R,∀ x ∈ r,g∣x) (s j:Nat):g*at2 (qaw R g) s j=at2 R s j:=by
 unfold at2 qaw
 rw [List.getElem?_map]
 cases e:R[s]? with
 | none=>simp
 | some r =>
  show g*((r.map fun n=>n/g)[j]?).getD 0=(r[j]?).getD 0
  rw [List.getElem?_map]
  cases e':r[j]? with
  | none=>simp
  | some x=>exact Int.mul_ediv_cancel' (h r (List.mem_of_getElem? e) x (List.mem_of_getElem? e'))
theorem zanz {b:Int}{R:List (List Int)}{m:Nat} (h:Tab b R m) (hn:R≠[]) : ∃ g:Int,0<g∧g*(b/qH R)=b ∧ ∀ s j,g*at2 (qaw R (qH R)) s j=at2 R s j:=by
 have g0:=h.gpos hn
 exact ⟨qH R,by omega,Int.mul_ediv_cancel' (h.gdvd hn),zala (by omega) fun r hr x hx=>qgy hr hx⟩
section
variable {b:Int}{R:List (List Int)}{m:Nat}{c:Int}{S:List (List Int)}{n:Nat}{B:Int}{D:List (List Int)}{d:Int}{T:List (List Int)}{p:Nat}
theorem zagz {n:Nat} : ∀ {a b:List Int}{i j:Nat},b.length=n→i<a.length→j<n→(qfr a b)[i*n+j]?=some ((b[j]?).getD 0*(a[i]?).getD 0)
 | [],b,i,j,_,hi,_=>by simp at hi
 | x::a,b,0,j,hb,_,hj=>by
  show ((b.map fun y=>y*x)++qfr a b)[0*n+j]?=_
  rw [Nat.zero_mul,Nat.zero_add,List.getElem?_append_left (by rw [List.length_map];omega),List.getElem?_map,List.getElem?_eq_getElem (show j<b.length by omega)];rfl
 | x::a,b,i+1,j,hb,hi,hj=>by
  show ((b.map fun y=>y*x)++qfr a b)[(i+1)*n+j]?=_
  have e:(i+1)*n+j=n+(i*n+j):=by rw [Nat.add_mul];omega
  rw [e,List.getElem?_append_right (by rw [List.length_map];omega),List.length_map,show n+(i*n+j)-b.length=i*n+j by omega]
  exact zagz hb (by simpa using hi) hj
theorem zamq {f:List Int→List Int→List Int}{s:Nat} (hl:R.length=S.length) (hs:s<R.length) : ∃ r r',R[s]?=some r∧S[s]?=some r'∧r ∈ R∧r' ∈ S∧(List.zipWith f R S)[s]?=some (f r r'):=by
 have e1:R[s]?=some R[s]:=List.getElem?_eq_getElem hs
 have e2:S[s]?=some (S[s]'(by omega)):=List.getElem?_eq_getElem _
 exact ⟨_,_,e1,e2,List.mem_of_getElem? e1,List.mem_of_getElem? e2,by rw [List.getElem?_zipWith,e1,e2]⟩
theorem qbv {s j:Nat}{r:List Int} (h:T[s]?=some r):at2 T s j=(r[j]?).getD 0:=by
 unfold at2
 rw [h];rfl
theorem zahl (hR:Tab b R m) (hS:Tab c S n) (hl:R.length=S.length) {s i j:Nat} (hs:s<R.length) (hi:i<m) (hj:j<n):at2 (qjz R S) s (i*n+j)=at2 S s j*at2 R s i:=by
 obtain ⟨r,r',e1,e2,m1,m2,e3⟩:=zamq (f:=qfr) hl hs
 have l1:=hR.len r m1
 have l2:=hS.len r' m2
 rw [qda (T:=qjz R S) e3 (zagz l2 (by omega) hj),qbv e1,qbv e2]
theorem zacs {n i j:Nat} (h:j<n):(i*n+j)/n=i∧(i*n+j)%n=j:=by
 constructor
 ·rw [Nat.add_comm,Nat.add_mul_div_right _ _ (by omega),Nat.div_eq_of_lt h,Nat.zero_add]
 ·rw [Nat.add_comm,Nat.add_mul_mod_self_right,Nat.mod_eq_of_lt h]
theorem besA (hR:Tab b R m) (hS:Tab c S n) (hl:R.length=S.length):Dul (b*c) (qjz R S) (m*n) b R m 1 (mkT (m*n) m fun k i=>if k/n=i then 1 else 0):=by
 refine Dul.pick (f:=fun k=>k/n) (fun k hk=>Nat.div_lt_of_lt_mul (by rw [Nat.mul_comm];exact hk)) fun s i hs hi=>?_
 have hs':s<R.length:=by unfold qjz at hs;rw [List.length_zipWith] at hs;omega
 rw [qkr,qbp hi (fun i' hi' ne=>qec fun j hj=>by rw [(zacs hj).1,if_neg ne,Int.mul_zero]),qG (g:=fun j=>at2 R s i*at2 S s j) fun j hj=>?_,qam,hS.rs (by omega)]
 ·grind
 ·rw [(zacs hj).1,if_pos rfl,zahl hR hS hl hs' hi hj];grind
theorem besB (hR:Tab b R m) (hS:Tab c S n) (hl:R.length=S.length) (hn:1≤n):Dul (b*c) (qjz R S) (m*n) c S n 1 (mkT (m*n) n fun k i=>if k%n=i then 1 else 0):=by
 refine Dul.pick (f:=fun k=>k%n) (fun k hk=>Nat.mod_lt _ (by omega)) fun s j hs hj=>?_
 have hs':s<R.length:=by unfold qjz at hs;rw [List.length_zipWith] at hs;omega
 rw [qkr,qG (g:=fun i=>at2 S s j*at2 R s i) fun i hi=>?_,qam,hR.rs hs']
 ·grind
 ·rw [qbp hj fun j' hj' ne=>by rw [(zacs hj').2,if_neg ne,Int.mul_zero],(zacs hj).2,if_pos rfl,zahl hR hS hl hs' hi hj];grind
end
section
variable {b:Int}{R:List (List Int)}{m:Nat}{c:Int}{S:List (List Int)}{n:Nat}{B:Int}{D:List (List Int)}{b' c':Int}{R' S':List (List Int)}
end
def mxv (w:List Int):Int:=(w[fbA w]?).getD 0
theorem qxj {w:List Int}{v:Int} (hv:v ∈ w) (hm : ∀ x ∈ w,x≤v):mxv w=v:=by
 have:=zahz hv hm
 simp [mxv,this.g]
theorem qnt {w:List Int} (h:w≠[]):mxv w ∈ w:=by
 obtain ⟨v,hv,hm⟩:=zacu h
 rw [qxj hv hm];exact hv
theorem qxp {w:List Int}{x:Int} (h:x ∈ w):x≤mxv w:=by
 obtain ⟨v,hv,hm⟩:=zacu (w:=w) (fun z=>by rw [z] at h;simp at h)
 rw [qxj hv hm];exact hm x h
theorem zajh {w:List Int}{k c:Int} (hk:0≤k) (h:w≠[]):mxv (w.map fun x=>k*x+c)=k*mxv w+c:=by
 refine qxj (List.mem_map.mpr ⟨_,qnt h,rfl⟩) fun x hx=>?_
 obtain ⟨y,hy,rfl⟩:=List.mem_map.mp hx
 have:=Int.mul_le_mul_of_nonneg_left (qxp hy) hk
 omega
theorem qyu {w:List Int}{k:Int} (hk:0≤k) (h:w≠[]):mxv (w.map fun x=>k*x)=k*mxv w:=by
 have:=zajh (c:=0) hk h
 simpa using this
def tw (R Y:List (List Int)) (a n:Nat):Int:=((List.range n).map fun s=>mxv (wk R Y a s)).sum
theorem zagv {R Y:List (List Int)}{a s:Nat} (h:1≤a):qai (qx R s) (qx Y (fbA (wk R Y a s)))=mxv (wk R Y a s):=by
 have hl:=zacq (qnn (R:=R) (Y:=Y) s h)
 rw [qiz] at hl
 unfold mxv
 rw [zahf hl];rfl
theorem qsw {R Y:List (List Int)}{a n:Nat} (h:1≤a):qqp R Y (plB R Y a n)=tw R Y a n:=by
 rw [zaiz]
 exact congrArg List.sum (List.map_congr_left fun s _=>zagv h)
theorem qih {α:Type}{f g:α→Int} : ∀ {l:List α},(∀ x ∈ l,f x≤g x)→(l.map f).sum≤(l.map g).sum
 | [],_=>by simp
 | x::l,h=>by
  rw [List.map_cons,List.map_cons,List.sum_cons,List.sum_cons]
  have h1:=h x (by simp)
  have h2:=qih (l:=l) fun y hy=>h y (List.mem_cons_of_mem _ hy)
  omega
theorem qjc : ∀ (a b:List Int),qai a b=qai b a
 | [],b=>by cases b <;> simp [qai]
 | _::_,[]=>by simp [qai]
 | x::a,y::b=>by rw [qao,qao,qjc a b,Int.mul_comm]
theorem zamb {R S Y:List (List Int)}{k:Int}{a s t:Nat} (h:qx R s=(qx S t).map fun x=>k*x):wk R Y a s=(wk S Y a t).map fun x=>k*x:=by
 unfold wk
 rw [List.map_map]
 refine List.map_congr_left fun x _=>?_
 simp only [Function.comp]
 rw [h,zagu]
theorem qun {w v:Int}{m s:Nat} (hs:s<m) : ∀ {R S:List (List Int)},R.length=S.length→(∀ r ∈ R,r.length=m)→qx (qhb w v R S) s=(qx R s).map fun x=>w*x
 | [],[],_,_=>rfl
 | [],_::_,h,_=>by simp at h
 | _::_,[],h,_=>by simp at h
 | r::R,t::S,h,hr=>by
  have hl:=hr r (by simp)
  have ih:=qun (w:=w) (v:=v) hs (R:=R) (S:=S) (by simpa using h) fun r' h'=>hr r' (List.mem_cons_of_mem _ h')
  show (((r.map fun x=>x*w)++t.map fun y=>y*v)[s]?).getD 0::qx (qhb w v R S) s=w*(r[s]?).getD 0::(qx R s).map fun x=>w*x
  rw [ih,List.getElem?_append_left (by simp;omega),List.getElem?_map,List.getElem?_eq_getElem (by omega)]
  simp [Int.mul_comm]
theorem qvl {w v:Int}{m s:Nat} : ∀ {R S:List (List Int)},R.length=S.length→(∀ r ∈ R,r.length=m)→qx (qhb w v R S) (m+s)=(qx S s).map fun x=>v*x
 | [],[],_,_=>rfl
 | [],_::_,h,_=>by simp at h
 | _::_,[],h,_=>by simp at h
 | r::R,t::S,h,hr=>by
  have hl:=hr r (by simp)
  have ih:=qvl (w:=w) (v:=v) (s:=s) (R:=R) (S:=S) (by simpa using h) fun r' h'=>hr r' (List.mem_cons_of_mem _ h')
  show (((r.map fun x=>x*w)++t.map fun y=>y*v)[m+s]?).getD 0::qx (qhb w v R S) (m+s)=v*(t[s]?).getD 0::(qx S s).map fun x=>v*x
  rw [ih,List.getElem?_append_right (by simp;omega),List.getElem?_map,List.length_map,hl,Nat.add_sub_cancel_left]
  cases t[s]? <;> simp [Int.mul_comm]
theorem zaot {w v:Int}{R S Y:List (List Int)}{m n a:Nat} (hw:0≤w) (hv:0≤v) (ha:1≤a) (h:R.length=S.length) (hr : ∀ r ∈ R,r.length=m):tw (qhb w v R S) Y a (m+n)=w*tw R Y a m+v*tw S Y a n:=by
 unfold tw
 rw [List.range_add,List.map_append,List.sum_append,List.map_map,← qcf,← qcf]
 congr 1
 ·refine congrArg List.sum (List.map_congr_left fun s hs=>?_)
  rw [zamb (qun (List.mem_range.mp hs) h hr),qyu hw (qnn s ha)]
 ·refine congrArg List.sum (List.map_congr_left fun s hs=>?_)
  simp only [Function.comp]
  rw [zamb (qvl h hr),qyu hv (qnn s ha)]
theorem qzm {b:Int}{R:List (List Int)}{n:Nat} (h:Tab b R n) {c:List Int} (hc:c.length=R.length):((List.range n).map fun s=>qai (qx R s) c).sum=c.sum*b:=by
 rw [← qoj (r:=c) (D:=R) (c:=b) (n:=n) hc.symm fun d hd=>⟨h.len d hd,h.sum d hd⟩]
 exact congrArg List.sum (List.map_congr_left fun s _=>qjc _ _)
theorem quh {Y:List (List Int)}{a:Nat}:wk (List.replicate Y.length [1]) Y a 0=(List.range a).map fun x=>(qx Y x).sum:=by
 unfold wk
 refine List.map_congr_left fun x _=>?_
 have e:qx (List.replicate Y.length [1]) 0=List.replicate (qx Y x).length 1:=by
  unfold qx;simp
 rw [e,qjc,qvb]
theorem zafx {b:Int}{R Y:List (List Int)}{n a:Nat} (h:Tab b R n) (hY:Y.length=R.length) (ha:1≤a):tw (List.replicate Y.length [1]) Y a 1*b≤tw R Y a n:=by
 have e:tw (List.replicate Y.length [1]) Y a 1=mxv (wk (List.replicate Y.length [1]) Y a 0):=by simp [tw]
 rw [e,quh]
 have hne:((List.range a).map fun x=>(qx Y x).sum)≠[]:=by
  intro z;have:=congrArg List.length z;simp at this;omega
 obtain ⟨x,hx,e2⟩:=List.mem_map.mp (qnt hne)
 rw [← e2,← qzm h (by rw [qki,hY])]
 refine qih fun s _=>qxp ?_
 exact List.mem_map.mpr ⟨x,hx,rfl⟩
theorem qzi {x:Nat} : ∀ {A:List Int}{Y:List (List Int)},(∀ z ∈ A,0≤z)→(∀ y ∈ Y,x<y.length)→qai A (qx Y x)≤qai A (Y.map mxv)
 | [],Y,_,_=>by simp [qai]
 | _::_,[],_,_=>by simp [qai,qx]
 | z::A,y::Y,h,hy=>by
  have h1:=hy y (by simp)
  have ih:=qzi (A:=A) (Y:=Y) (fun z hz=>h z (List.mem_cons_of_mem _ hz)) fun y hy'=>hy y (List.mem_cons_of_mem _ hy')
  show qai (z::A) ((y[x]?).getD 0::qx Y x)≤qai (z::A) (mxv y::Y.map mxv)
  rw [qao,qao,List.getElem?_eq_getElem h1,Option.getD_some]
  have:=Int.mul_le_mul_of_nonneg_left (qxp (List.getElem_mem h1)) (h z (by simp))
  omega
theorem zady {Y:List (List Int)}{a s:Nat}{y:List Int} (h:Y[s]?=some y) (hy:y.length=a):wk (idR Y.length) Y a s=y:=by
 have hs:s<Y.length:=(List.getElem?_eq_some_iff.mp h).1
 have e:wk (idR Y.length) Y a s=(List.range y.length).map fun x=>(y[x]?).getD 0:=by
  unfold wk
  rw [hy]
  refine List.map_congr_left fun x _=>?_
  have:=qvv s (qx Y x) 0
  rw [qjc,zanj hs,← qki Y x]
  simp only [Nat.add_zero,Nat.not_lt_zero,if_false,Nat.sub_zero] at this
  rw [this]
  unfold qx
  rw [List.getElem?_map,h];rfl
 rw [e,qqg]
theorem qut {Y:List (List Int)}{a:Nat} (hy : ∀ y ∈ Y,y.length=a):tw (idR Y.length) Y a Y.length=(Y.map mxv).sum:=by
 unfold tw
 congr 1
 apply List.ext_getElem?
 intro i
 by_cases hi:i<Y.length
 ·rw [List.getElem?_map,List.getElem?_map,List.getElem?_range hi]
  have e:=List.getElem?_eq_getElem hi
  rw [e]
  simp only [Option.map_some]
  rw [zady e (hy _ (List.getElem_mem hi))]
 ·rw [List.getElem?_eq_none (by simp;omega),List.getElem?_eq_none (by simp;omega)]
theorem zagc {b:Int}{R Y:List (List Int)}{n a:Nat} (h:Tab b R n) (hY:Y.length=R.length) (hy : ∀ y ∈ Y,y.length=a) (ha:1≤a):tw R Y a n≤tw (idR Y.length) Y a Y.length*b:=by
 rw [qut hy,← qzm h (by rw [List.length_map,hY])]
 refine qih fun s _=>?_
 rw [← zagv ha]
 have hl:=zacq (qnn (R:=R) (Y:=Y) s ha)
 rw [qiz] at hl
 refine qzi (fun z hz=>?_) fun y h'=>by rw [hy y h'];exact hl
 rcases qez hz with rfl|⟨d,hd,hz⟩
 ·decide
 ·exact h.nn d hd z hz
theorem zahn {c:Int} : ∀ {l:List Int},(∀ x ∈ l,x≤c)→l.sum≤c*l.length
 | [],_=>by simp
 | x::l,h=>by
  have h1:=h x (by simp)
  have h2:=zahn (l:=l) fun y hy=>h y (List.mem_cons_of_mem _ hy)
  rw [List.sum_cons,List.length_cons,Int.natCast_add,Int.mul_add];omega
theorem qvj {c:Int} : ∀ {l:List Int},(∀ x ∈ l,c≤x)→c*l.length≤l.sum
 | [],_=>by simp
 | x::l,h=>by
  have h1:=h x (by simp)
  have h2:=qvj (l:=l) fun y hy=>h y (List.mem_cons_of_mem _ hy)
  rw [List.sum_cons,List.length_cons,Int.natCast_add,Int.mul_add];omega
theorem zanv {b:Int}{R Y:List (List Int)}{n a:Nat} (h:Tab b R n) (hY:Pays Y R.length a) (ha:1≤a) (hr:R.length≤4) : -(4000000*b)≤tw R Y a n∧tw R Y a n≤4000000*b:=by
 have hb:=h.pos
 have hl:=hY.m
 constructor
 ·have h1:=zafx h hY.m ha
  have e:tw (List.replicate Y.length [1]) Y a 1=mxv (wk (List.replicate Y.length [1]) Y a 0):=by simp [tw]
  rw [e,quh] at h1
  have hne:((List.range a).map fun x=>(qx Y x).sum)≠[]:=by
   intro z;have:=congrArg List.length z;simp at this;omega
  obtain ⟨x,hx,e2⟩:=List.mem_map.mp (qnt hne)
  rw [← e2] at h1
  have h2 : -1000000*((qx Y x).length:Int)≤(qx Y x).sum:=qvj fun z hz=>by
   rcases qez hz with rfl|⟨d,hd,hz⟩
   ·decide
   ·exact (hY.b d hd z hz).1
  rw [qki] at h2
  have h3 : -4000000*b≤(qx Y x).sum*b:=Int.mul_le_mul_of_nonneg_right (by omega) (by omega)
  omega
 ·have h1:=zagc h hY.m hY.a ha
  rw [qut hY.a] at h1
  have h2:(Y.map mxv).sum≤1000000*((Y.map mxv).length:Int):=zahn fun z hz=>by
   obtain ⟨y,hy,rfl⟩:=List.mem_map.mp hz
   have hyl:=hY.a y hy
   exact (hY.b y hy _ (qnt (fun z=>by rw [z] at hyl;simp at hyl;omega))).2
  rw [List.length_map] at h2
  have h3:(Y.map mxv).sum*b≤4000000*b:=Int.mul_le_mul_of_nonneg_right (by omega) (by omega)
  omega
def bst (R Y:List (List Int)) (a n:Nat):Int:=qqp R Y (plB R Y a n)
theorem zalw {R Y:List (List Int)}{w a n:Nat} (a1:1≤a) (hR:R.length=w) (hY:Y.length=w):bst R Y a n=qfo R Y w n (a-1):=by
 obtain ⟨k,rfl⟩ : ∃ k,a=k+1:=⟨a-1,by omega⟩
 exact zael hR hY
theorem quo {W s i:Nat} (hs:s<W) (hi:i<W):at2 (qcv W) s i=if s=i then 1 else 0:=by
 rw [qda (r:=qeu s W) (x:=if i=s then 1 else 0)]
 ·by_cases e:s=i
  ·rw [if_pos e,if_pos e.symm]
  ·rw [if_neg e,if_neg (Ne.symm e)]
 ·unfold qcv
  rw [List.getElem?_map,List.getElem?_range hs];rfl
 ·unfold qeu
  rw [List.getElem?_map,List.getElem?_range hi];rfl
theorem zafg {W s:Nat} (hs:s<W):at2 (qce W) s 0=1:=by
 refine qda (r:=[1]) ?_ rfl
 unfold qce
 rw [List.getElem?_replicate,if_pos hs]
section
variable {b c:Int}{R S Y:List (List Int)}{m n w a:Nat}{B:Int}{D:List (List Int)}
theorem qkm (h:Dul b R m c S n B D) (hb:0<b) (hc:0<c) (a1:1≤a) (hR:R.length=w) (hS:S.length=w) (hY:Y.length=w):bst S Y a n*b≤bst R Y a m*c:=by
 have:=h.best (Y:=Y) (a:=a-1) hb hc
 rw [zalw a1 hR hY,zalw a1 hS hY,← hR]
 exact this
theorem zada (hT:Tab b R m) (hn:R≠[]):(∃ B D,Dul b R m (b/qH R) (qaw R (qH R)) m B D) ∧ ∃ B D,Dul (b/qH R) (qaw R (qH R)) m b R m B D:=by
 obtain ⟨g,g0,e1,e2⟩:=zanz hT hn
 refine ⟨⟨_,_,Dul.same fun s j _ _=>?_⟩,⟨_,_,Dul.same fun s j _ _=>?_⟩⟩
 ·rw [← e2 s j]
  generalize at2 (qaw R (qH R)) s j=x
  generalize b/qH R=b' at e1
  rw [← e1];grind
 ·rw [← e2 s j]
  generalize at2 (qaw R (qH R)) s j=x
  generalize b/qH R=b' at e1
  rw [← e1];grind
theorem qhr (hT:Tab b R m) (hn:R≠[]) (a1:1≤a) (hY:Y.length=R.length):shT (bst (qaw R (qH R)) Y a m) (b/qH R)=shT (bst R Y a m) b∧shB (bst (qaw R (qH R)) Y a m) (b/qH R)=shB (bst R Y a m) b:=by
 have hb:=hT.pos
 have hc:=(hT.gls hn).t.pos
 obtain ⟨⟨_,_,d1⟩,⟨_,_,d2⟩⟩:=zada hT hn
 have l1:=qkm (w:=R.length) d1 (by omega) (by omega) a1 rfl (by simp [qaw]) hY
 have l2:=qkm (w:=R.length) d2 (by omega) (by omega) a1 (by simp [qaw]) rfl hY
 exact qxt (by omega) (by omega) (by omega)
theorem zakx (hR : ∀ r ∈ R,r.length=m) (hD:D.length=m) {s j:Nat} (hs:s<R.length) (hj:j<n):at2 (qco R D n) s j=qL m fun i=>at2 R s i*at2 D i j:=by
 have e:R[s]?=some R[s]:=List.getElem?_eq_getElem hs
 have el:=hR _ (List.getElem_mem hs)
 rw [qda (T:=qco R D n) (r:=(List.range n).map fun k=>qai R[s] (qx D k)) (x:=qai R[s] (qx D j)) (by unfold qco;rw [List.getElem?_map,e];rfl) (by rw [List.getElem?_map,List.getElem?_range hj];rfl)]
 unfold qai
 rw [← qbs]
 congr 1
 refine List.ext_getElem? fun t=>?_
 rw [List.getElem?_zipWith,List.getElem?_map]
 unfold qx
 rw [List.getElem?_map]
 by_cases ht:t<m
 ·have e1:R[s][t]?=some (R[s][t]'(by omega)):=List.getElem?_eq_getElem _
  have e2:D[t]?=some (D[t]'(by omega)):=List.getElem?_eq_getElem _
  rw [List.getElem?_range ht,e1,e2]
  show some _=some (at2 R s t*at2 D t j)
  rw [qbv e,e1,qbv e2];rfl
 ·rw [List.getElem?_eq_none (l:=D) (by omega),List.getElem?_eq_none (l:=List.range m) (by simp;omega)]
  cases R[s][t]? <;> rfl
theorem qum (hR:Tab b R m) (hD:Tab c D n) (hl:D.length=m):Dul b R m (b*c) (qco R D n) n c D:=⟨hD,hl,fun s j hs hj=>by rw [zakx hR.len hl hs hj,Int.mul_comm (b*c),Int.mul_assoc]⟩
theorem zaao (hR:Tab b R m) (hl:R.length=w) : ∃ B D,Dul b R m 1 (qce w) 1 B D :=
 ⟨_,_,Dul.pick (f:=fun _=>0) (fun i hi=>by decide) fun s j hs hj=>by
  have:j=0:=by omega
  subst this
  rw [qG (g:=fun i=>at2 R s i) fun i hi=>by rw [if_pos rfl,Int.mul_one],hR.rs hs,zafg (by omega)]⟩
theorem zabz (hR:Tab b R m) (hl:R.length=w):Dul 1 (qcv w) w b R m b R:=⟨hR,hl,fun s j hs hj=>by
 have hs':s<w:=by simpa [qcv] using hs
 rw [qbp hs' fun i hi ne=>by rw [quo hs' hi,if_neg (Ne.symm ne),Int.zero_mul],quo hs' hs',if_pos rfl]
 grind⟩
theorem zaek (hR:Tab b R m) {i:Nat} (hi:i+1<m) : ∃ B D,Dul b R m b (qeo R i (i+1)) (m-1) B D:=by
 refine ⟨_,_,Dul.pick (f:=fun k=>if k≤i then k else k-1) (fun k hk=>by show (if k≤i then k else k-1)<m-1;split <;> omega) fun s l hs hl=>?_⟩
 have e:R[s]?=some R[s]:=List.getElem?_eq_getElem hs
 have el:=hR.len _ (List.getElem_mem hs)
 have eJ:(qeo R i (i+1))[s]?=some (qbg R[s] i (i+1)):=by unfold qeo;rw [List.getElem?_map,e];rfl
 rw [qbv eJ,Int.mul_comm]
 congr 1
 have one : ∀ k,at2 R s k=(R[s][k]?).getD 0:=fun k=>qbv e
 rcases Nat.lt_trichotomy l i with h|h|h
 ·rw [qyt (by omega) (by omega) (by omega),if_neg (by omega),qbp (show l<m by omega) fun k hk ne=>?_,if_pos (if_pos (by omega)),Int.mul_one,one]
  rw [if_neg fun z=>?_,Int.mul_zero]
  split at z <;> omega
 ·subst h
  rw [qyt (by omega) (by omega) (by omega),if_pos rfl,zaet (show l<m by omega) (show l+1<m by omega) (by omega) fun k hk n1 n2=>?_,if_pos (if_pos (by omega)),if_pos (by rw [if_neg (by omega)];omega),Int.mul_one,Int.mul_one,one,one]
  ·rfl
  ·rw [if_neg fun z=>?_,Int.mul_zero]
   split at z <;> omega
 ·rw [zaiu (by omega) (by omega),qbp (show l+1<m by omega) fun k hk ne=>?_,if_pos (by rw [if_neg (by omega)];omega),Int.mul_one,one]
  rw [if_neg fun z=>?_,Int.mul_zero]
  split at z <;> omega
theorem zafy {p q x1 y1 x2 y2:Int} (M:MixPre p q b R m c S n) (a1:1≤a) (e1:x1*b=bst R Y a m*y1) (e2:x2*c=bst S Y a n*y2):bst (qhb (p*c) ((q-p)*b) R S) Y a (m+n)*(q*y1*y2)=qsz p q x1 y1 x2 y2*(q*b*c):=by
 have hb:=M.r.pos
 have hc:=M.t.pos
 have p0:=M.p0
 have pq:=M.pq
 have eT:bst (qhb (p*c) ((q-p)*b) R S) Y a (m+n)=p*c*bst R Y a m+(q-p)*b*bst S Y a n:=by
  unfold bst
  rw [qsw a1,qsw a1,qsw a1,zaot (Int.mul_nonneg p0 (by omega)) (Int.mul_nonneg (by omega) (by omega)) a1 M.l fun r hr=>M.r.len r hr]
 rw [eT]
 unfold qsz
 generalize bst R Y a m=A at *
 generalize bst S Y a n=C at *
 calc (p*c*A+(q-p)*b*C)*(q*y1*y2)=q*(p*(A*y1)*y2*c+(q-p)*(C*y2)*y1*b):=by grind
  _=q*(p*(x1*b)*y2*c+(q-p)*(x2*c)*y1*b):=by rw [e1,e2]
  _=_:=by grind
theorem qfe (hT:Tab b R m) (hY:Pays Y R.length a) (a1:1≤a) (hr:R.length≤4) (hb:b≤1000000000000):intBits (shT (bst R Y a m) b)≤64∧intBits (shB (bst R Y a m) b)≤64:=by
 have b0:=hT.pos
 obtain ⟨l1,l2⟩:=zanv hT hY a1 hr
 rw [← qsw a1] at l1 l2
 exact ⟨quy (qV (by unfold bst;omega) (by unfold bst;omega)),zadx (qV (by omega) (by omega))⟩
end
theorem qvm {gs:List (List Int×List Nat)}{k:List Int}{s t:Nat} (h:(∃ x ∈ gs,s ∈ x.2)∨s=t) : ∃ x ∈ qmq gs k t,s ∈ x.2:=by
 unfold qmq
 split
 ·rename_i ha
  rcases h with ⟨x,hx,hs⟩|rfl
  ·refine ⟨_,List.mem_map.mpr ⟨x,hx,rfl⟩,?_⟩
   split
   ·exact List.mem_append_left _ hs
   ·exact hs
  ·obtain ⟨x,hx,e⟩:=List.any_eq_true.mp ha
   refine ⟨_,List.mem_map.mpr ⟨x,hx,rfl⟩,?_⟩
   rw [if_pos (of_decide_eq_true e)]
   simp
 ·rcases h with ⟨x,hx,hs⟩|rfl
  ·exact ⟨x,List.mem_append_left _ hx,hs⟩
  ·exact ⟨_,List.mem_append_right _ (List.mem_singleton.mpr rfl),by simp⟩
theorem qyb (R:List (List Int)) : ∀ n s,s<n→(qx R s).any (· != 0)=true → ∃ x ∈ grs R n,s ∈ x.2
 | 0,s,h,_=>by omega
 | n+1,s,h,ea=>by
  unfold grs
  by_cases e:s=n
  ·subst e;rw [if_pos ea];exact qvm (.inr rfl)
  ·have ih:=qyb R n s (by omega) ea
   split
   ·exact qvm (.inl ih)
   ·exact ih
theorem qsp (R:List (List Int)) : ∀ n,∀ x ∈ grs R n,x.2.Nodup
 | 0,x,hx=>by cases hx
 | n+1,x,hx=>by
  unfold grs at hx
  split at hx
  ·unfold qmq at hx
   split at hx
   ·obtain ⟨y,hy,rfl⟩:=List.mem_map.mp hx
    have ih:=qsp R n y hy
    have lt:=qmg R n y hy
    split
    ·refine List.nodup_append.mpr ⟨ih,by simp,fun a ha b hb=>?_⟩
     have:=lt a ha
     have:=List.mem_singleton.mp hb
     omega
    ·exact ih
   ·rcases List.mem_append.mp hx with z|z
    ·exact qsp R n x z
    ·rw [List.mem_singleton.mp z];simp
  ·exact qsp R n x hx
structure GsPart (R:List (List Int)) (n:Nat) (Gs:List (List Nat)):Prop where
 nd : ∀ G ∈ Gs,G.Nodup
 all : ∀ s,s<n→(qx R s).any (· != 0)=true → ∃ G ∈ Gs,s ∈ G
 one : ∀ (a b:Nat) (G G':List Nat) (s:Nat),Gs[a]?=some G→Gs[b]?=some G'→s ∈ G→s ∈ G'→a=b
 pr : ∀ G ∈ Gs,∀ s ∈ G,Col (qx R s)∧nrm (qx R s)=nrm (jc R G)
theorem zaiv {R:List (List Int)} (hn : ∀ r ∈ R,∀ x ∈ r,0≤x) {n:Nat}{p:Array Nat} (hp:PmN (grs R n).length p):GsPart R n (p.toList.map fun i=>qeh R n i):=by
 have pm:=zagn hp fun i=>qeh R n i
 rw [qrf] at pm
 have h:=qme hn n
 have mem : ∀ G ∈ p.toList.map (fun i=>qeh R n i),∃ x ∈ grs R n,x.2=G:=fun G hG=>List.mem_map.mp (pm.mem_iff.mp hG)
 have nd:p.toList.Nodup:=hp.p.nodup_iff.mpr List.nodup_range
 refine ⟨fun G hG=>?_,fun s hs ea=>?_,fun a b G G' s ea eb ha hb=>?_,fun G hG s hs=>?_⟩
 ·obtain ⟨x,hx,rfl⟩:=mem G hG
  exact qsp R n x hx
 ·obtain ⟨x,hx,hs⟩:=qyb R n s hs ea
  exact ⟨x.2,pm.mem_iff.mpr (List.mem_map.mpr ⟨x,hx,rfl⟩),hs⟩
 ·rw [List.getElem?_map] at ea eb
  cases e1:p.toList[a]? with
  | none=>rw [e1] at ea;cases ea
  | some i =>
   cases e2:p.toList[b]? with
   | none=>rw [e2] at eb;cases eb
   | some j =>
    rw [e1] at ea
    rw [e2] at eb
    cases ea
    cases eb
    have hi:i<(grs R n).length:=List.mem_range.mp (hp.p.mem_iff.mp (List.mem_of_getElem? e1))
    have hj:j<(grs R n).length:=List.mem_range.mp (hp.p.mem_iff.mp (List.mem_of_getElem? e2))
    have gi : ∀ {i:Nat} (hi:i<(grs R n).length),qeh R n i=(grs R n)[i].2:=fun {i} hi=>by unfold qeh;rw [List.getElem?_eq_getElem hi];rfl
    have ha:s ∈ qeh R n i:=ha
    have hb:s ∈ qeh R n j:=hb
    rw [gi hi] at ha
    rw [gi hj] at hb
    have k1:=(h.me _ (List.getElem_mem hi) s ha).2
    have k2:=(h.me _ (List.getElem_mem hj) s hb).2
    have ij:i=j:=by
     have q:(grs R n)[i].1=(grs R n)[j].1:=k1.symm.trans k2
     have z:=h.ky
     refine (List.getElem?_inj (i:=i) (j:=j) (by simpa using hi) z).mp ?_
     rw [List.getElem?_map,List.getElem?_map,List.getElem?_eq_getElem hi,List.getElem?_eq_getElem hj]
     exact congrArg some q
    subst ij
    exact (List.getElem?_inj (List.getElem?_eq_some_iff.mp e1).1 nd).mp (e1.trans e2.symm)
 ·obtain ⟨x,hx,rfl⟩:=mem G hG
  obtain ⟨c,e⟩:=h.me x hx s hs
  exact ⟨c,e.trans (qxs (h.ne x hx) (h.me x hx)).1.symm⟩
theorem qoh (r:List Int) {n:Nat} : ∀ {G:List Nat},G.Nodup→(∀ s ∈ G,s<n)→qct r G=qL n fun i=>if i ∈ G then (r[i]?).getD 0 else 0
 | [],_,_=>by rw [qec fun i _=>by rw [if_neg (by simp)]];simp [qct]
 | s::G,nd,lt=>by
  rw [List.nodup_cons] at nd
  have ih:=qoh r (n:=n) nd.2 fun x hx=>lt x (List.mem_cons_of_mem _ hx)
  have e:qct r (s::G)=(r[s]?).getD 0+qct r G:=by unfold qct;rw [List.map_cons,List.sum_cons]
  have q:(qL n fun i=>if i ∈ s::G then (r[i]?).getD 0 else 0)=qL n fun i=>(if i=s then (r[i]?).getD 0 else 0)+if i ∈ G then (r[i]?).getD 0 else 0:=qG fun i _=>by
   by_cases e1:i=s
   ·subst e1;rw [if_pos (by simp),if_pos rfl,if_neg nd.1,Int.add_zero]
   ·rw [if_neg e1,Int.zero_add]
    by_cases e2:i ∈ G
    ·rw [if_pos (List.mem_cons_of_mem _ e2),if_pos e2]
    ·rw [if_neg (by simp [e1,e2]),if_neg e2]
  rw [e,ih,q,qot,qbp (lt s (by simp)) fun i _ ne=>if_neg ne,if_pos rfl]
theorem qyd {R:List (List Int)}{Gs:List (List Nat)}{s l:Nat}{r:List Int}{G:List Nat} (hs:R[s]?=some r) (hl:Gs[l]?=some G):at2 (R.map (qmr Gs)) s l=qct r G:=by
 refine qda (r:=qmr Gs r) (by rw [List.getElem?_map,hs];rfl) ?_
 unfold qmr
 rw [List.getElem?_map,hl];rfl
theorem zagp {R:List (List Int)}{i s:Nat} (h : ¬ (qx R i).any (· != 0)=true) (hs:s<R.length):at2 R s i=0:=by
 have e:R[s]?=some R[s]:=List.getElem?_eq_getElem hs
 rw [qbv e]
 refine Classical.byContradiction fun z=>h (List.any_eq_true.mpr ⟨_,?_,by simpa using z⟩)
 unfold qx
 exact List.mem_map.mpr ⟨_,List.getElem_mem hs,rfl⟩
theorem qio {Gs:List (List Nat)}{s:Nat} (h : ∃ G ∈ Gs,s ∈ G) : ∃ G,Gs[qbm Gs s]?=some G∧s ∈ G:=by
 unfold qbm
 cases e:Gs.findIdx? (fun G=>G.contains s) with
 | none =>
  rw [List.findIdx?_eq_none_iff] at e
  obtain ⟨G,hG,hs⟩:=h
  have:=e G hG
  simp at this
  exact (this hs).elim
 | some i =>
  rw [List.findIdx?_eq_some_iff_getElem] at e
  obtain ⟨hi,q,_⟩:=e
  exact ⟨Gs[i],List.getElem?_eq_getElem hi,by simpa using q⟩
theorem qwz {Gs:List (List Nat)}{s:Nat} (h:Gs≠[]):qbm Gs s<Gs.length:=by
 by_cases e : ∃ G ∈ Gs,s ∈ G
 ·obtain ⟨G,hG,_⟩:=qio e
  exact (List.getElem?_eq_some_iff.mp hG).1
 ·rw [qiu fun G hG z=>e ⟨G,hG,z⟩]
  exact List.length_pos_iff.mpr h
section
variable {b:Int}{R:List (List Int)}{n:Nat}{Gs:List (List Nat)}
theorem zaph (hT:Tab b R n) (hR:R≠[]) (g:GsOk R n Gs):Gs≠[]:=fun z=>by
 obtain ⟨r,R',rfl⟩:=List.exists_cons_of_ne_nil hR
 have:=g.sum r (by simp) (hT.len r (by simp))
 rw [z,hT.sum r (by simp)] at this
 have:=hT.pos
 simp at *
 omega
theorem zaak (hT:Tab b R n) (hR:R≠[]) (g:GsOk R n Gs) (h:GsPart R n Gs):Dul b R n b (R.map (qmr Gs)) Gs.length 1 (mkT n Gs.length fun i j=>if qbm Gs i=j then 1 else 0):=by
 refine Dul.pick (fun i hi=>qwz (zaph hT hR g)) fun s l hs hl=>?_
 have e1:R[s]?=some R[s]:=List.getElem?_eq_getElem hs
 have e2:Gs[l]?=some Gs[l]:=List.getElem?_eq_getElem hl
 have m2:=List.getElem_mem hl
 rw [qyd e1 e2,qoh R[s] (n:=n) (h.nd _ m2) (g.lt _ m2),Int.mul_comm]
 congr 1
 refine qG fun i hi=>?_
 rw [qbv e1]
 by_cases hm:i ∈ Gs[l]
 ·have:qbm Gs i=l:=by
   obtain ⟨G,hG,hi'⟩:=qio ⟨_,m2,hm⟩
   exact h.one _ _ _ _ i hG e2 hi' hm
  rw [if_pos hm,if_pos this,Int.mul_one]
 ·rw [if_neg hm]
  by_cases hp:qbm Gs i=l
  ·rw [if_pos hp,Int.mul_one]
   have:=zagp (R:=R) (i:=i) (s:=s) (fun ea=>hm ?_) hs
   ·rw [qbv e1] at this;exact this
   ·obtain ⟨G,hG,hi'⟩:=qio (h.all i hi ea)
    rw [hp,e2] at hG
    cases hG
    exact hi'
  ·rw [if_neg hp,Int.mul_zero]
theorem zakt (h:GsPart R n Gs) (g:GsOk R n Gs) {G:List Nat} (hG:G ∈ Gs) {i:Nat} (hi:i ∈ G) {s:Nat}{r:List Int} (hs:R[s]?=some r):qct r G*(qx R i).sum=(r[i]?).getD 0*(jc R G).sum:=by
 obtain ⟨c,e⟩:=h.pr G hG i hi
 have pr:=qww e
 have k1:(jc R G)[s]?=some (qct r G):=by unfold jc;rw [List.getElem?_map,hs];rfl
 have k2:(qx R i)[s]?=some ((r[i]?).getD 0):=by unfold qx;rw [List.getElem?_map,hs];rfl
 have key : ∀ (u v:List Int) (x y:Int),u.length=v.length→(∀ (j:Nat) (a d:Int),u[j]?=some a→v[j]?=some d→x*a=y*d)→x*u.sum=y*v.sum:=by
  intro u
  induction u with
  | nil=>intro v x y hl _;cases v with
   | nil=>simp
   | cons _ _=>simp at hl
  | cons a u ih =>
   intro v x y hl hh
   cases v with
   | nil=>simp at hl
   | cons d v =>
    rw [List.sum_cons,List.sum_cons,Int.mul_add,Int.mul_add,hh 0 a d rfl rfl,ih v x y (by simpa using hl) fun j a d h1 h2=>hh (j+1) a d (by simpa using h1) (by simpa using h2)]
 refine key _ _ _ _ (by unfold qx jc;rw [List.length_map,List.length_map]) fun j a d ha hd=>?_
 have:=pr s j _ _ _ _ k2 ha k1 hd
 grind
theorem qwv (hT:Tab b R n) (hR:R≠[]) (g:GsOk R n Gs) (h:GsPart R n Gs) {B:Int} (hB:LcmB (Gs.map fun G=>qF R G n) B):Dul b (R.map (qmr Gs)) Gs.length b R n B ((Gs.map fun G=>qF R G n).map (qcc B)):=by
 have B0:=hB.pos
 have jp : ∀ G ∈ Gs,0<(jc R G).sum:=fun G hG=>(zagk hT g hG).1
 have atD : ∀ {l i:Nat}{G:List Nat},Gs[l]?=some G→i<n→at2 ((Gs.map fun G=>qF R G n).map (qcc B)) l i*(jc R G).sum=B*qI R G i:=fun {l i G} hl hi=>by
  have hG:=List.mem_of_getElem? hl
  have w0:=jp G hG
  obtain ⟨s1,e1⟩:=qlu (t:=qI R G i) (b:=(jc R G).sum) (by omega)
  have dv:shB (qI R G i) (jc R G).sum∣B:=hB.dv _ (List.mem_map.mpr ⟨G,hG,rfl⟩) (shT (qI R G i) (jc R G).sum,shB (qI R G i) (jc R G).sum) (List.mem_map.mpr ⟨i,List.mem_range.mpr hi,rfl⟩)
  rw [qda (r:=qcc B (qF R G n)) (x:=shT (qI R G i) (jc R G).sum*(B/shB (qI R G i) (jc R G).sum)) (by rw [List.getElem?_map,List.getElem?_map,hl];rfl) (by unfold qcc qF;rw [List.getElem?_map,List.getElem?_map,List.getElem?_range hi];rfl)]
  have q1:=s1.pos
  have e2:=Int.mul_ediv_cancel' dv
  generalize shT (qI R G i) (jc R G).sum=x at *
  generalize shB (qI R G i) (jc R G).sum=y at *
  generalize B/y=k at *
  rw [← e2]
  grind
 have tsum : ∀ G ∈ Gs,(qL n fun i=>qI R G i)=(jc R G).sum:=fun G hG=>by
  have e:(qL n fun i=>qI R G i)=qL n fun i=>qL R.length fun s=>if i ∈ G then at2 R s i else 0:=qG fun i hi=>by
   unfold qI
   split
   ·unfold qx
    rw [← qbs]
    congr 1
    refine List.ext_getElem? fun s=>?_
    rw [List.getElem?_map,List.getElem?_map]
    by_cases hs:s<R.length
    ·rw [List.getElem?_range hs,List.getElem?_eq_getElem hs]
     show some _=some (at2 R s i)
     rw [qbv (List.getElem?_eq_getElem hs)]
    ·rw [List.getElem?_eq_none (by omega),List.getElem?_eq_none (by simp;omega)];rfl
   ·exact (qec fun _ _=>rfl).symm
  rw [e,qse]
  unfold jc
  rw [← qbs]
  congr 1
  refine List.ext_getElem? fun s=>?_
  rw [List.getElem?_map,List.getElem?_map]
  by_cases hs:s<R.length
  ·rw [List.getElem?_range hs,List.getElem?_eq_getElem hs]
   show some _=some (qct R[s] G)
   rw [qoh R[s] (n:=n) (h.nd G hG) (g.lt G hG)]
   refine congrArg some (qG fun i hi=>?_)
   rw [qbv (List.getElem?_eq_getElem hs)]
  ·rw [List.getElem?_eq_none (l:=R) (by omega),List.getElem?_eq_none (by simp;omega)];rfl
 have rowOf : ∀ r ∈ (Gs.map fun G=>qF R G n).map (qcc B),∃ (l:Nat) (G:List Nat),Gs[l]?=some G∧r=(List.range n).map fun i=>at2 ((Gs.map fun G=>qF R G n).map (qcc B)) l i:=fun r hr=>by
  obtain ⟨l,hl⟩:=List.mem_iff_getElem?.mp hr
  rw [List.map_map,List.getElem?_map] at hl
  cases e:Gs[l]? with
  | none=>rw [e] at hl;cases hl
  | some G =>
   rw [e] at hl
   cases hl
   refine ⟨l,G,e,List.ext_getElem? fun i=>?_⟩
   show (qcc B (qF R G n))[i]?=_
   rw [List.getElem?_map]
   by_cases hi:i<n
   ·rw [List.getElem?_range hi]
    have g1:(qcc B (qF R G n))[i]?=some (shT (qI R G i) (jc R G).sum*(B/shB (qI R G i) (jc R G).sum)):=by unfold qcc qF;rw [List.getElem?_map,List.getElem?_map,List.getElem?_range hi];rfl
    rw [g1,← qda (T:=(Gs.map fun G=>qF R G n).map (qcc B)) (i:=l) (by rw [List.getElem?_map,List.getElem?_map,e];rfl) g1];rfl
   ·rw [List.getElem?_eq_none (by unfold qcc qF;simp;omega),List.getElem?_eq_none (by simp;omega)];rfl
 refine ⟨⟨by omega,fun r hr=>?_,fun r hr x hx=>?_,fun r hr=>?_⟩,by simp,fun s i hs hi=>?_⟩
 ·obtain ⟨l,G,hl,e⟩:=rowOf r hr
  rw [e];simp
 ·obtain ⟨l,G,hl,e⟩:=rowOf r hr
  rw [e] at hx
  obtain ⟨i,hi,rfl⟩:=List.mem_map.mp hx
  have k:=atD hl (List.mem_range.mp hi)
  have w0:=jp G (List.mem_of_getElem? hl)
  have t0:=(zahb hT G i).1
  have:0*(jc R G).sum≤at2 ((Gs.map fun G=>qF R G n).map (qcc B)) l i*(jc R G).sum:=by rw [k,Int.zero_mul];exact Int.mul_nonneg (by omega) t0
  exact Int.le_of_mul_le_mul_right this w0
 ·obtain ⟨l,G,hl,e⟩:=rowOf r hr
  have hG:=List.mem_of_getElem? hl
  have w0:=jp G hG
  rw [e,qbs]
  have:(jc R G).sum*(qL n fun i=>at2 ((Gs.map fun G=>qF R G n).map (qcc B)) l i)=(jc R G).sum*B:=by
   rw [← qam,qG (g:=fun i=>B*qI R G i) fun i hi=>by rw [Int.mul_comm];exact atD hl hi,qam,tsum G hG,Int.mul_comm]
  exact Int.eq_of_mul_eq_mul_left (by omega) this
 ·have hs':s<R.length:=by simpa using hs
  have e1:R[s]?=some R[s]:=List.getElem?_eq_getElem hs'
  rw [qbv e1]
  by_cases ea:(qx R i).any (· != 0)=true
  ·obtain ⟨G,hG,hm⟩:=h.all i hi ea
   obtain ⟨l,hl⟩:=List.mem_iff_getElem?.mp hG
   have ll:=(List.getElem?_eq_some_iff.mp hl).1
   have w0:=jp G hG
   rw [qbp ll fun l' hl' ne=>?_]
   ·rw [qyd e1 hl]
    have k1:=atD hl hi
    have k2:=zakt h g hG hm e1
    have k3:qI R G i=(qx R i).sum:=if_pos hm
    rw [k3] at k1
    refine Int.eq_of_mul_eq_mul_right (show (jc R G).sum≠0 by omega) ?_
    generalize at2 ((Gs.map fun G=>qF R G n).map (qcc B)) l i=x at *
    generalize (jc R G).sum=w at *
    calc b*(qct R[s] G*x)*w=b*(qct R[s] G*(x*w)):=by grind
     _=b*B*(qct R[s] G*(qx R i).sum):=by rw [k1];grind
     _=_:=by rw [k2];grind
   ·have el:Gs[l']?=some Gs[l']:=List.getElem?_eq_getElem hl'
    have k1:=atD el hi
    have nm:i ∉ Gs[l']:=fun z=>ne (h.one _ _ _ _ i el hl z hm)
    rw [show qI R Gs[l'] i=0 from if_neg nm,Int.mul_zero] at k1
    have w1:=jp _ (List.getElem_mem hl')
    rcases Int.mul_eq_zero.mp k1 with z|z
    ·rw [z,Int.mul_zero]
    ·omega
  ·have z:=zagp ea hs'
   rw [qbv e1] at z
   rw [z,Int.zero_mul,Int.zero_mul,qec fun l hl=>?_,Int.mul_zero]
   have el:Gs[l]?=some Gs[l]:=List.getElem?_eq_getElem hl
   have k1:=atD el hi
   have pz:qI R Gs[l] i=0:=by
    unfold qI
    split
    ·rename_i hm
     obtain ⟨⟨_,x,hx,nx⟩,_⟩:=h.pr _ (List.getElem_mem hl) i hm
     exact (ea (List.any_eq_true.mpr ⟨x,hx,by simpa using nx⟩)).elim
    ·rfl
   rw [pz,Int.mul_zero] at k1
   have w1:=jp _ (List.getElem_mem hl)
   rcases Int.mul_eq_zero.mp k1 with z2|z2
   ·rw [z2,Int.mul_zero]
   ·omega
end
def Shp (n:Nat) (d:PyData):Prop:=d.canLay0=true∧d.depth≤n
theorem qrv {n:Nat} : ∀ {l:List PyData},(∀ x ∈ l,Shp n x)→PyData.canLayAll0 l=true∧PyData.depthAll l≤n
 | [],_=>by simp [PyData.canLayAll0,PyData.depthAll]
 | x::l,h=>by
  obtain ⟨a,b⟩:=qrv fun y hy=>h y (List.mem_cons_of_mem _ hy)
  obtain ⟨c,d⟩:=h x (by simp)
  rw [PyData.canLayAll0,PyData.depthAll,a,c]
  exact ⟨rfl,by omega⟩
theorem qyv (i:Int) (n:Nat):Shp n (.int i):=by simp [Shp,PyData.canLay0,PyData.depth]
theorem zajl {n:Nat}{l:List PyData} (h : ∀ x ∈ l,Shp n x):Shp (n+1) (.list l):=by
 obtain ⟨a,b⟩:=qrv h
 rw [Shp,PyData.canLay0,PyData.depth]
 exact ⟨a,by omega⟩
theorem qzd {n:Nat}{l:List PyData} (h : ∀ x ∈ l,Shp n x):Shp (n+1) (.tuple l):=by
 obtain ⟨a,b⟩:=qrv h
 rw [Shp,PyData.canLay0,PyData.depth]
 exact ⟨a,by omega⟩
theorem Shp.ok {n:Nat}{d:PyData} (h:Shp n d) (hn:n≤64:=by decide):SeqAt.shaped d=true:=by
 unfold SeqAt.shaped
 rw [h.1,decide_eq_true (Nat.le_trans h.2 hn)];rfl
theorem Shp.refl {n:Nat}{d:PyData} (h:Shp n d):PyData.eqv d d=true:=SeqAt.eqv_refl d h.1
structure St (z:Nat) (p q:Int):Prop where
 s:Shr p q
 b1:intBits p≤z
 b2:intBits q≤z
structure G20 (W m:Nat) (b:Int) (R:List (List Int)):Prop where
 h:Gls b R m
 l:R.length=W
 m1:1≤m
 m2:m≤4
 b:b≤9999
theorem zade {t u:Int} (t0:0≤t) (tu:t≤u) (u1:1≤u):Shr (shT t u) (shB t u)∧0≤shT t u∧shT t u≤shB t u∧shB t u≤u:=by
 obtain ⟨s1,e1⟩:=qlu (t:=t) (b:=u) (by omega)
 refine ⟨s1,?_,?_,?_⟩
 ·rcases Int.lt_or_le (shT t u) 0 with h|h
  ·exfalso
   have a:=Int.mul_neg_of_neg_of_pos h (show 0<u by omega)
   have b:=Int.mul_nonneg t0 (show 0≤shB t u by have:=s1.pos;omega)
   omega
  ·exact h
 ·rcases Int.lt_or_le (shB t u) (shT t u) with h|h
  ·exfalso
   have a:=Int.mul_lt_mul_of_pos_right h (show 0<u by omega)
   have b:=Int.mul_le_mul_of_nonneg_right tu (show 0≤shB t u by have:=s1.pos;omega)
   rw [Int.mul_comm (shB t u) u] at a
   omega
  ·exact h
 ·exact Int.le_of_dvd (by omega) ⟨cm t u,by rw [Int.mul_comm];exact (qsb t u).symm⟩
def Blw (x y:Int) (p:Int×Int):Prop:=p.1*y≤x*p.2∧intBits p.1≤64∧intBits p.2≤64
theorem fbl {b:Int}{P Y:List (List Int)}{n a W:Nat} (hT:Tab b P n) (hl:P.length=W) (w1:1≤W) (w4:W≤4) (hn:n≤12) (hb:b≤1000000000000) (hY:Pays Y W a) (a1:1≤a) (a6:a≤6):FbPre (b/qH P) (qaw P (qH P)) n Y a:=by
 have b0:=hT.pos
 have g:=hT.gls (show P≠[] from fun z=>by rw [z] at hl;simp at hl;omega)
 have g0:=g.t.pos
 have:b/qH P≤b:=Int.ediv_le_self _ (by omega)
 have e:(qaw P (qH P)).length=W:=by simp [qaw,hl]
 exact ⟨g.t,by rw [e];exact hY,by omega,by omega,by omega,by omega,by omega,qi (qV (by omega) (by omega)) (by decide)⟩
theorem qpi {b c:Int}{R S Y:List (List Int)}{m n a W:Nat}{B:Int}{D:List (List Int)} (h:Dul b R m c S n B D) (hR:Tab b R m) (hS:Tab c S n) (lR:R.length=W) (lS:S.length=W) (w4:W≤4) (hY:Pays Y W a) (a1:1≤a) (hc:c≤1000000000000):Blw (shT (bst R Y a m) b) (shB (bst R Y a m) b) (shT (bst S Y a n) c,shB (bst S Y a n) c):=by
 have hb:=hR.pos
 have hc0:=hS.pos
 have l:=qkm h (by omega) (by omega) a1 lR lS hY.m
 obtain ⟨z1,z2⟩:=qfe hS (by rw [lS];exact hY) a1 (by omega) hc
 exact ⟨zaib (by omega) (by omega) l,z1,z2⟩
theorem qzp {b c:Int}{R S Y:List (List Int)}{m n a W:Nat}{B:Int}{D:List (List Int)} (h:Dul b R m c S n B D) (hR:Tab b R m) (hS:Tab c S n) (lR:R.length=W) (lS:S.length=W) (w1:1≤W) (w4:W≤4) (hY:Pays Y W a) (a1:1≤a) (hc:c≤1000000000000):Blw (shT (bst R Y a m) b) (shB (bst R Y a m) b) (shT (bst (qaw S (qH S)) Y a n) (c/qH S),shB (bst (qaw S (qH S)) Y a n) (c/qH S)):=by
 obtain ⟨e1,e2⟩:=qhr (Y:=Y) (a:=a) hS (fun z=>by rw [z] at lS;simp at lS;omega) a1 (by rw [lS];exact hY.m)
 rw [e1,e2]
 exact qpi h hR hS lR lS w4 hY a1 hc
theorem qya {b c:Int}{R S Y:List (List Int)}{m n a W:Nat}{B:Int}{D:List (List Int)} (h:Dul b R m c S n B D) (hR:Tab b R m) (hS:Tab c S n) (lR:R.length=W) (lS:S.length=W) (w1:1≤W) (w4:W≤4) (hY:Pays Y W a) (a1:1≤a) (hc:c≤1000000000000):Blw (shT (bst (qaw R (qH R)) Y a m) (b/qH R)) (shB (bst (qaw R (qH R)) Y a m) (b/qH R)) (shT (bst S Y a n) c,shB (bst S Y a n) c):=by
 obtain ⟨e1,e2⟩:=qhr (Y:=Y) (a:=a) hR (fun z=>by rw [z] at lR;simp at lR;omega) a1 (by rw [lR];exact hY.m)
 rw [e1,e2]
 exact qpi h hR hS lR lS w4 hY a1 hc
theorem zagh {b:Int}{R Y:List (List Int)}{m a W:Nat} (hR:Tab b R m) (lR:R.length=W) (w1:1≤W) (w4:W≤4) (hY:Pays Y W a) (a1:1≤a) (hb:b≤1000000000000):intBits (shT (bst (qaw R (qH R)) Y a m) (b/qH R))≤64∧intBits (shB (bst (qaw R (qH R)) Y a m) (b/qH R))≤64:=by
 obtain ⟨e1,e2⟩:=qhr (Y:=Y) (a:=a) hR (fun z=>by rw [z] at lR;simp at lR;omega) a1 (by rw [lR];exact hY.m)
 rw [e1,e2]
 exact qfe hR (by rw [lR];exact hY) a1 (by omega) hb
theorem qcg:FnScope ["_law_script","_law_pen_here","_law_many","_law_one","_law_other","_law_dulling","_law_bottom","_law_part","_law_payoffs_here","_law_here","_law_there","_law_dull","_law_lower","_law_at","_law_again","_law_both"] ["_law_script"] (defScope qlv):=⟨rfl,rfl,rfl,by decide +kernel,rfl,by decide +kernel,by decide +kernel⟩
theorem zano {f:Addr}{fd:FuncData} (F:Fun K "law" "law" qlv f fd) (T:Txt K mg cs)
 (O_clear:Ok P w K mg base "clear" 5 ["many"] (PSp K qva))
 (O_blind:Ok P w K mg base "blind" 5 ["many"] (PSp K quw))
 (O_dulled:Ok P w K mg base "dulled" 5 ["glass","dulling"] (PSp K qqf))
 (O_beside:Ok P w K mg base "beside" 4 ["one","other"] (PSp K qqv))
 (O_mixed:Ok P w K mg base "mixed" 4 ["part","one","other"] (PSp K quk))
 (O_joined:Ok P w K mg base "joined" 4 ["glass","i","j"] (PSp K qxy))
 (O_least:Ok P w K mg base "least" 5 ["glass"] (TSp cs.tb K qvq))
 (O__law_pen:Ok P w K mg base "_law_pen" 1 ["_law_script"] (FSp K qle))
 (O__law_next:Ok P w K mg base "_law_next" 2 ["_law_pen_here","_law_many"] (NSp K qbo))
 (O__law_share:Ok P w K mg base "_law_share" 2 ["_law_top","_law_bottom"] (PSp K qew))
 (O__law_table:Ok P w K mg base "_law_table" 4 ["_law_pen_here","_law_many","_law_most","_law_far"] (NSp K qhv))
 (O__law_payoffs:Ok P w K mg base "_law_payoffs" 3 ["_law_pen_here","_law_many","_law_acts"] (NSp K qga))
 (O__law_gains:Ok P w K mg base "_law_gains" 6 ["_law_glass","_law_payoffs_here"] (PSp K qhs))
 (O__law_above:Ok P w K mg base "_law_above" 1 ["_law_one","_law_other"] (PSp K qev))
 (O__law_mixed_gain:Ok P w K mg base "_law_mixed_gain" 3 ["_law_part","_law_one","_law_other"] (PSp K qea))
 : FnOk P w K mg base CX0 7 f fd ["_law_script"] (qpg cs.tb K):=by
  refine F.vlawT qcg rfl fun cdv A outer s H E hr ts F0 σ ns hlen ft hE=>?_
  refine ⟨_,zaoc 19 (VSs.pss (qg (qgi (i:=1) qcg.nd (qgm O__law_pen (hr.mono (by decide)) (qa (qc 0) qd)))
   (qav (qy (i:=2) qcg.nd (qw qcz qe (qae 1 O__law_next (hr.mono (by decide)) (qa qe qd))))
   (qav (qy (i:=3) qcg.nd (qae 1 O__law_table (hr.mono (by decide)) (qa (qc 2) (qa qe (qa qe qd)))))
   (qav (qy (i:=4) qcg.nd (qae 1 O__law_table (hr.mono (by decide)) (qa (qc 2) (qa qe (qa qe qd)))))
   (qav (qy (i:=5) qcg.nd (qae 1 O__law_table (hr.mono (by decide)) (qa (qt qcd T.len_ L2.boot_len (qa (qv (qv (qc 3) qe) qe) qd)) (qa qe (qa qe qd)))))
   (qg (qy (i:=6) qcg.nd (qw qcz qe (qae 1 O__law_next (hr.mono (by decide)) (qa qe qd))))
   (qav (qy (i:=7) qcg.nd (ql O__law_share (hr.mono (by decide)) (qa (qae 1 O__law_next (hr.mono (by decide)) (qa (qw qcz (qc 6) qe) qd)) (qa (qc 6) qd))))
   (qav (qy (i:=8) qcg.nd (qae 1 O__law_payoffs (hr.mono (by decide)) (qa (qc 2) (qa (qw qcz qe (qae 1 O__law_next (hr.mono (by decide)) (qa qe qd))) qd))))
   (qg (qy (i:=9) qcg.nd (ql O__law_gains (hr.mono (by decide)) (qa (qc 3) (qa (qc 8) qd))))
   (qav (qy (i:=10) qcg.nd (ql O__law_gains (hr.mono (by decide)) (qa (qc 4) (qa (qc 8) qd))))
   (qav (qy (i:=11) qcg.nd (ql O_dulled (hr.mono (by decide)) (qa (qc 3) (qa (qc 5) qd))))
   (qav (qgi (i:=12) qcg.nd (qee (qa (ql O__law_gains (hr.mono (by decide)) (qa (qc 11) (qa (qc 8) qd))) (qa (ql O__law_gains (hr.mono (by decide)) (qa (ql O_blind (hr.mono (by decide)) (qa (qc 2) qd)) (qa (qc 8) qd))) qd))))
   (qav (qat (qaj o_gt (qt qcd T.len_ L2.boot_len (qa (qv (qv (qc 3) qe) qe) qd)) qe) (qg (qy (i:=13) qcg.nd (qae 1 O__law_next (hr.mono (by decide)) (qa (qw qjf (qt qcd T.len_ L2.boot_len (qa (qv (qv (qc 3) qe) qe) qd)) qe) qd)))
   (qh (qfd 12 (ql O__law_gains (hr.mono (by decide)) (qa (ql O_joined (hr.mono (by decide)) (qa (qc 3) (qa (qc 13) (qa (qw qcz (qc 13) qe) qd)))) (qa (qc 8) qd)))))) qE)
   (qpk 12 (qg (qat (qaj (qzg hr.units) (qM (zaam (caps:=["_law_here"]) (own:=["_law_found"]) (ix:=[9]) rfl ⟨rfl,rfl,rfl,rfl,rfl,rfl⟩ (qO (qc 12)) (fun _ _ _ _=>(qm (i:=1) (show List.Nodup (["_law_here","_law_found"]:List Str) by decide))) (fun _ _ _ _=>(qar (ql O__law_above (hr.mono (by decide)) (qa (qc 1) (qa (qc 0) qd))))) (fun _ _ _ _=>(qc 1)))) (qM (qee qd))) (qh (qu qin)) qE)
   (qav (qy (i:=14) qcg.nd (ql O_dulled (hr.mono (by decide)) (qa (qc 11) (qa (qae 1 O__law_table (hr.mono (by decide)) (qa (qt qcd T.len_ L2.boot_len (qa (qv (qv (qc 11) qe) qe) qd)) (qa qe (qa qe qd)))) qd))))
   (qg (qat (qar (ql O__law_above (hr.mono (by decide)) (qa (ql O__law_gains (hr.mono (by decide)) (qa (qc 14) (qa (qc 8) qd))) (qa (qv (qc 12) qe) qd)))) (qh (qu qin)) qE)
   (qav (qy (i:=15) qcg.nd (ql O__law_gains (hr.mono (by decide)) (qa (ql O_beside (hr.mono (by decide)) (qa (qc 3) (qa (qc 4) qd))) (qa (qc 8) qd))))
   (qg (qat (VW.pt (qgo (qar (ql O__law_above (hr.mono (by decide)) (qa (qc 9) (qa (qc 15) qd)))) (qgo (qar (ql O__law_above (hr.mono (by decide)) (qa (qc 10) (qa (qc 15) qd)))) (qff (qar (ql O__law_above (hr.mono (by decide)) (qa (qc 9) (qa (ql O__law_gains (hr.mono (by decide)) (qa (ql O_clear (hr.mono (by decide)) (qa (qc 2) qd)) (qa (qc 8) qd))) qd)))))))) (qh (qu qin)) qE)
   (qh (qat (qaj (qzg hr.units) (ql O__law_gains (hr.mono (by decide)) (qa (ql O_mixed (hr.mono (by decide)) (qa (qc 7) (qa (qc 3) (qa (qc 4) qd)))) (qa (qc 8) qd))) (ql O__law_mixed_gain (hr.mono (by decide)) (qa (qc 7) (qa (qc 9) (qa (qc 10) qd))))) (qh (qu qin)) qE)))))))))))))))))))))) (qkg (qmn (qyz (OpV.r (qwl hr.units)) (qob O__law_gains (hr.mono (by decide)) (qN (zaia ix_V (qob O_least (hr.mono (by decide)) (qN (qbb (i:=3) rfl (by first|exact Or.inl rfl|exact Or.inr (Or.inl rfl)) (by decide) (by decide)) qbj)) zagq (fun _ _=>rfl)) (qN (qbb (i:=8) rfl (by first|exact Or.inl rfl|exact Or.inr (Or.inl rfl)) (by decide) (by decide)) qbj))) (qbb (i:=9) rfl (by first|exact Or.inl rfl|exact Or.inr (Or.inl rfl)) (by decide) (by decide)) rfl))),?_⟩
  refine zafr hE (fun e => ∃ (W m a:Nat) (b:Int) (R Y:List (List Int)) (t1 t2 t4 t5 t6 t7 t10 t11 t12 t13 t14 t15:Sl),(G20 W m b R∧Pays Y W a∧2≤W∧W≤4∧1≤a∧a≤6)∧e=[.val (.list (ns.map .int)),t1,t2,.val (qC b R),t4,t5,t6,t7,.val (qij Y),.val (dSh (shT (bst R Y a m) b) (shB (bst R Y a m) b)),t10,t11,t12,t13,t14,t15]) ?_ ?_
  ·refine ⟨ns,rfl,hlen,fun p hp=>?_⟩
   refine ⟨fun e => ∃ (W:Nat) (p:List PyData),(qbt p∧2≤W∧W≤4)∧e=[.val (.list (ns.map .int)),.own p,.val (.int W),.non,.non,.non,.non,.non,.non,.non,.non,.non,.non,.non,.non,.non],?_,?_⟩
   ·refine ⟨rfl,rfl,3,rfl,hp,⟨by decide,by decide⟩,fun x p1 x0 x1 hp1=>?_⟩
    obtain ⟨W,eW⟩:=Int.eq_ofNat_of_zero_le (show 0≤2+x by omega)
    refine ⟨W,p1,⟨hp1,by omega,by omega⟩,?_⟩
    rw [eW];rfl
   rintro e ⟨W,p1,⟨hp1,W2,W3⟩,rfl⟩
   refine ⟨fun e => ∃ (m:Nat) (b:Int) (R:List (List Int)) (p:List PyData),(qbt p∧G20 W m b R∧m≤3)∧e=[.val (.list (ns.map .int)),.own p,.val (.int W),.val (qC b R),.non,.non,.non,.non,.non,.non,.non,.non,.non,.non,.non,.non],?_,?_⟩
   ·exact ⟨rfl,rfl,W,3,20,rfl,hp1,⟨by omega,by omega,by decide,by decide,by decide,by decide⟩,fun b R m p G hb hl n1 n2 hp=>⟨m,b,R,p,⟨hp,⟨G,by omega,by omega,by omega,hb⟩,by omega⟩,rfl⟩⟩
   rintro e ⟨m,b,R,p2,⟨hp2,G1,m3⟩,rfl⟩
   refine ⟨fun e => ∃ (n:Nat) (c:Int) (S:List (List Int)) (p:List PyData),(qbt p∧G20 W n c S∧n≤3)∧e=[.val (.list (ns.map .int)),.own p,.val (.int W),.val (qC b R),.val (qC c S),.non,.non,.non,.non,.non,.non,.non,.non,.non,.non,.non],?_,?_⟩
   ·exact ⟨rfl,rfl,W,3,20,rfl,hp2,⟨by omega,by omega,by decide,by decide,by decide,by decide⟩,fun b R m p G hb hl n1 n2 hp=>⟨m,b,R,p,⟨hp,⟨G,by omega,by omega,by omega,hb⟩,by omega⟩,rfl⟩⟩
   rintro e ⟨n,c,S,p3,⟨hp3,G2,n3⟩,rfl⟩
   have l1:=G1.l
   have l2:=G2.l
   have m1:=G1.m1
   have n1:=G2.m1
   obtain ⟨r0,R1,eR⟩:=List.exists_cons_of_ne_nil (show R≠[] from fun z=>by rw [z] at l1;simp at l1;omega)
   have l0:r0.length=m:=G1.h.t.len r0 (by rw [eR];simp)
   have aR:atI (R.map qdn) 0=some (qdn r0):=by rw [eR];exact qcy _ _
   have lr:(((r0.map PyData.int).length:Nat):Int)=m:=by rw [List.length_map,l0]
   refine ⟨fun e => ∃ (k:Nat) (d:Int) (D:List (List Int)) (p:List PyData),(qbt p∧G20 m k d D)∧e=[.val (.list (ns.map .int)),.own p,.val (.int W),.val (qC b R),.val (qC c S),.val (qC d D),.non,.non,.non,.non,.non,.non,.non,.non,.non,.non],?_,?_⟩
   ·refine ⟨rfl,_,rfl,_,aR,?_⟩
    exact ⟨rfl,_,4,12,rfl,hp3,⟨by omega,by omega,by decide,by decide,by decide,by decide⟩,fun d D k p G hd hl k1 k2 hp=>⟨k,d,D,p,⟨hp,⟨G,by omega,by omega,by omega,hd⟩⟩,rfl⟩⟩
   rintro e ⟨k,d,D,p4,⟨hp4,G3⟩,rfl⟩
   refine ⟨rfl,rfl,30,rfl,hp4,⟨by decide,by decide⟩,fun z p5 z0 z1 hp5=>?_⟩
   refine ⟨fun e => ∃ (u v:Int) (t6:Sl) (p:List PyData),(qbt p∧Shr u v∧0≤u∧u≤v∧v≤30)∧e=[.val (.list (ns.map .int)),.own p,.val (.int W),.val (qC b R),.val (qC c S),.val (qC d D),t6,.val (dSh u v),.non,.non,.non,.non,.non,.non,.non,.non],?_,?_⟩
   ·refine ⟨rfl,rfl,_,rfl,hp5,⟨by omega,qi (qV (by omega) (by omega)) (by decide)⟩,fun y p6 y0 y1 hp6=>?_⟩
    obtain ⟨s1,s2,s3,s4⟩:=zade y0 (show y≤1+z by omega) (by omega)
    exact ⟨_,_,rfl,⟨by omega,qi (qV (by omega) (by omega)) (by decide)⟩,_,_,_,p6,⟨hp6,s1,s2,s3,by omega⟩,rfl⟩
   clear z0 z1 z hp5 p5
   rintro e ⟨u,v,t6,p6,⟨hp6,Sv,u0,uv,v30⟩,rfl⟩
   refine ⟨fun e => ∃ (a:Nat) (Y:List (List Int)) (p:List PyData),(qbt p∧Pays Y W a∧1≤a∧a≤6)∧e=[.val (.list (ns.map .int)),.own p,.val (.int W),.val (qC b R),.val (qC c S),.val (qC d D),t6,.val (dSh u v),.val (qij Y),.non,.non,.non,.non,.non,.non,.non],?_,?_⟩
   ·refine ⟨rfl,rfl,rfl,6,rfl,hp6,⟨by decide,by decide⟩,fun z p7 z0 z1 hp7=>?_⟩
    obtain ⟨a,ea⟩:=Int.eq_ofNat_of_zero_le (show 0≤1+z by omega)
    exact ⟨rfl,W,a,by rw [← ea],hp7,⟨by omega,by omega,by omega,by omega⟩,fun Y p8 hY hp8=>⟨a,Y,p8,⟨hp8,hY,by omega,by omega⟩,rfl⟩⟩
   rintro e ⟨a,Y,p7,⟨hp7,hY,a1,a6⟩,rfl⟩
   have l3:=G3.l
   have hb:=G1.b
   have hc:=G2.b
   have hd:=G3.b
   have bp:=G1.h.t.pos
   have cp:=G2.h.t.pos
   have dp:=G3.h.t.pos
   have zb:intBits b≤64:=qV (by omega) (by omega)
   have zc:intBits c≤64:=qV (by omega) (by omega)
   have zd:intBits d≤64:=qV (by omega) (by omega)
   have Rn:R≠[]:=fun z=>by rw [z] at l1;simp at l1;omega
   have F1:FbPre b R m Y a:=⟨G1.h.t,by rw [l1];exact hY,by omega,by omega,by omega,by omega,by omega,qi zb (by decide)⟩
   have F2:FbPre c S n Y a:=⟨G2.h.t,by rw [l2];exact hY,by omega,by omega,by omega,by omega,by omega,qi zc (by decide)⟩
   refine ⟨b,R,m,Y,a,rfl,F1,?_⟩
   refine ⟨fun e=>e=[.val (.list (ns.map .int)),.own p7,.val (.int W),.val (qC b R),.val (qC c S),.val (qC d D),t6,.val (dSh u v),.val (qij Y),.val (dSh (shT (bst R Y a m) b) (shB (bst R Y a m) b)),.val (dSh (shT (bst S Y a n) c) (shB (bst S Y a n) c)),.non,.non,.non,.non,.non],⟨c,S,n,Y,a,rfl,F2,rfl⟩,?_⟩
   rintro e rfl
   have hP:=G1.h.t.prod G3.h.t l3
   have lP:(qco R D k).length=W:=by simp [qco,l1]
   have bd:b*d≤9999*9999:=Int.mul_le_mul hb hd (by omega) (by omega)
   have k12:=G3.m2
   have k1:=G3.m1
   refine ⟨fun e => ∃ (q:Int) (Q:List (List Int)),(Gls q Q k∧Q.length=W∧q≤9999*9999∧Blw (shT (bst R Y a m) b) (shB (bst R Y a m) b) (shT (bst Q Y a k) q,shB (bst Q Y a k) q))∧e=[.val (.list (ns.map .int)),.own p7,.val (.int W),.val (qC b R),.val (qC c S),.val (qC d D),t6,.val (dSh u v),.val (qij Y),.val (dSh (shT (bst R Y a m) b) (shB (bst R Y a m) b)),.val (dSh (shT (bst S Y a n) c) (shB (bst S Y a n) c)),.val (qC q Q),.non,.non,.non,.non],?_,?_⟩
   ·have Pn:qco R D k≠[]:=fun z=>by rw [z] at lP;simp at lP;omega
    exact ⟨b,R,m,d,D,k,rfl,⟨G1.h.t,G3.h.t,Rn,l3,by omega,by omega,by omega,by omega,qi zb (by decide),qi zd (by decide)⟩,_,_,⟨hP.gls Pn,by simp [qaw,lP],Int.le_trans (Int.ediv_le_self _ (by have:=hP.pos;omega)) bd,qzp (qum G1.h.t G3.h.t l3) G1.h.t hP l1 lP (by omega) W3 hY a1 (by omega)⟩,rfl⟩
   rintro e ⟨q,Q,⟨hQ,lQ,qb,bQ⟩,rfl⟩
   have qp:=hQ.t.pos
   obtain ⟨bT,_,_,bl⟩:=qra (n:=W) W2 W3
   obtain ⟨cT,_,_,cl⟩:=qqu (n:=W) W2 W3
   refine ⟨fun e => ∃ (L:List (Int×Int)) (p:List PyData),(qbt p∧L[0]?=some (shT (bst Q Y a k) q,shB (bst Q Y a k) q)∧L.length=2 ∧ ∀ pr ∈ L,Blw (shT (bst R Y a m) b) (shB (bst R Y a m) b) pr)∧e=[.val (.list (ns.map .int)),.own p,.val (.int W),.val (qC b R),.val (qC c S),.val (qC d D),t6,.val (dSh u v),.val (qij Y),.val (dSh (shT (bst R Y a m) b) (shB (bst R Y a m) b)),.val (dSh (shT (bst S Y a n) c) (shB (bst S Y a n) c)),.val (qC q Q),.own (L.map fun p=>dSh p.1 p.2),.non,.non,.non],?_,?_⟩
   ·refine ⟨q,Q,k,Y,a,rfl,⟨hQ.t,by rw [lQ];exact hY,by omega,by omega,by omega,by omega,by omega,qi (qV (by omega) (by omega)) (by decide)⟩,W,rfl,⟨W2,W3⟩,1,qce W,1,Y,a,rfl,⟨bT,by rw [bl];exact hY,by omega,by omega,by omega,by omega,by omega,by decide⟩,?_⟩
    obtain ⟨_,_,bD⟩:=zaao G1.h.t l1
    refine ⟨szl,[(shT (bst Q Y a k) q,shB (bst Q Y a k) q),(shT (bst (qce W) Y a 1) 1,shB (bst (qce W) Y a 1) 1)],p7,⟨hp7,rfl,rfl,fun pr hpr=>?_⟩,rfl⟩
    simp only [List.mem_cons,List.not_mem_nil,or_false] at hpr
    rcases hpr with rfl|rfl
    ·exact bQ
    ·exact qpi bD G1.h.t bT l1 bl W3 hY a1 (by decide)
   rintro e ⟨L,p8,⟨hp8,L0,L2,hL⟩,rfl⟩
   refine ⟨fun e => ∃ (L:List (Int×Int)) (p:List PyData) (t13:Sl),(qbt p∧L[0]?=some (shT (bst Q Y a k) q,shB (bst Q Y a k) q)∧L.length≤3 ∧ ∀ pr ∈ L,Blw (shT (bst R Y a m) b) (shB (bst R Y a m) b) pr)∧e=[.val (.list (ns.map .int)),.own p,.val (.int W),.val (qC b R),.val (qC c S),.val (qC d D),t6,.val (dSh u v),.val (qij Y),.val (dSh (shT (bst R Y a m) b) (shB (bst R Y a m) b)),.val (dSh (shT (bst S Y a n) c) (shB (bst S Y a n) c)),.val (qC q Q),.own (L.map fun p=>dSh p.1 p.2),t13,.non,.non],?_,?_⟩
   ·refine ⟨_,rfl,_,aR,qgx (fun hm=>?_) (fun _=>⟨L,p8,_,⟨hp8,L0,by omega,hL⟩,rfl⟩)⟩
    rw [lr] at hm
    refine ⟨rfl,_,rfl,_,aR,rfl,_,rfl,hp8,⟨by omega,qi (qV (by omega) (by omega)) (by decide)⟩,fun x p9 x0 x1 hp9=>?_⟩
    obtain ⟨i,rfl⟩:=Int.eq_ofNat_of_zero_le x0
    have hi:i+1<m:=by omega
    have hJ:=G1.h.t.join (show i<i+1 by omega) hi
    have lJ:(qeo R i (i+1)).length=W:=by rw [qkw];exact l1
    have Jn:qeo R i (i+1)≠[]:=fun z=>by rw [z] at lJ;simp at lJ;omega
    obtain ⟨e1,e2⟩:=qhr (Y:=Y) (a:=a) hJ Jn a1 (by rw [lJ];exact hY.m)
    obtain ⟨_,_,jD⟩:=zaek G1.h.t hi
    refine ⟨rfl,b,R,m,i,i+1,rfl,⟨G1.h.t,by omega,by omega,by omega,qi zb (by decide)⟩,by omega,by omega,by omega,_,_,m-1,Y,a,rfl,fbl hJ lJ (by omega) W3 (by omega) (by omega) hY a1 a6,?_⟩
    refine ⟨rfl,?_,L++[(shT (bst (qeo R i (i+1)) Y a (m-1)) b,shB (bst (qeo R i (i+1)) Y a (m-1)) b)],p9,.val (.int i),⟨hp9,?_,?_,fun pr hpr=>?_⟩,?_⟩
    ·show (L.map _).length<_
     rw [List.length_map,L2];decide
    ·rw [List.getElem?_append_left (by omega)];exact L0
    ·simp [L2]
    ·rcases List.mem_append.mp hpr with h|h
     ·exact hL pr h
     ·rw [List.mem_singleton.mp h]
      exact qpi jD G1.h.t hJ l1 lJ W3 hY a1 (by omega)
    ·rw [List.map_append,← e1,← e2];rfl
   rintro e ⟨L,p9,t13,⟨hp9,L0,L3,hL⟩,rfl⟩
   obtain ⟨z1,z2⟩:=qfe (a:=a) (Y:=Y) G1.h.t (by rw [l1];exact hY) a1 (by omega) (by omega)
   have ab : ∀ pr ∈ L,qev [dSh pr.1 pr.2,dSh (shT (bst R Y a m) b) (shB (bst R Y a m) b)] fun q=>q = .bool false:=fun pr hpr=>by
    obtain ⟨h1,h2,h3⟩:=hL pr hpr
    exact ⟨_,_,_,_,rfl,⟨qi h2 (by decide),qi h3 (by decide),qi z1 (by decide),qi z2 (by decide)⟩,by rw [decide_eq_false (by omega)]⟩
   refine ⟨qk (by rw [List.length_map];omega),fun k ys e=>ys=[] ∧ ∃ t,e=[.val (dSh (shT (bst R Y a m) b) (shB (bst R Y a m) b)),t],⟨rfl,_,rfl⟩,?_,?_⟩
   ·rintro i x ys e hx ⟨rfl,t,rfl⟩
    rw [List.getElem?_map] at hx
    cases ex:L[i]? with
    | none=>rw [ex] at hx;cases hx
    | some pr =>
     rw [ex] at hx
     cases hx
     obtain ⟨h1,h2,h3⟩:=hL pr (List.mem_of_getElem? ex)
     exact ⟨_,_,_,_,rfl,⟨qi h2 (by decide),qi h3 (by decide),qi z1 (by decide),qi z2 (by decide)⟩,qgx (fun h=>(by omega)) (fun _=>⟨rfl,_,rfl⟩)⟩
   rintro ys e ⟨rfl,t,rfl⟩
   have e0:Shp 1 (.list []):=zajl fun x hx=>by cases hx
   refine ⟨szl,e0.ok,e0.ok,iteN e0.refl ?_⟩
   obtain ⟨q0,Q1,eQ⟩:=List.exists_cons_of_ne_nil (show Q≠[] from fun z=>by rw [z] at lQ;simp at lQ;omega)
   have lq0:q0.length=k:=hQ.t.len q0 (by rw [eQ];simp)
   have aQ:atI (Q.map qdn) 0=some (qdn q0):=by rw [eQ];exact qcy _ _
   have lrq:(((q0.map PyData.int).length:Nat):Int)=k:=by rw [List.length_map,lq0]
   refine ⟨fun e => ∃ (j:Nat) (f:Int) (T:List (List Int)) (p:List PyData),G20 k j f T∧e=[.val (.list (ns.map .int)),.own p,.val (.int W),.val (qC b R),.val (qC c S),.val (qC d D),t6,.val (dSh u v),.val (qij Y),.val (dSh (shT (bst R Y a m) b) (shB (bst R Y a m) b)),.val (dSh (shT (bst S Y a n) c) (shB (bst S Y a n) c)),.val (qC q Q),.val (.list (L.map fun p=>dSh p.1 p.2)),t13,.val (qzx (q*f) (qco Q T j)),.non],?_,?_⟩
   ·refine ⟨rfl,_,rfl,_,aQ,rfl,_,3,12,rfl,hp9,⟨by omega,by omega,by decide,by decide,by decide,by decide⟩,fun f T j p G hf hl j1 j2 hp=>?_⟩
    exact ⟨q,Q,k,f,T,j,rfl,⟨hQ.t,G.t,fun z=>by rw [z] at lQ;simp at lQ;omega,by omega,by omega,by omega,by omega,by omega,qi (qV (by omega) (by omega)) (by decide),qi (qV (by have:=G.t.pos;omega) (by omega)) (by decide)⟩,j,f,T,p,⟨G,by omega,by omega,by omega,hf⟩,rfl⟩
   rintro e ⟨j,f,T,p10,G4,rfl⟩
   have hf:=G4.b
   have fp:=G4.h.t.pos
   have j4:=G4.m2
   have hQ2:=hQ.t.prod G4.h.t G4.l
   have lQ2:(qco Q T j).length=W:=by simp [qco,lQ]
   have qf:q*f≤9999*9999*9999:=Int.mul_le_mul qb hf (by omega) (by omega)
   obtain ⟨s1,s2,s3⟩:=qzp (qum hQ.t G4.h.t G4.l) hQ.t hQ2 lQ lQ2 (by omega) W3 hY a1 (by omega)
   obtain ⟨y1,y2⟩:=qfe (a:=a) (Y:=Y) hQ.t (by rw [lQ];exact hY) a1 (by omega) (by omega)
   refine ⟨_,_,j,Y,a,rfl,fbl hQ2 lQ2 (by omega) W3 (by omega) (by omega) hY a1 a6,_,(show atI (L.map fun p=>dSh p.1 p.2) 0=some (dSh _ _) from qgh (by rw [List.getElem?_map,L0];rfl)),_,_,_,_,rfl,⟨qi s2 (by decide),qi s3 (by decide),qi y1 (by decide),qi y2 (by decide)⟩,qgx (fun h=>(Int.not_lt.mpr s1 h).elim) (fun _=>?_)⟩
   clear s1 s2 s3 y1 y2
   have mn:m*n≤12:=Nat.le_trans (Nat.mul_le_mul m3 n3) (by decide)
   have bc:b*c≤9999*9999:=Int.mul_le_mul hb hc (by omega) (by omega)
   have hB:=G1.h.t.bes G2.h.t
   have lB:(qjz R S).length=W:=by unfold qjz;rw [List.length_zipWith];omega
   refine ⟨fun e => ∃ x y:Int,(Blw x y (shT (bst R Y a m) b,shB (bst R Y a m) b)∧Blw x y (shT (bst S Y a n) c,shB (bst S Y a n) c)∧intBits x≤64∧intBits y≤64)∧e=[.val (.list (ns.map .int)),.own p10,.val (.int W),.val (qC b R),.val (qC c S),.val (qC d D),t6,.val (dSh u v),.val (qij Y),.val (dSh (shT (bst R Y a m) b) (shB (bst R Y a m) b)),.val (dSh (shT (bst S Y a n) c) (shB (bst S Y a n) c)),.val (qC q Q),.val (.list (L.map fun p=>dSh p.1 p.2)),t13,.val (qzx (q*f) (qco Q T j)),.val (dSh x y)],?_,?_⟩
   ·exact ⟨b,R,m,c,S,n,rfl,⟨G1.h.t,G2.h.t,by omega,by omega,by omega,by omega,by omega,mn,qi zb (by decide),qi zc (by decide)⟩,_,_,m*n,Y,a,rfl,fbl hB lB (by omega) W3 mn (by omega) hY a1 a6,_,_,⟨qya (besA G1.h.t G2.h.t (by omega)) hB G1.h.t lB l1 (by omega) W3 hY a1 (by omega),qya (besB G1.h.t G2.h.t (by omega) n1) hB G2.h.t lB l2 (by omega) W3 hY a1 (by omega),zagh hB lB (by omega) W3 hY a1 (by omega)⟩,rfl⟩
   rintro e ⟨x,y,⟨x1,x2,x3,x4⟩,rfl⟩
   obtain ⟨v1,v2⟩:=qfe (a:=a) (Y:=Y) G2.h.t (by rw [l2];exact hY) a1 (by omega) (by omega)
   refine ⟨_,_,_,_,rfl,⟨qi z1 (by decide),qi z2 (by decide),qi x3 (by decide),qi x4 (by decide)⟩,qgx (fun h=>(Int.not_lt.mpr x1.1 h).elim) (fun _=>?_)⟩
   refine ⟨_,_,_,_,rfl,⟨qi v1 (by decide),qi v2 (by decide),qi x3 (by decide),qi x4 (by decide)⟩,qgx (fun h=>(Int.not_lt.mpr x2.1 h).elim) (fun _=>?_)⟩
   obtain ⟨c1,_,_⟩:=qpi (zabz G1.h.t l1) cT G1.h.t cl l1 W3 hY a1 (by omega)
   obtain ⟨c4,c5⟩:=qfe (a:=a) (Y:=Y) cT (by rw [cl];exact hY) a1 (by omega) (by decide)
   refine ⟨W,rfl,⟨W2,W3⟩,1,qcv W,W,Y,a,rfl,⟨cT,by rw [cl];exact hY,by omega,by omega,by omega,by omega,by omega,by decide⟩,_,_,_,_,rfl,⟨qi z1 (by decide),qi z2 (by decide),qi c4 (by decide),qi c5 (by decide)⟩,qgx (fun h=>(Int.not_lt.mpr c1 h).elim) (fun _=>?_)⟩
   have vp:=Sv.pos
   have M:MixPre u v b R m c S n:=⟨Sv,u0,uv,G1.h.t,G2.h.t,by omega,by omega,by omega,by omega,qi (qV (by omega) (by omega)) (by decide),qi zb (by decide),qi zc (by decide)⟩
   have vb:v*b≤30*9999:=Int.mul_le_mul v30 hb (by omega) (by omega)
   have vb0:0≤v*b:=Int.mul_nonneg (by omega) (by omega)
   have vbc:v*b*c≤30*9999*9999:=Int.mul_le_mul vb hc (by omega) (by omega)
   have hM:=M.tab
   have lM:(qhb (u*c) ((v-u)*b) R S).length=W:=by rw [qna (by omega)];exact l1
   have Mn:qhb (u*c) ((v-u)*b) R S≠[]:=fun z=>by rw [z] at lM;simp at lM;omega
   obtain ⟨g1,g2⟩:=qhr (Y:=Y) (a:=a) hM Mn a1 (by rw [lM];exact hY.m)
   obtain ⟨k1,k2⟩:=qlu (t:=bst R Y a m) (b:=b) (by omega)
   obtain ⟨k3,k4⟩:=qlu (t:=bst S Y a n) (b:=c) (by omega)
   have ms:=zafy M a1 k2 k4
   have yp1:=k1.pos
   have yp2:=k3.pos
   have yy:0<v*shB (bst R Y a m) b*shB (bst S Y a n) c:=Int.mul_pos (Int.mul_pos (by omega) (by omega)) (by omega)
   obtain ⟨g3,g4⟩:=qxt (by have:=hM.pos;omega) yy ms
   have q1 : ∀ {t u:Int},Shp 1 (dSh t u):=fun {t u}=>qzd fun x hx=>by
    simp only [List.mem_cons,List.not_mem_nil,or_false] at hx
    rcases hx with rfl|rfl <;> exact qyv _ 0
   have B4 : ∀ {x y:Int}{k l:Nat},intBits x≤k→intBits y≤l→k+l≤4000→intBits (x*y)≤4000:=fun h1 h2 h3=>qi (intBits_mul_le h1 h2) h3
   have zu:intBits u≤64:=qV (by omega) (by omega)
   have zv:intBits v≤64:=qV (by omega) (by omega)
   have zuv:intBits (v-u)≤64:=qV (by omega) (by omega)
   refine ⟨u,v,b,R,m,c,S,n,rfl,M,_,_,m+n,Y,a,rfl,fbl hM lM (by omega) W3 (by omega) (by omega) hY a1 a6,?_⟩
   refine ⟨u,v,_,_,_,_,rfl,⟨qi zu (by decide),qi z1 (by decide),B4 zu z1 (by decide),qi v2 (by decide),qi zuv (by decide),qi v1 (by decide),B4 zuv v1 (by decide),qi z2 (by decide),qi zv (by decide),B4 zv z2 (by decide),by omega,qi (intBits_mul_le (intBits_mul_le zv z2) v2) (by decide)⟩,q1.ok,q1.ok,iteN ?_ ?_⟩
   ·have r1:=g1.trans g3
    have r2:=g2.trans g4
    show PyData.eqv (dSh (shT (bst (qaw (qhb (u*c) ((v-u)*b) R S) _) Y a (m+n)) _) (shB (bst (qaw (qhb (u*c) ((v-u)*b) R S) _) Y a (m+n)) _)) _=true
    rw [r1,r2]
    exact q1.refl
   ·exact ⟨W,m,a,b,R,Y,_,_,_,_,_,_,_,_,_,_,_,_,⟨G1,hY,W2,W3,a1,a6⟩,rfl⟩
  ·rintro e F1 H1 σ1 I1 ⟨W,m,a,b,R,Y,t1,t2,t4,t5,t6,t7,t10,t11,t12,t13,t14,t15,⟨G1,hY,W2,W3,a1,a6⟩,rfl⟩
   obtain ⟨ts1,ft1⟩:=I1.tab ts ft
   obtain ⟨v3,e3,i3⟩:=I1.val 3 rfl
   obtain ⟨v8,e8,i8⟩:=I1.val 8 rfl
   obtain ⟨v9,e9,i9⟩:=I1.val 9 rfl
   have l1:=G1.l
   have m1:=G1.m1
   have m2:=G1.m2
   have hb:=G1.b
   have bp:=G1.h.t.pos
   have Rn:R≠[]:=fun z=>by rw [z] at l1;simp at l1;omega
   refine ⟨v3,e3,ts1,F1,[qC b R],fun d => ∃ Gs B,zahu R m Gs∧LcmB (Gs.map fun G=>qF R G m) B∧d = .tuple [qtd b R Gs,qxz m Gs,qC B ((Gs.map fun G=>qF R G m).map (qcc B))],ft1,I1.fh,qB i3 qS,⟨b,R,m,rfl,⟨G1.h.t,Rn,by omega,by omega,by omega,by omega⟩,fun Gs B h1 h2=>⟨Gs,B,h1,h2,rfl⟩⟩,?_⟩
   rintro d v F2 H2 g2 i2 ⟨Gs,B,hG,hB,rfl⟩
   refine ⟨F2,_,.int 0,fun d=>d=qtd b R Gs,g2.fh,i2,qab _,⟨_,rfl,rfl⟩,?_⟩
   rintro d v' F3 H3 g3 i3' rfl
   obtain ⟨p,hp,hs,eG⟩:=id hG
   have gok:GsOk R m Gs:=by rw [eG];exact zalx G1.h.t.nn hp
   have gpt:GsPart R m Gs:=by rw [eG];exact zaiv G1.h.t.nn hp
   have gl:=gok.len
   have hJ:=jTab G1.h.t gok
   have lJ:(R.map (qmr Gs)).length=W:=by simp [l1]
   have Jn:R.map (qmr Gs)≠[]:=fun z=>by rw [z] at lJ;simp at lJ;omega
   obtain ⟨x1,x2⟩:=qhr (Y:=Y) (a:=a) hJ Jn a1 (by rw [lJ];exact hY.m)
   have d1:=qkm (zaak G1.h.t Rn gok gpt) (by omega) (by omega) a1 l1 lJ hY.m
   have d2:=qkm (qwv G1.h.t Rn gok gpt hB) (by omega) (by omega) a1 lJ l1 hY.m
   obtain ⟨x3,x4⟩:=qxt (show 0<b by omega) (show 0<b by omega) (show bst (R.map (qmr Gs)) Y a Gs.length*b=bst R Y a m*b by omega)
   have q1 : ∀ {t u:Int},Shp 1 (dSh t u):=fun {t u}=>qzd fun x hx=>by
    simp only [List.mem_cons,List.not_mem_nil,or_false] at hx
    rcases hx with rfl|rfl <;> exact qyv _ 0
   refine ⟨v8,e8,F3,[qtd b R Gs,qij Y],fun d=>d=dSh (shT (bst R Y a m) b) (shB (bst R Y a m) b),g3.fh,qB i3' (qB ((i8.mono g2.f).mono g3.f) qS),⟨_,_,Gs.length,Y,a,rfl,fbl hJ lJ (by omega) W3 (by omega) (by omega) hY a1 a6,by rw [← x3,← x4,← x1,← x2];rfl⟩,?_⟩
   rintro d v4 F4 H4 g4 i4 rfl
   refine ⟨v9,e9,F4,_,_,fun d=>d = .bool true,g4.fh,i4,((i9.mono g2.f).mono g3.f).mono g4.f,⟨q1.ok,q1.ok,by rw [q1.refl]⟩,?_⟩
   rintro d v5 F5 H5 g5 i5 rfl
   exact i5.bl_inv
end
theorem qvn {α:Type}{n:Nat}{us:List α} (h:us.length=n+1) : ∃ a r,us=a::r∧r.length=n:=by
 cases us with
 | nil=>cases h
 | cons a r=>exact ⟨a,r,rfl,Nat.succ.inj h⟩
theorem us1 {α:Type}{us:List α} (h:us.length=1) : ∃ a0:α,us=[a0]:=by
 obtain ⟨a0,u0,rfl,h0⟩:=qvn h
 cases u0 with
 | nil=>exact ⟨a0,rfl⟩
 | cons _ _=>cases h0
theorem us2 {α:Type}{us:List α} (h:us.length=2) : ∃ a0 a1:α,us=[a0,a1]:=by
 obtain ⟨a0,u0,rfl,h0⟩:=qvn h
 obtain ⟨a1,u1,rfl,h1⟩:=qvn h0
 cases u1 with
 | nil=>exact ⟨a0,a1,rfl⟩
 | cons _ _=>cases h1
theorem us3 {α:Type}{us:List α} (h:us.length=3) : ∃ a0 a1 a2:α,us=[a0,a1,a2]:=by
 obtain ⟨a0,u0,rfl,h0⟩:=qvn h
 obtain ⟨a1,u1,rfl,h1⟩:=qvn h0
 obtain ⟨a2,u2,rfl,h2⟩:=qvn h1
 cases u2 with
 | nil=>exact ⟨a0,a1,a2,rfl⟩
 | cons _ _=>cases h2
theorem us4 {α:Type}{us:List α} (h:us.length=4) : ∃ a0 a1 a2 a3:α,us=[a0,a1,a2,a3]:=by
 obtain ⟨a0,u0,rfl,h0⟩:=qvn h
 obtain ⟨a1,u1,rfl,h1⟩:=qvn h0
 obtain ⟨a2,u2,rfl,h2⟩:=qvn h1
 obtain ⟨a3,u3,rfl,h3⟩:=qvn h2
 cases u3 with
 | nil=>exact ⟨a0,a1,a2,a3,rfl⟩
 | cons _ _=>cases h3
inductive LK (K:PySem.W.Frag) (x q:Str) (st:Stmt) (f:Addr):Prop
 | mk {oc kV dc pm cd ct:Value}{od an:Option Addr}{sl:Array (Option Value)} (l:K.lookup f=some ⟨oc,od,.func (PySem.W.fnOf x q (defArgs st) (defBody st) (defScope st) .none kV dc pm an cd ct),sl⟩) (c:PySem.W.codeIn K cd q=true) (k:PySem.W.keepIn K (.ref f)=true):LK K x q st f
theorem LK.fn {K:PySem.W.Frag}{x q:Str}{st:Stmt}{f:Addr} (h:LK K x q st f):(∃ fd,Fun K x q st f fd)∧PySem.W.keepIn K (.ref f)=true:=by
 cases h with
 | mk l c k=>exact ⟨⟨_,qxl l c k⟩,k⟩
theorem all_mk {l:PySem.W.OpenLaw}{w:World}{K:PySem.W.Frag}{h:Heap}{mg:Str→Option Value}{fa:Addr} (X:K.In h) (G:h.Ns mainGlobals mg) (hfa:mg "law" = some (.ref fa))
 {c_tb c_c0 c_bm:Addr} (b_bm:PySem.W.nsIn K mainGlobals "__builtins__" = some (some (.ref c_bm)))
 {f0:Addr} (a0:PySem.W.nsIn K mainGlobals "is_whole" = some (some (.ref f0))) (l0:LK K "is_whole" "is_whole" qfp f0)
 {f1:Addr} (a1:PySem.W.nsIn K mainGlobals "makes_row" = some (some (.ref f1))) (l1:LK K "makes_row" "makes_row" qes f1)
 {f2:Addr} (a2:PySem.W.nsIn K mainGlobals "makes_table" = some (some (.ref f2))) (l2:LK K "makes_table" "makes_table" qdk f2)
 {f3:Addr} (a3:PySem.W.nsIn K mainGlobals "divisor" = some (some (.ref f3))) (l3:LK K "divisor" "divisor" qhk f3)
 {f4:Addr} (a4:PySem.W.nsIn K mainGlobals "common_divisor" = some (some (.ref f4))) (l4:LK K "common_divisor" "common_divisor" qbn f4)
 {f5:Addr} (a5:PySem.W.nsIn K mainGlobals "divided" = some (some (.ref f5))) (l5:LK K "divided" "divided" qhj f5)
 {f6:Addr} (a6:PySem.W.nsIn K mainGlobals "lowest_table" = some (some (.ref f6))) (l6:LK K "lowest_table" "lowest_table" qcp f6)
 {f7:Addr} (a7:PySem.W.nsIn K mainGlobals "glass_of" = some (some (.ref f7))) (l7:LK K "glass_of" "glass_of" qfv f7)
 {f8:Addr} (a8:PySem.W.nsIn K mainGlobals "check_stands" = some (some (.ref f8))) (l8:LK K "check_stands" "check_stands" qcq f8)
 {f9:Addr} (a9:PySem.W.nsIn K mainGlobals "one_sign" = some (some (.ref f9))) (l9:LK K "one_sign" "one_sign" qfz f9)
 {f10:Addr} (a10:PySem.W.nsIn K mainGlobals "clear" = some (some (.ref f10))) (l10:LK K "clear" "clear" qoc f10)
 {f11:Addr} (a11:PySem.W.nsIn K mainGlobals "blind" = some (some (.ref f11))) (l11:LK K "blind" "blind" qnu f11)
 {f12:Addr} (a12:PySem.W.nsIn K mainGlobals "signs" = some (some (.ref f12))) (l12:LK K "signs" "signs" qnd f12)
 {f13:Addr} (a13:PySem.W.nsIn K mainGlobals "column" = some (some (.ref f13))) (l13:LK K "column" "column" qje f13)
 {f14:Addr} (a14:PySem.W.nsIn K mainGlobals "paired" = some (some (.ref f14))) (l14:LK K "paired" "paired" qjh f14)
 {f15:Addr} (a15:PySem.W.nsIn K mainGlobals "passed_row" = some (some (.ref f15))) (l15:LK K "passed_row" "passed_row" qds f15)
 {f16:Addr} (a16:PySem.W.nsIn K mainGlobals "passed_on" = some (some (.ref f16))) (l16:LK K "passed_on" "passed_on" qer f16)
 {f17:Addr} (a17:PySem.W.nsIn K mainGlobals "dulled" = some (some (.ref f17))) (l17:LK K "dulled" "dulled" qji f17)
 {f18:Addr} (a18:PySem.W.nsIn K mainGlobals "scaled" = some (some (.ref f18))) (l18:LK K "scaled" "scaled" qjn f18)
 {f19:Addr} (a19:PySem.W.nsIn K mainGlobals "both_seen" = some (some (.ref f19))) (l19:LK K "both_seen" "both_seen" qeq f19)
 {f20:Addr} (a20:PySem.W.nsIn K mainGlobals "stands" = some (some (.ref f20))) (l20:LK K "stands" "stands" qjd f20)
 {f21:Addr} (a21:PySem.W.nsIn K mainGlobals "check_alike_stands" = some (some (.ref f21))) (l21:LK K "check_alike_stands" "check_alike_stands" qac f21)
 {f22:Addr} (a22:PySem.W.nsIn K mainGlobals "check_not_too_many" = some (some (.ref f22))) (l22:LK K "check_not_too_many" "check_not_too_many" qad f22)
 {f23:Addr} (a23:PySem.W.nsIn K mainGlobals "beside" = some (some (.ref f23))) (l23:LK K "beside" "beside" qjm f23)
 {f24:Addr} (a24:PySem.W.nsIn K mainGlobals "is_share" = some (some (.ref f24))) (l24:LK K "is_share" "is_share" qft f24)
 {f25:Addr} (a25:PySem.W.nsIn K mainGlobals "is_part" = some (some (.ref f25))) (l25:LK K "is_part" "is_part" qhe f25)
 {f26:Addr} (a26:PySem.W.nsIn K mainGlobals "mixed" = some (some (.ref f26))) (l26:LK K "mixed" "mixed" qnj f26)
 {f27:Addr} (a27:PySem.W.nsIn K mainGlobals "joined_row" = some (some (.ref f27))) (l27:LK K "joined_row" "joined_row" qdv f27)
 {f28:Addr} (a28:PySem.W.nsIn K mainGlobals "joined" = some (some (.ref f28))) (l28:LK K "joined" "joined" qjq f28)
 {f29:Addr} (a29:PySem.W.nsIn K mainGlobals "over_bottom" = some (some (.ref f29))) (l29:LK K "over_bottom" "over_bottom" qdh f29)
 {f30:Addr} (a30:PySem.W.nsIn K mainGlobals "table_of_shares" = some (some (.ref f30))) (l30:LK K "table_of_shares" "table_of_shares" qbe f30)
 {f31:Addr} (a31:PySem.W.nsIn K mainGlobals "joined_number" = some (some (.ref f31))) (l31:LK K "joined_number" "joined_number" qbx f31)
 {f32:Addr} (a32:PySem.W.nsIn K mainGlobals "joined_column" = some (some (.ref f32))) (l32:LK K "joined_column" "joined_column" qcb f32)
 {f33:Addr}{od33 an33:Option Addr}{sl33:Array (Option Value)}{oc33 kV33 dc33 pm33 ct33:Value}
 (a33:PySem.W.nsIn K mainGlobals "sorted_groups" = some (some (.ref f33))) (l33:K.lookup f33=some ⟨oc33,od33,.func (PySem.W.fnOf "sorted_groups" "sorted_groups" (defArgs qU) (defBody qU) (defScope qU) .none kV33 dc33 pm33 an33 (.ref c_c0) ct33),sl33⟩) (c33:PySem.W.codeIn K (.ref c_c0) "sorted_groups" = true) (k33:PySem.W.keepIn K (.ref f33)=true)
 {f34:Addr} (a34:PySem.W.nsIn K mainGlobals "joined_numbers" = some (some (.ref f34))) (l34:LK K "joined_numbers" "joined_numbers" qbl f34)
 {f35:Addr} (a35:PySem.W.nsIn K mainGlobals "place_of" = some (some (.ref f35))) (l35:LK K "place_of" "place_of" qfn f35)
 {f36:Addr} (a36:PySem.W.nsIn K mainGlobals "reduced" = some (some (.ref f36))) (l36:LK K "reduced" "reduced" qhi f36)
 {f37:Addr} (a37:PySem.W.nsIn K mainGlobals "share" = some (some (.ref f37))) (l37:LK K "share" "share" qnx f37)
 {f38:Addr} (a38:PySem.W.nsIn K mainGlobals "parts_of" = some (some (.ref f38))) (l38:LK K "parts_of" "parts_of" qfx f38)
 {f39:Addr} (a39:PySem.W.nsIn K mainGlobals "least" = some (some (.ref f39))) (l39:LK K "least" "least" qny f39)
 {f40:Addr} (a40:PySem.W.nsIn K mainGlobals "_law_pen" = some (some (.ref f40))) (l40:LK K "_law_pen" "_law_pen" qfw f40)
 {f41:Addr} (a41:PySem.W.nsIn K mainGlobals "_law_mixed" = some (some (.ref f41))) (l41:LK K "_law_mixed" "_law_mixed" qdt f41)
 {f42:Addr} (a42:PySem.W.nsIn K mainGlobals "_law_next" = some (some (.ref f42))) (l42:LK K "_law_next" "_law_next" qep f42)
 {f43:Addr} (a43:PySem.W.nsIn K mainGlobals "_law_divisor" = some (some (.ref f43))) (l43:LK K "_law_divisor" "_law_divisor" qcr f43)
 {f44:Addr} (a44:PySem.W.nsIn K mainGlobals "_law_share" = some (some (.ref f44))) (l44:LK K "_law_share" "_law_share" qdq f44)
 {f45:Addr} (a45:PySem.W.nsIn K mainGlobals "_law_reduced" = some (some (.ref f45))) (l45:LK K "_law_reduced" "_law_reduced" qcn f45)
 {f46:Addr} (a46:PySem.W.nsIn K mainGlobals "_law_row" = some (some (.ref f46))) (l46:LK K "_law_row" "_law_row" qfq f46)
 {f47:Addr} (a47:PySem.W.nsIn K mainGlobals "_law_split" = some (some (.ref f47))) (l47:LK K "_law_split" "_law_split" qdr f47)
 {f48:Addr} (a48:PySem.W.nsIn K mainGlobals "_law_table" = some (some (.ref f48))) (l48:LK K "_law_table" "_law_table" qdx f48)
 {f49:Addr} (a49:PySem.W.nsIn K mainGlobals "_law_payoffs" = some (some (.ref f49))) (l49:LK K "_law_payoffs" "_law_payoffs" qcs f49)
 {f50:Addr} (a50:PySem.W.nsIn K mainGlobals "check_payoffs" = some (some (.ref f50))) (l50:LK K "check_payoffs" "check_payoffs" qbw f50)
 {f51:Addr} (a51:PySem.W.nsIn K mainGlobals "is_plan" = some (some (.ref f51))) (l51:LK K "is_plan" "is_plan" qhm f51)
 {f52:Addr} (a52:PySem.W.nsIn K mainGlobals "worth" = some (some (.ref f52))) (l52:LK K "worth" "worth" qnr f52)
 {f53:Addr} (a53:PySem.W.nsIn K mainGlobals "gain" = some (some (.ref f53))) (l53:LK K "gain" "gain" qtc f53)
 {f54:Addr} (a54:PySem.W.nsIn K mainGlobals "first_best_act" = some (some (.ref f54))) (l54:LK K "first_best_act" "first_best_act" qbk f54)
 {f55:Addr} (a55:PySem.W.nsIn K mainGlobals "best" = some (some (.ref f55))) (l55:LK K "best" "best" qsy f55)
 {f56:Addr} (a56:PySem.W.nsIn K mainGlobals "_law_gains" = some (some (.ref f56))) (l56:LK K "_law_gains" "_law_gains" qdu f56)
 {f57:Addr} (a57:PySem.W.nsIn K mainGlobals "_law_above" = some (some (.ref f57))) (l57:LK K "_law_above" "_law_above" qdp f57)
 {f58:Addr} (a58:PySem.W.nsIn K mainGlobals "_law_mixed_gain" = some (some (.ref f58))) (l58:LK K "_law_mixed_gain" "_law_mixed_gain" qbd f58)
 {f59:Addr}{od59 an59:Option Addr}{sl59:Array (Option Value)}{oc59 kV59 dc59 pm59 cd59 ct59:Value}
 (a59:PySem.W.nsIn K mainGlobals "law" = some (some (.ref f59))) (l59:K.lookup f59=some ⟨oc59,od59,.func (PySem.W.fnOf "law" "law" (defArgs qlv) (defBody qlv) (defScope qlv) .none kV59 dc59 pm59 an59 cd59 ct59),sl59⟩) (c59:PySem.W.codeIn K cd59 "law" = true) (k59:PySem.W.keepIn K (.ref f59)=true)
 (z_abs:PySem.W.nsIn K mainGlobals "abs" = some none)
 (z_all:PySem.W.nsIn K mainGlobals "all" = some none)
 (z_any:PySem.W.nsIn K mainGlobals "any" = some none)
 (z_bool:PySem.W.nsIn K mainGlobals "bool" = some none)
 (z_enumerate:PySem.W.nsIn K mainGlobals "enumerate" = some none)
 (z_int:PySem.W.nsIn K mainGlobals "int" = some none)
 (z_isinstance:PySem.W.nsIn K mainGlobals "isinstance" = some none)
 (z_len:PySem.W.nsIn K mainGlobals "len" = some none)
 (z_list:PySem.W.nsIn K mainGlobals "list" = some none)
 (z_max:PySem.W.nsIn K mainGlobals "max" = some none)
 (z_range:PySem.W.nsIn K mainGlobals "range" = some none)
 (z_sorted:PySem.W.nsIn K mainGlobals "sorted" = some none)
 (z_sum:PySem.W.nsIn K mainGlobals "sum" = some none)
 (z_tuple:PySem.W.nsIn K mainGlobals "tuple" = some none)
 (z_zip:PySem.W.nsIn K mainGlobals "zip" = some none)
 {t_FEWEST_STANDS:Tok} (y_FEWEST_STANDS:PySem.W.nsIn K mainGlobals "FEWEST_STANDS" = some (some (.int 2 t_FEWEST_STANDS)))
 {t_MOST_SIGNS:Tok} (y_MOST_SIGNS:PySem.W.nsIn K mainGlobals "MOST_SIGNS" = some (some (.int 12 t_MOST_SIGNS)))
 {t_MOST_STANDS:Tok} (y_MOST_STANDS:PySem.W.nsIn K mainGlobals "MOST_STANDS" = some (some (.int 4 t_MOST_STANDS)))
 (f_tab_h:zact K c_c0 c_tb=true)
 (f_bm_h:blIn K c_bm c_tb=true)
 : ∃ fd:FuncData,(∀ (s:Shared) (v:Value),BindsTo s fd ⟨[v],[]⟩ [("_law_script",v)]) ∧ ∀ base:Heap,K.In base→base.Ns mainGlobals mg→FnOk l.prog w K mg base CX0 7 fa fd ["_law_script"] (qpg c_tb K):=by
  have e:=hfa.symm.trans (PySem.W.mg_of X G a59)
  cases e
  have T:Txt K mg ⟨c_tb,c_c0,c_bm⟩:=⟨f_tab_h,f_bm_h,PySem.W.mg_of X G b_bm,PySem.W.mg_none_of X G z_abs,PySem.W.mg_none_of X G z_all,PySem.W.mg_none_of X G z_any,PySem.W.mg_none_of X G z_bool,PySem.W.mg_none_of X G z_enumerate,PySem.W.mg_none_of X G z_int,PySem.W.mg_none_of X G z_isinstance,PySem.W.mg_none_of X G z_len,PySem.W.mg_none_of X G z_list,PySem.W.mg_none_of X G z_max,PySem.W.mg_none_of X G z_range,PySem.W.mg_none_of X G z_sorted,PySem.W.mg_none_of X G z_sum,PySem.W.mg_none_of X G z_tuple,PySem.W.mg_none_of X G z_zip,⟨_,PySem.W.mg_of X G y_FEWEST_STANDS⟩,⟨_,PySem.W.mg_of X G y_MOST_SIGNS⟩,⟨_,PySem.W.mg_of X G y_MOST_STANDS⟩⟩
  obtain ⟨⟨_,F0⟩,k0⟩:=l0.fn
  have D0:Def K mg "is_whole" qfp ["thing"]:=⟨_,_,F0,PySem.W.mg_of X G a0,F0.binds (ps:=["thing"]) fun _ _ _ _ _ _ us hl=>by obtain ⟨_,rfl⟩:=us1 hl;rfl⟩
  obtain ⟨⟨_,F1⟩,k1⟩:=l1.fn
  have D1:Def K mg "makes_row" qes ["row","bottom"]:=⟨_,_,F1,PySem.W.mg_of X G a1,F1.binds (ps:=["row","bottom"]) fun _ _ _ _ _ _ us hl=>by obtain ⟨_,_,rfl⟩:=us2 hl;rfl⟩
  obtain ⟨⟨_,F2⟩,k2⟩:=l2.fn
  have D2:Def K mg "makes_table" qdk ["bottom","rows","fewest","most"]:=⟨_,_,F2,PySem.W.mg_of X G a2,F2.binds (ps:=["bottom","rows","fewest","most"]) fun _ _ _ _ _ _ us hl=>by obtain ⟨_,_,_,_,rfl⟩:=us4 hl;rfl⟩
  obtain ⟨⟨_,F3⟩,k3⟩:=l3.fn
  have D3:Def K mg "divisor" qhk ["one","other"]:=⟨_,_,F3,PySem.W.mg_of X G a3,F3.binds (ps:=["one","other"]) fun _ _ _ _ _ _ us hl=>by obtain ⟨_,_,rfl⟩:=us2 hl;rfl⟩
  obtain ⟨⟨_,F4⟩,k4⟩:=l4.fn
  have D4:Def K mg "common_divisor" qbn ["rows"]:=⟨_,_,F4,PySem.W.mg_of X G a4,F4.binds (ps:=["rows"]) fun _ _ _ _ _ _ us hl=>by obtain ⟨_,rfl⟩:=us1 hl;rfl⟩
  obtain ⟨⟨_,F5⟩,k5⟩:=l5.fn
  have D5:Def K mg "divided" qhj ["row","common"]:=⟨_,_,F5,PySem.W.mg_of X G a5,F5.binds (ps:=["row","common"]) fun _ _ _ _ _ _ us hl=>by obtain ⟨_,_,rfl⟩:=us2 hl;rfl⟩
  obtain ⟨⟨_,F6⟩,k6⟩:=l6.fn
  have D6:Def K mg "lowest_table" qcp ["bottom","rows"]:=⟨_,_,F6,PySem.W.mg_of X G a6,F6.binds (ps:=["bottom","rows"]) fun _ _ _ _ _ _ us hl=>by obtain ⟨_,_,rfl⟩:=us2 hl;rfl⟩
  obtain ⟨⟨_,F7⟩,k7⟩:=l7.fn
  have D7:Def K mg "glass_of" qfv ["bottom","rows"]:=⟨_,_,F7,PySem.W.mg_of X G a7,F7.binds (ps:=["bottom","rows"]) fun _ _ _ _ _ _ us hl=>by obtain ⟨_,_,rfl⟩:=us2 hl;rfl⟩
  obtain ⟨⟨_,F8⟩,k8⟩:=l8.fn
  have D8:Def K mg "check_stands" qcq ["many"]:=⟨_,_,F8,PySem.W.mg_of X G a8,F8.binds (ps:=["many"]) fun _ _ _ _ _ _ us hl=>by obtain ⟨_,rfl⟩:=us1 hl;rfl⟩
  obtain ⟨⟨_,F9⟩,k9⟩:=l9.fn
  have D9:Def K mg "one_sign" qfz ["place","many"]:=⟨_,_,F9,PySem.W.mg_of X G a9,F9.binds (ps:=["place","many"]) fun _ _ _ _ _ _ us hl=>by obtain ⟨_,_,rfl⟩:=us2 hl;rfl⟩
  obtain ⟨⟨_,F10⟩,k10⟩:=l10.fn
  have D10:Def K mg "clear" qoc ["many"]:=⟨_,_,F10,PySem.W.mg_of X G a10,F10.binds (ps:=["many"]) fun _ _ _ _ _ _ us hl=>by obtain ⟨_,rfl⟩:=us1 hl;rfl⟩
  obtain ⟨⟨_,F11⟩,k11⟩:=l11.fn
  have D11:Def K mg "blind" qnu ["many"]:=⟨_,_,F11,PySem.W.mg_of X G a11,F11.binds (ps:=["many"]) fun _ _ _ _ _ _ us hl=>by obtain ⟨_,rfl⟩:=us1 hl;rfl⟩
  obtain ⟨⟨_,F12⟩,k12⟩:=l12.fn
  have D12:Def K mg "signs" qnd ["glass"]:=⟨_,_,F12,PySem.W.mg_of X G a12,F12.binds (ps:=["glass"]) fun _ _ _ _ _ _ us hl=>by obtain ⟨_,rfl⟩:=us1 hl;rfl⟩
  obtain ⟨⟨_,F13⟩,k13⟩:=l13.fn
  have D13:Def K mg "column" qje ["rows","place"]:=⟨_,_,F13,PySem.W.mg_of X G a13,F13.binds (ps:=["rows","place"]) fun _ _ _ _ _ _ us hl=>by obtain ⟨_,_,rfl⟩:=us2 hl;rfl⟩
  obtain ⟨⟨_,F14⟩,k14⟩:=l14.fn
  have D14:Def K mg "paired" qjh ["one","other"]:=⟨_,_,F14,PySem.W.mg_of X G a14,F14.binds (ps:=["one","other"]) fun _ _ _ _ _ _ us hl=>by obtain ⟨_,_,rfl⟩:=us2 hl;rfl⟩
  obtain ⟨⟨_,F15⟩,k15⟩:=l15.fn
  have D15:Def K mg "passed_row" qds ["row","dulling"]:=⟨_,_,F15,PySem.W.mg_of X G a15,F15.binds (ps:=["row","dulling"]) fun _ _ _ _ _ _ us hl=>by obtain ⟨_,_,rfl⟩:=us2 hl;rfl⟩
  obtain ⟨⟨_,F16⟩,k16⟩:=l16.fn
  have D16:Def K mg "passed_on" qer ["table","dulling"]:=⟨_,_,F16,PySem.W.mg_of X G a16,F16.binds (ps:=["table","dulling"]) fun _ _ _ _ _ _ us hl=>by obtain ⟨_,_,rfl⟩:=us2 hl;rfl⟩
  obtain ⟨⟨_,F17⟩,k17⟩:=l17.fn
  have D17:Def K mg "dulled" qji ["glass","dulling"]:=⟨_,_,F17,PySem.W.mg_of X G a17,F17.binds (ps:=["glass","dulling"]) fun _ _ _ _ _ _ us hl=>by obtain ⟨_,_,rfl⟩:=us2 hl;rfl⟩
  obtain ⟨⟨_,F18⟩,k18⟩:=l18.fn
  have D18:Def K mg "scaled" qjn ["row","factor"]:=⟨_,_,F18,PySem.W.mg_of X G a18,F18.binds (ps:=["row","factor"]) fun _ _ _ _ _ _ us hl=>by obtain ⟨_,_,rfl⟩:=us2 hl;rfl⟩
  obtain ⟨⟨_,F19⟩,k19⟩:=l19.fn
  have D19:Def K mg "both_seen" qeq ["row","beyond"]:=⟨_,_,F19,PySem.W.mg_of X G a19,F19.binds (ps:=["row","beyond"]) fun _ _ _ _ _ _ us hl=>by obtain ⟨_,_,rfl⟩:=us2 hl;rfl⟩
  obtain ⟨⟨_,F20⟩,k20⟩:=l20.fn
  have D20:Def K mg "stands" qjd ["glass"]:=⟨_,_,F20,PySem.W.mg_of X G a20,F20.binds (ps:=["glass"]) fun _ _ _ _ _ _ us hl=>by obtain ⟨_,rfl⟩:=us1 hl;rfl⟩
  obtain ⟨⟨_,F21⟩,k21⟩:=l21.fn
  have D21:Def K mg "check_alike_stands" qac ["one","other"]:=⟨_,_,F21,PySem.W.mg_of X G a21,F21.binds (ps:=["one","other"]) fun _ _ _ _ _ _ us hl=>by obtain ⟨_,_,rfl⟩:=us2 hl;rfl⟩
  obtain ⟨⟨_,F22⟩,k22⟩:=l22.fn
  have D22:Def K mg "check_not_too_many" qad ["many"]:=⟨_,_,F22,PySem.W.mg_of X G a22,F22.binds (ps:=["many"]) fun _ _ _ _ _ _ us hl=>by obtain ⟨_,rfl⟩:=us1 hl;rfl⟩
  obtain ⟨⟨_,F23⟩,k23⟩:=l23.fn
  have D23:Def K mg "beside" qjm ["one","other"]:=⟨_,_,F23,PySem.W.mg_of X G a23,F23.binds (ps:=["one","other"]) fun _ _ _ _ _ _ us hl=>by obtain ⟨_,_,rfl⟩:=us2 hl;rfl⟩
  obtain ⟨⟨_,F24⟩,k24⟩:=l24.fn
  have D24:Def K mg "is_share" qft ["thing"]:=⟨_,_,F24,PySem.W.mg_of X G a24,F24.binds (ps:=["thing"]) fun _ _ _ _ _ _ us hl=>by obtain ⟨_,rfl⟩:=us1 hl;rfl⟩
  obtain ⟨⟨_,F25⟩,k25⟩:=l25.fn
  have D25:Def K mg "is_part" qhe ["thing"]:=⟨_,_,F25,PySem.W.mg_of X G a25,F25.binds (ps:=["thing"]) fun _ _ _ _ _ _ us hl=>by obtain ⟨_,rfl⟩:=us1 hl;rfl⟩
  obtain ⟨⟨_,F26⟩,k26⟩:=l26.fn
  have D26:Def K mg "mixed" qnj ["part","one","other"]:=⟨_,_,F26,PySem.W.mg_of X G a26,F26.binds (ps:=["part","one","other"]) fun _ _ _ _ _ _ us hl=>by obtain ⟨_,_,_,rfl⟩:=us3 hl;rfl⟩
  obtain ⟨⟨_,F27⟩,k27⟩:=l27.fn
  have D27:Def K mg "joined_row" qdv ["row","i","j"]:=⟨_,_,F27,PySem.W.mg_of X G a27,F27.binds (ps:=["row","i","j"]) fun _ _ _ _ _ _ us hl=>by obtain ⟨_,_,_,rfl⟩:=us3 hl;rfl⟩
  obtain ⟨⟨_,F28⟩,k28⟩:=l28.fn
  have D28:Def K mg "joined" qjq ["glass","i","j"]:=⟨_,_,F28,PySem.W.mg_of X G a28,F28.binds (ps:=["glass","i","j"]) fun _ _ _ _ _ _ us hl=>by obtain ⟨_,_,_,rfl⟩:=us3 hl;rfl⟩
  obtain ⟨⟨_,F29⟩,k29⟩:=l29.fn
  have D29:Def K mg "over_bottom" qdh ["row","bottom"]:=⟨_,_,F29,PySem.W.mg_of X G a29,F29.binds (ps:=["row","bottom"]) fun _ _ _ _ _ _ us hl=>by obtain ⟨_,_,rfl⟩:=us2 hl;rfl⟩
  obtain ⟨⟨_,F30⟩,k30⟩:=l30.fn
  have D30:Def K mg "table_of_shares" qbe ["rows"]:=⟨_,_,F30,PySem.W.mg_of X G a30,F30.binds (ps:=["rows"]) fun _ _ _ _ _ _ us hl=>by obtain ⟨_,rfl⟩:=us1 hl;rfl⟩
  obtain ⟨⟨_,F31⟩,k31⟩:=l31.fn
  have D31:Def K mg "joined_number" qbx ["row","group"]:=⟨_,_,F31,PySem.W.mg_of X G a31,F31.binds (ps:=["row","group"]) fun _ _ _ _ _ _ us hl=>by obtain ⟨_,_,rfl⟩:=us2 hl;rfl⟩
  obtain ⟨⟨_,F32⟩,k32⟩:=l32.fn
  have D32:Def K mg "joined_column" qcb ["glass","group"]:=⟨_,_,F32,PySem.W.mg_of X G a32,F32.binds (ps:=["glass","group"]) fun _ _ _ _ _ _ us hl=>by obtain ⟨_,_,rfl⟩:=us2 hl;rfl⟩
  have F33:=qxl (st:=qU) l33 c33 k33
  have D33:DefT K mg "sorted_groups" qU ["glass"] c_c0:=⟨_,_,_,_,_,_,_,_,_,l33,c33,k33,PySem.W.mg_of X G a33,F33.binds (ps:=["glass"]) fun _ _ _ _ _ _ us hl=>by obtain ⟨_,rfl⟩:=us1 hl;rfl⟩
  obtain ⟨⟨_,F34⟩,k34⟩:=l34.fn
  have D34:Def K mg "joined_numbers" qbl ["row","groups"]:=⟨_,_,F34,PySem.W.mg_of X G a34,F34.binds (ps:=["row","groups"]) fun _ _ _ _ _ _ us hl=>by obtain ⟨_,_,rfl⟩:=us2 hl;rfl⟩
  obtain ⟨⟨_,F35⟩,k35⟩:=l35.fn
  have D35:Def K mg "place_of" qfn ["sign","groups"]:=⟨_,_,F35,PySem.W.mg_of X G a35,F35.binds (ps:=["sign","groups"]) fun _ _ _ _ _ _ us hl=>by obtain ⟨_,_,rfl⟩:=us2 hl;rfl⟩
  obtain ⟨⟨_,F36⟩,k36⟩:=l36.fn
  have D36:Def K mg "reduced" qhi ["top","bottom"]:=⟨_,_,F36,PySem.W.mg_of X G a36,F36.binds (ps:=["top","bottom"]) fun _ _ _ _ _ _ us hl=>by obtain ⟨_,_,rfl⟩:=us2 hl;rfl⟩
  obtain ⟨⟨_,F37⟩,k37⟩:=l37.fn
  have D37:Def K mg "share" qnx ["top","bottom"]:=⟨_,_,F37,PySem.W.mg_of X G a37,F37.binds (ps:=["top","bottom"]) fun _ _ _ _ _ _ us hl=>by obtain ⟨_,_,rfl⟩:=us2 hl;rfl⟩
  obtain ⟨⟨_,F38⟩,k38⟩:=l38.fn
  have D38:Def K mg "parts_of" qfx ["group","glass"]:=⟨_,_,F38,PySem.W.mg_of X G a38,F38.binds (ps:=["group","glass"]) fun _ _ _ _ _ _ us hl=>by obtain ⟨_,_,rfl⟩:=us2 hl;rfl⟩
  obtain ⟨⟨_,F39⟩,k39⟩:=l39.fn
  have D39:Def K mg "least" qny ["glass"]:=⟨_,_,F39,PySem.W.mg_of X G a39,F39.binds (ps:=["glass"]) fun _ _ _ _ _ _ us hl=>by obtain ⟨_,rfl⟩:=us1 hl;rfl⟩
  obtain ⟨⟨_,F40⟩,k40⟩:=l40.fn
  have D40:Def K mg "_law_pen" qfw ["_law_script"]:=⟨_,_,F40,PySem.W.mg_of X G a40,F40.binds (ps:=["_law_script"]) fun _ _ _ _ _ _ us hl=>by obtain ⟨_,rfl⟩:=us1 hl;rfl⟩
  obtain ⟨⟨_,F41⟩,k41⟩:=l41.fn
  have D41:Def K mg "_law_mixed" qdt ["_law_pen_here"]:=⟨_,_,F41,PySem.W.mg_of X G a41,F41.binds (ps:=["_law_pen_here"]) fun _ _ _ _ _ _ us hl=>by obtain ⟨_,rfl⟩:=us1 hl;rfl⟩
  obtain ⟨⟨_,F42⟩,k42⟩:=l42.fn
  have D42:Def K mg "_law_next" qep ["_law_pen_here","_law_many"]:=⟨_,_,F42,PySem.W.mg_of X G a42,F42.binds (ps:=["_law_pen_here","_law_many"]) fun _ _ _ _ _ _ us hl=>by obtain ⟨_,_,rfl⟩:=us2 hl;rfl⟩
  obtain ⟨⟨_,F43⟩,k43⟩:=l43.fn
  have D43:Def K mg "_law_divisor" qcr ["_law_numbers"]:=⟨_,_,F43,PySem.W.mg_of X G a43,F43.binds (ps:=["_law_numbers"]) fun _ _ _ _ _ _ us hl=>by obtain ⟨_,rfl⟩:=us1 hl;rfl⟩
  obtain ⟨⟨_,F44⟩,k44⟩:=l44.fn
  have D44:Def K mg "_law_share" qdq ["_law_top","_law_bottom"]:=⟨_,_,F44,PySem.W.mg_of X G a44,F44.binds (ps:=["_law_top","_law_bottom"]) fun _ _ _ _ _ _ us hl=>by obtain ⟨_,_,rfl⟩:=us2 hl;rfl⟩
  obtain ⟨⟨_,F45⟩,k45⟩:=l45.fn
  have D45:Def K mg "_law_reduced" qcn ["_law_bottom","_law_rows"]:=⟨_,_,F45,PySem.W.mg_of X G a45,F45.binds (ps:=["_law_bottom","_law_rows"]) fun _ _ _ _ _ _ us hl=>by obtain ⟨_,_,rfl⟩:=us2 hl;rfl⟩
  obtain ⟨⟨_,F46⟩,k46⟩:=l46.fn
  have D46:Def K mg "_law_row" qfq ["_law_pen_here","_law_width","_law_bottom"]:=⟨_,_,F46,PySem.W.mg_of X G a46,F46.binds (ps:=["_law_pen_here","_law_width","_law_bottom"]) fun _ _ _ _ _ _ us hl=>by obtain ⟨_,_,_,rfl⟩:=us3 hl;rfl⟩
  obtain ⟨⟨_,F47⟩,k47⟩:=l47.fn
  have D47:Def K mg "_law_split" qdr ["_law_pen_here","_law_rows"]:=⟨_,_,F47,PySem.W.mg_of X G a47,F47.binds (ps:=["_law_pen_here","_law_rows"]) fun _ _ _ _ _ _ us hl=>by obtain ⟨_,_,rfl⟩:=us2 hl;rfl⟩
  obtain ⟨⟨_,F48⟩,k48⟩:=l48.fn
  have D48:Def K mg "_law_table" qdx ["_law_pen_here","_law_many","_law_most","_law_far"]:=⟨_,_,F48,PySem.W.mg_of X G a48,F48.binds (ps:=["_law_pen_here","_law_many","_law_most","_law_far"]) fun _ _ _ _ _ _ us hl=>by obtain ⟨_,_,_,_,rfl⟩:=us4 hl;rfl⟩
  obtain ⟨⟨_,F49⟩,k49⟩:=l49.fn
  have D49:Def K mg "_law_payoffs" qcs ["_law_pen_here","_law_many","_law_acts"]:=⟨_,_,F49,PySem.W.mg_of X G a49,F49.binds (ps:=["_law_pen_here","_law_many","_law_acts"]) fun _ _ _ _ _ _ us hl=>by obtain ⟨_,_,_,rfl⟩:=us3 hl;rfl⟩
  obtain ⟨⟨_,F50⟩,k50⟩:=l50.fn
  have D50:Def K mg "check_payoffs" qbw ["glass","payoffs"]:=⟨_,_,F50,PySem.W.mg_of X G a50,F50.binds (ps:=["glass","payoffs"]) fun _ _ _ _ _ _ us hl=>by obtain ⟨_,_,rfl⟩:=us2 hl;rfl⟩
  obtain ⟨⟨_,F51⟩,k51⟩:=l51.fn
  have D51:Def K mg "is_plan" qhm ["plan","many","acts"]:=⟨_,_,F51,PySem.W.mg_of X G a51,F51.binds (ps:=["plan","many","acts"]) fun _ _ _ _ _ _ us hl=>by obtain ⟨_,_,_,rfl⟩:=us3 hl;rfl⟩
  obtain ⟨⟨_,F52⟩,k52⟩:=l52.fn
  have D52:Def K mg "worth" qnr ["glass","payoffs","sign","act"]:=⟨_,_,F52,PySem.W.mg_of X G a52,F52.binds (ps:=["glass","payoffs","sign","act"]) fun _ _ _ _ _ _ us hl=>by obtain ⟨_,_,_,_,rfl⟩:=us4 hl;rfl⟩
  obtain ⟨⟨_,F53⟩,k53⟩:=l53.fn
  have D53:Def K mg "gain" qtc ["glass","payoffs","plan"]:=⟨_,_,F53,PySem.W.mg_of X G a53,F53.binds (ps:=["glass","payoffs","plan"]) fun _ _ _ _ _ _ us hl=>by obtain ⟨_,_,_,rfl⟩:=us3 hl;rfl⟩
  obtain ⟨⟨_,F54⟩,k54⟩:=l54.fn
  have D54:Def K mg "first_best_act" qbk ["glass","payoffs","sign"]:=⟨_,_,F54,PySem.W.mg_of X G a54,F54.binds (ps:=["glass","payoffs","sign"]) fun _ _ _ _ _ _ us hl=>by obtain ⟨_,_,_,rfl⟩:=us3 hl;rfl⟩
  obtain ⟨⟨_,F55⟩,k55⟩:=l55.fn
  have D55:Def K mg "best" qsy ["glass","payoffs"]:=⟨_,_,F55,PySem.W.mg_of X G a55,F55.binds (ps:=["glass","payoffs"]) fun _ _ _ _ _ _ us hl=>by obtain ⟨_,_,rfl⟩:=us2 hl;rfl⟩
  obtain ⟨⟨_,F56⟩,k56⟩:=l56.fn
  have D56:Def K mg "_law_gains" qdu ["_law_glass","_law_payoffs_here"]:=⟨_,_,F56,PySem.W.mg_of X G a56,F56.binds (ps:=["_law_glass","_law_payoffs_here"]) fun _ _ _ _ _ _ us hl=>by obtain ⟨_,_,rfl⟩:=us2 hl;rfl⟩
  obtain ⟨⟨_,F57⟩,k57⟩:=l57.fn
  have D57:Def K mg "_law_above" qdp ["_law_one","_law_other"]:=⟨_,_,F57,PySem.W.mg_of X G a57,F57.binds (ps:=["_law_one","_law_other"]) fun _ _ _ _ _ _ us hl=>by obtain ⟨_,_,rfl⟩:=us2 hl;rfl⟩
  obtain ⟨⟨_,F58⟩,k58⟩:=l58.fn
  have D58:Def K mg "_law_mixed_gain" qbd ["_law_part","_law_one","_law_other"]:=⟨_,_,F58,PySem.W.mg_of X G a58,F58.binds (ps:=["_law_part","_law_one","_law_other"]) fun _ _ _ _ _ _ us hl=>by obtain ⟨_,_,_,rfl⟩:=us3 hl;rfl⟩
  have F59:=qxl (st:=qlv) l59 c59 k59
  refine ⟨PySem.W.fnOf "law" "law" (defArgs qlv) (defBody qlv) (defScope qlv) .none kV59 dc59 pm59 an59 cd59 ct59,fun s v => .of_eq rfl,fun base KB _=>?_⟩
  have O0:=quc (P:=l.prog) (w:=w) (base:=base) D0 T
  have O1:=qrs D1 T O0
  have O2:=qmw D2 T O0 O1
  have O3:=qwj (P:=l.prog) (w:=w) (base:=base) D3 T
  have O4:=qip D4 T O3
  have O5:=qwg (P:=l.prog) (w:=w) (base:=base) D5 T
  have O6:=qmc D6 T O4 O5
  have O7:=qty D7 T O2 O6
  have O8:=qlz D8 T O0
  have O9:=qtp (P:=l.prog) (w:=w) (base:=base) D9 T
  have O10:=zafw D10 T O7 O8 O9
  have O11:=zadd D11 T O7 O8
  have O12:=zaeu (P:=l.prog) (w:=w) (base:=base) D12 T
  have O13:=zabr (P:=l.prog) (w:=w) (base:=base) D13 T
  have O14:=zabq (P:=l.prog) (w:=w) (base:=base) D14 T
  have O15:=qpo D15 T O12 O13 O14
  have O16:=qrq D16 T O6 O12 O15
  have O17:=zabn D17 T O16
  have O18:=zaae (P:=l.prog) (w:=w) (base:=base) D18 T
  have O19:=qrp D19 T O18
  have O20:=zaay (P:=l.prog) (w:=w) (base:=base) D20 T
  have O21:=qgc D21 T O20
  have O22:=qgf (P:=l.prog) (w:=w) (base:=base) D22 T
  have O23:=zaac D23 T O6 O12 O19 O21 O22
  have O24:=qto D24 T O0 O3
  have O25:=qwx D25 T O24
  have O26:=zaer D26 T O6 O12 O18 O21 O22 O25
  have O27:=qpd (P:=l.prog) (w:=w) (base:=base) D27 T
  have O28:=zaap D28 T O0 O6 O12 O27
  have O29:=qmv (P:=l.prog) (w:=w) (base:=base) D29 T
  have O30:=qic D30 T O3 O29
  have O31:=qjw (P:=l.prog) (w:=w) (base:=base) D31 T
  have O32:=qjv D32 T O31
  have O33:=qkh (P:=l.prog) (w:=w) (base:=base) D33 T KB O4 O5 O12 O13 O32
  have O34:=qir D34 T O31
  have O35:=qub (P:=l.prog) (w:=w) (base:=base) D35 T
  have O36:=qwb D36 T O3
  have O37:=zafk D37 T O0 O36
  have O38:=qtv D38 T O12 O13 O32 O37
  have O39:=zaee D39 T O6 O9 O12 O30 O33 O34 O35 O38
  have O40:=qtq (P:=l.prog) (w:=w) (base:=base) D40 T
  have O41:=qpn (P:=l.prog) (w:=w) (base:=base) D41 T
  have O42:=qrl D42 T O41
  have O43:=qlx (P:=l.prog) (w:=w) (base:=base) D43 T
  have O44:=qpm D44 T O43
  have O45:=qmb D45 T O43
  have O46:=qua D46 T O42
  have O47:=qph D47 T O42
  have O48:=qpl D48 T O42 O45 O46 O47
  have O49:=qls D49 T O42
  have O50:=qkf D50 T O20
  have O51:=qwp D51 T O0
  have O52:=zagi D52 T O13 O14
  have O53:=zajr D53 T O12 O37 O50 O51 O52
  have O54:=qiq D54 T O52
  have O55:=zalb D55 T O12 O50 O53 O54
  have O56:=qpp D56 T O55
  have O57:=qpw (P:=l.prog) (w:=w) (base:=base) D57 T
  have O58:=qib D58 T O44
  exact zano (P:=l.prog) (w:=w) (K:=K) (mg:=mg) (base:=base) F59 T O10 O11 O17 O23 O26 O28 O39 O40 O42 O44 O48 O49 O56 O57 O58
theorem walk {l:PySem.W.OpenLaw}{q:Program}{loose:List Str}{XP:(Str→Option Value)→Heap→Prop}{YP:World→Heap→Prop}{d:DefRec}{K:Params→PySem.W.Frag}{tb c0:Addr} (hn:l.most=some 63) (hdf:d.params.defaults=[])
 (hY : ∀ (w:World) (h:Heap),YP w h→(K w.params).In h∧h.TableAt c0 tb #[]) (hKt : ∀ P,(K P).lookup tb=none)
 (F : ∀ (w:World) (mg:Str→Option Value) (fa:Addr) (h:Heap),(K w.params).In h→h.Ns mainGlobals mg→mg d.name=some (.ref fa) →
 ∃ fd:FuncData,(∀ (s:Shared) (u:Value),BindsTo s fd ⟨[u],[]⟩ [("_law_script",u)]) ∧ ∀ base:Heap,(K w.params).In base→base.Ns mainGlobals mg→FnOk l.prog w (K w.params) mg base CX0 7 fa fd ["_law_script"] (qpg tb (K w.params))) :
 PySem.W.WalkO q loose XP YP l.row.toRowW d [] (fun f vs=>PySem.call f vs) :=
  L2.walk_ofT (n:=63) (k:=7) (x := "_law_script") (tb:=fun _=>tb) (c0:=fun _=>c0) (CX:=fun _=>CX0) (sp:=fun w=>qpg tb (K w.params)) hn (by decide) hdf ⟨rfl,by decide,by decide⟩ hY hKt F (fun _ _ a ns hl ht hS=>⟨ht,a,ns,rfl,hS,hl,fun _=>rfl⟩) fun _ _ _ _ _ z=>z
noncomputable section
open PySem PySem.W PySem.Calls PyProof.Rows
abbrev N0:=BT.node
abbrev nl0:=BT.nil
def en0 (P:Params) (x:Str) (t:Nat) (v:Value):DictEntry:=⟨PyData.keyHash P x,.str x t,v⟩
def tu0 (vs:List Value):Obj:=⟨.type "tuple",none,.seq vs.toArray 0,#[]⟩
def em0:Obj:=⟨.none,none,.fields #[],#[]⟩
def fo0 (n q:Str) (s:Stmt) (pm:Value) (c:Nat):Obj:=⟨.type "function",none,.func (PySem.W.fnOf n q (L2.defArgs s) (L2.defBody s) (L2.defScope s) .none .none .none pm none (.ref c) .none),#[]⟩
def pr0 (n q:Str) (s:Stmt):Obj:=⟨.none,none,.func ⟨n,q,L2.defArgs s,.stmts (L2.defBody s),L2.defScope s,0,[],.none,.none,.none,.none,none,.none,.none,0⟩,#[]⟩
def co0 (n q:Str) (t:Nat) (l ac fl:Int) (a:Nat) (b:Bool) (x y z:Value) (u:Nat):Obj:=⟨.type "code",none,.fields #[.str n t,.str q (t+1),.str "/claim/cut.py" (t+2),.int l 0,.int ac 0,.int 0 0,.int 0 0,.int fl 0,.ref a,.bool b,.int 181 0,.ref (a+1),.none,x,y,z,.int u 0,.int l 0,.str "/claim/cut.py" (u+1)],#[]⟩
lay_quick PySem.Challenge.pw_dullglass_k20_whole_dulled_never_gains_m
def env0:Env:={ scope:=PySem.Challenge.pw_dullglass_k20_whole_dulled_never_gains_m.main.scope,locals:=mainNs,globals:=mainNs,cells:=[],code:=(.ref 13),frame:=some 14 }
def cE0:Code :=.body (behindTheImports PySem.Challenge.pw_dullglass_k20_whole_dulled_never_gains_m) env0
def ls0:List Str:=[Str.ofString "GlassError",Str.ofString "NoShare",Str.ofString "NoGlass",Str.ofString "NoFit",Str.ofString "TooMany",Str.ofString "is_whole",Str.ofString "divisor",Str.ofString "share",Str.ofString "reduced",Str.ofString "is_share",Str.ofString "is_part",Str.ofString "FEWEST_STANDS",Str.ofString "MOST_STANDS",Str.ofString "MOST_SIGNS",Str.ofString "glass_of",Str.ofString "makes_table",Str.ofString "makes_row",Str.ofString "common_divisor",Str.ofString "lowest_table",Str.ofString "divided",Str.ofString "table_of_shares",Str.ofString "over_bottom",Str.ofString "stands",Str.ofString "signs",Str.ofString "column",Str.ofString "paired",Str.ofString "clear",Str.ofString "blind",Str.ofString "check_stands",Str.ofString "one_sign",Str.ofString "gain",Str.ofString "best",Str.ofString "check_payoffs",Str.ofString "is_plan",Str.ofString "worth",Str.ofString "first_best_act",Str.ofString "dulled",Str.ofString "passed_on",Str.ofString "passed_row",Str.ofString "beside",Str.ofString "both_seen",Str.ofString "mixed",Str.ofString "scaled",Str.ofString "check_alike_stands",Str.ofString "check_not_too_many",Str.ofString "joined",Str.ofString "joined_row",Str.ofString "least",Str.ofString "sorted_groups",Str.ofString "joined_column",Str.ofString "joined_numbers",Str.ofString "joined_number",Str.ofString "place_of",Str.ofString "parts_of",Str.ofString "_law_pen",Str.ofString "_law_mixed",Str.ofString "_law_next",Str.ofString "_law_divisor",Str.ofString "_law_share",Str.ofString "_law_reduced",Str.ofString "_law_row",Str.ofString "_law_split",Str.ofString "_law_table",Str.ofString "_law_payoffs",Str.ofString "_law_worth",Str.ofString "_law_gains",Str.ofString "_law_above",Str.ofString "_law_mixed_gain"]
def lf0:Life:=⟨[],[],[],0,[],[],false,#[],[],0,false,false,false,0,[2000,10,10],false,0,true,[],[],0,false⟩
def o13a:Obj:=co0 "<module>" "<module>" 182 1 0 0 11 false .none .none .none 185
def o14a:Obj:=⟨(.type "frame"),none,.plain,#[(some (.ref 13)),(some (.ref 3)),(some (.ref 3)),none,(some (.str "__main__" 164)),none,(some (.ref 0))]⟩
def o3 (P:Params):Obj:=⟨(.type "dict"),none,(.dict #[en0 P "__name__" 165 (.str "law_dullglass_k20_whole_dulled_never_gains_m" 612),en0 P "__doc__" 166 .none,en0 P "__package__" 167 .none,en0 P "__loader__" 168 (.builtin "__main__.__loader__#opaque"),en0 P "__spec__" 169 .none,en0 P "__annotations__" 170 (.ref 6),en0 P "__builtins__" 171 (.ref 4),en0 P "__file__" 173 (.str "/claim/cut.py" 172),en0 P "__cached__" 174 .none,en0 P "GlassError" 206 (.ref 24),en0 P "NoShare" 222 (.ref 37),en0 P "NoGlass" 238 (.ref 49),en0 P "NoFit" 254 (.ref 61),en0 P "TooMany" 270 (.ref 73),en0 P "is_whole" 279 (.ref 82),en0 P "divisor" 288 (.ref 89),en0 P "share" 296 (.ref 96),en0 P "reduced" 305 (.ref 103),en0 P "is_share" 312 (.ref 110),en0 P "is_part" 319 (.ref 117),en0 P "FEWEST_STANDS" 323 (.int (2) 322),en0 P "MOST_STANDS" 325 (.int (4) 324),en0 P "MOST_SIGNS" 327 (.int (12) 326),en0 P "glass_of" 335 (.ref 124),en0 P "makes_table" 341 (.ref 129),en0 P "makes_row" 347 (.ref 134),en0 P "common_divisor" 357 (.ref 141),en0 P "lowest_table" 363 (.ref 146),en0 P "divided" 369 (.ref 151),en0 P "table_of_shares" 375 (.ref 156),en0 P "over_bottom" 381 (.ref 161),en0 P "stands" 388 (.ref 168),en0 P "signs" 395 (.ref 175),en0 P "column" 401 (.ref 180),en0 P "paired" 407 (.ref 185),en0 P "clear" 413 (.ref 190),en0 P "blind" 419 (.ref 195),en0 P "check_stands" 426 (.ref 202),en0 P "one_sign" 432 (.ref 207),en0 P "gain" 440 (.ref 212),en0 P "best" 446 (.ref 217),en0 P "check_payoffs" 454 (.ref 224),en0 P "is_plan" 460 (.ref 229),en0 P "worth" 470 (.ref 236),en0 P "first_best_act" 476 (.ref 241),en0 P "dulled" 486 (.ref 248),en0 P "passed_on" 492 (.ref 253),en0 P "passed_row" 498 (.ref 258),en0 P "beside" 504 (.ref 263),en0 P "both_seen" 514 (.ref 270),en0 P "mixed" 520 (.ref 275),en0 P "scaled" 526 (.ref 280),en0 P "check_alike_stands" 534 (.ref 287),en0 P "check_not_too_many" 541 (.ref 294),en0 P "joined" 547 (.ref 299),en0 P "joined_row" 557 (.ref 306),en0 P "least" 565 (.ref 311),en0 P "sorted_groups" 577 (.ref 318),en0 P "joined_column" 583 (.ref 323),en0 P "joined_numbers" 589 (.ref 328),en0 P "joined_number" 595 (.ref 333),en0 P "place_of" 605 (.ref 340),en0 P "parts_of" 611 (.ref 345),en0 P "_law_pen" 621 (.ref 352),en0 P "_law_mixed" 630 (.ref 359),en0 P "_law_next" 639 (.ref 366),en0 P "_law_divisor" 649 (.ref 373),en0 P "_law_share" 658 (.ref 380),en0 P "_law_reduced" 664 (.ref 385),en0 P "_law_row" 670 (.ref 390),en0 P "_law_split" 676 (.ref 395),en0 P "_law_table" 682 (.ref 400),en0 P "_law_payoffs" 688 (.ref 405),en0 P "_law_worth" 694 (.ref 410),en0 P "_law_gains" 702 (.ref 417),en0 P "_law_above" 710 (.ref 424),en0 P "_law_mixed_gain" 720 (.ref 431),en0 P "law" 726 (.ref 436)] 78),#[]⟩
def o12:Obj:=⟨.none,none,(.fields #[(.int (2) 0),(.int (0) 0),(.ref 20),(.int (4) 0),(.int (0) 0),(.ref 33),(.int (6) 0),(.int (0) 0),(.ref 45),(.int (8) 0),(.int (0) 0),(.ref 57),(.int (10) 0),(.int (0) 0),(.ref 69),(.int (13) 0),(.int (0) 0),(.ref 81),(.int (15) 0),(.int (0) 0),(.ref 88),(.int (23) 0),(.int (0) 0),(.ref 95),(.int (27) 0),(.int (0) 0),(.ref 102),(.int (32) 0),(.int (0) 0),(.ref 109),(.int (38) 0),(.int (0) 0),(.ref 116),(.int (44) 0),(.int (0) 0),(.ref 123),(.int (48) 0),(.int (0) 0),(.ref 128),(.int (56) 0),(.int (0) 0),(.ref 133),(.int (60) 0),(.int (0) 0),(.ref 140),(.int (66) 0),(.int (0) 0),(.ref 145),(.int (69) 0),(.int (0) 0),(.ref 150),(.int (71) 0),(.int (0) 0),(.ref 155),(.int (77) 0),(.int (0) 0),(.ref 160),(.int (79) 0),(.int (0) 0),(.ref 167),(.int (81) 0),(.int (0) 0),(.ref 174),(.int (83) 0),(.int (0) 0),(.ref 179),(.int (85) 0),(.int (0) 0),(.ref 184),(.int (87) 0),(.int (0) 0),(.ref 189),(.int (90) 0),(.int (0) 0),(.ref 194),(.int (93) 0),(.int (0) 0),(.ref 201),(.int (96) 0),(.int (0) 0),(.ref 206),(.int (99) 0),(.int (0) 0),(.ref 211),(.int (105) 0),(.int (0) 0),(.ref 216),(.int (109) 0),(.int (0) 0),(.ref 223),(.int (112) 0),(.int (0) 0),(.ref 228),(.int (116) 0),(.int (0) 0),(.ref 235),(.int (118) 0),(.int (0) 0),(.ref 240),(.int (122) 0),(.int (0) 0),(.ref 247),(.int (124) 0),(.int (0) 0),(.ref 252),(.int (128) 0),(.int (0) 0),(.ref 257),(.int (130) 0),(.int (0) 0),(.ref 262),(.int (135) 0),(.int (0) 0),(.ref 269),(.int (140) 0),(.int (0) 0),(.ref 274),(.int (149) 0),(.int (0) 0),(.ref 279),(.int (151) 0),(.int (0) 0),(.ref 286),(.int (154) 0),(.int (0) 0),(.ref 293),(.int (157) 0),(.int (0) 0),(.ref 298),(.int (161) 0),(.int (0) 0),(.ref 305),(.int (166) 0),(.int (0) 0),(.ref 310),(.int (172) 0),(.int (0) 0),(.ref 317),(.int (180) 0),(.int (0) 0),(.ref 322),(.int (182) 0),(.int (0) 0),(.ref 327),(.int (184) 0),(.int (0) 0),(.ref 332),(.int (186) 0),(.int (0) 0),(.ref 339),(.int (191) 0),(.int (0) 0),(.ref 344),(.int (195) 0),(.int (0) 0),(.ref 351),(.int (200) 0),(.int (0) 0),(.ref 358),(.int (206) 0),(.int (0) 0),(.ref 365),(.int (219) 0),(.int (0) 0),(.ref 372),(.int (226) 0),(.int (0) 0),(.ref 379),(.int (229) 0),(.int (0) 0),(.ref 384),(.int (235) 0),(.int (0) 0),(.ref 389),(.int (238) 0),(.int (0) 0),(.ref 394),(.int (250) 0),(.int (0) 0),(.ref 399),(.int (258) 0),(.int (0) 0),(.ref 404),(.int (267) 0),(.int (0) 0),(.ref 409),(.int (269) 0),(.int (0) 0),(.ref 416),(.int (271) 0),(.int (0) 0),(.ref 423),(.int (273) 0),(.int (0) 0),(.ref 430),(.int (276) 0),(.int (0) 0),(.ref 435)]),#[]⟩
def o16:Obj:=⟨(.type "builtin_function_or_method"),none,(.fields #[(.builtin "type.__prepare__"),(.type "type")]),#[]⟩
def o17 (P:Params):Obj:=⟨(.type "dict"),none,(.dict #[en0 P "__module__" 196 (.str "dullglass.errors" 187),en0 P "__qualname__" 198 (.str "GlassError" 197),en0 P "__firstlineno__" 200 (.int (2) 199),en0 P "__static_attributes__" 201 (.ref 22)] 4),#[]⟩
def o20:Obj:=co0 "GlassError" "GlassError" 191 2 0 0 18 false .none .none .none 194
def o21:Obj:=⟨(.type "frame"),none,.plain,#[(some (.ref 20)),(some (.ref 3)),(some (.ref 17)),none,(some (.str "dullglass.errors" 187)),none,(some (.ref 0))]⟩
def o23 (P:Params):Obj:=⟨(.type "dict"),none,(.dict #[en0 P "__module__" 196 (.str "dullglass.errors" 187),en0 P "__firstlineno__" 200 (.int (2) 199),en0 P "__static_attributes__" 201 (.ref 22),en0 P "__weakref__" 203 (.ref 25),en0 P "__doc__" 204 .none] 3),#[]⟩
def o24:Obj:=⟨(.type "type"),none,(.cls ⟨"GlassError",[(.type "ValueError")],[(.ref 24),(.type "ValueError"),(.type "Exception"),(.type "BaseException"),(.type "object")],23,"GlassError",true,[],[(.ref 37),(.ref 49),(.ref 61),(.ref 73)],false,none,false⟩),#[(some (.ref 15)),none,(some (.str "GlassError" 189)),(some (.str "GlassError" 197)),(some (.builtin "ValueError.__new__")),(some (.bool true))]⟩
def o25:Obj:=⟨(.type "getset_descriptor"),none,(.fields #[(.str "__weakref__" 202),(.ref 24),(.builtin "ExceptionGroup.__weakref__"),.none]),#[]⟩
def o26:Obj:=⟨(.type "super"),none,(.fields #[(.ref 24),(.ref 24),(.ref 24)]),#[]⟩
def o27:Obj:=⟨(.type "builtin_function_or_method"),none,(.fields #[(.builtin "object.__init_subclass__"),(.ref 24)]),#[]⟩
def o29:Obj:=⟨(.type "builtin_function_or_method"),none,(.fields #[(.builtin "type.__prepare__"),(.type "type")]),#[]⟩
def o30 (P:Params):Obj:=⟨(.type "dict"),none,(.dict #[en0 P "__module__" 214 (.str "dullglass.errors" 187),en0 P "__qualname__" 216 (.str "NoShare" 215),en0 P "__firstlineno__" 218 (.int (4) 217),en0 P "__static_attributes__" 219 (.ref 35)] 4),#[]⟩
def o33:Obj:=co0 "NoShare" "NoShare" 209 4 0 0 31 false .none .none .none 212
def o34:Obj:=⟨(.type "frame"),none,.plain,#[(some (.ref 33)),(some (.ref 3)),(some (.ref 30)),none,(some (.str "dullglass.errors" 187)),none,(some (.ref 0))]⟩
def o36 (P:Params):Obj:=⟨(.type "dict"),none,(.dict #[en0 P "__module__" 214 (.str "dullglass.errors" 187),en0 P "__firstlineno__" 218 (.int (4) 217),en0 P "__static_attributes__" 219 (.ref 35),en0 P "__doc__" 220 .none] 2),#[]⟩
def o37:Obj:=⟨(.type "type"),none,(.cls ⟨"NoShare",[(.ref 24)],[(.ref 37),(.ref 24),(.type "ValueError"),(.type "Exception"),(.type "BaseException"),(.type "object")],36,"NoShare",true,[],[],false,none,false⟩),#[(some (.ref 28)),none,(some (.str "NoShare" 207)),(some (.str "NoShare" 215)),(some (.builtin "ValueError.__new__")),(some (.bool true))]⟩
def o38:Obj:=⟨(.type "super"),none,(.fields #[(.ref 37),(.ref 37),(.ref 37)]),#[]⟩
def o39:Obj:=⟨(.type "builtin_function_or_method"),none,(.fields #[(.builtin "object.__init_subclass__"),(.ref 37)]),#[]⟩
def o41:Obj:=⟨(.type "builtin_function_or_method"),none,(.fields #[(.builtin "type.__prepare__"),(.type "type")]),#[]⟩
def o42 (P:Params):Obj:=⟨(.type "dict"),none,(.dict #[en0 P "__module__" 230 (.str "dullglass.errors" 187),en0 P "__qualname__" 232 (.str "NoGlass" 231),en0 P "__firstlineno__" 234 (.int (6) 233),en0 P "__static_attributes__" 235 (.ref 47)] 4),#[]⟩
def o45:Obj:=co0 "NoGlass" "NoGlass" 225 6 0 0 43 false .none .none .none 228
def o46:Obj:=⟨(.type "frame"),none,.plain,#[(some (.ref 45)),(some (.ref 3)),(some (.ref 42)),none,(some (.str "dullglass.errors" 187)),none,(some (.ref 0))]⟩
def o48 (P:Params):Obj:=⟨(.type "dict"),none,(.dict #[en0 P "__module__" 230 (.str "dullglass.errors" 187),en0 P "__firstlineno__" 234 (.int (6) 233),en0 P "__static_attributes__" 235 (.ref 47),en0 P "__doc__" 236 .none] 2),#[]⟩
def o49:Obj:=⟨(.type "type"),none,(.cls ⟨"NoGlass",[(.ref 24)],[(.ref 49),(.ref 24),(.type "ValueError"),(.type "Exception"),(.type "BaseException"),(.type "object")],48,"NoGlass",true,[],[],false,none,false⟩),#[(some (.ref 40)),none,(some (.str "NoGlass" 223)),(some (.str "NoGlass" 231)),(some (.builtin "ValueError.__new__")),(some (.bool true))]⟩
def o50:Obj:=⟨(.type "super"),none,(.fields #[(.ref 49),(.ref 49),(.ref 49)]),#[]⟩
def o51:Obj:=⟨(.type "builtin_function_or_method"),none,(.fields #[(.builtin "object.__init_subclass__"),(.ref 49)]),#[]⟩
def o53:Obj:=⟨(.type "builtin_function_or_method"),none,(.fields #[(.builtin "type.__prepare__"),(.type "type")]),#[]⟩
def o54 (P:Params):Obj:=⟨(.type "dict"),none,(.dict #[en0 P "__module__" 246 (.str "dullglass.errors" 187),en0 P "__qualname__" 248 (.str "NoFit" 247),en0 P "__firstlineno__" 250 (.int (8) 249),en0 P "__static_attributes__" 251 (.ref 59)] 4),#[]⟩
def o57:Obj:=co0 "NoFit" "NoFit" 241 8 0 0 55 false .none .none .none 244
def o58:Obj:=⟨(.type "frame"),none,.plain,#[(some (.ref 57)),(some (.ref 3)),(some (.ref 54)),none,(some (.str "dullglass.errors" 187)),none,(some (.ref 0))]⟩
def o60 (P:Params):Obj:=⟨(.type "dict"),none,(.dict #[en0 P "__module__" 246 (.str "dullglass.errors" 187),en0 P "__firstlineno__" 250 (.int (8) 249),en0 P "__static_attributes__" 251 (.ref 59),en0 P "__doc__" 252 .none] 2),#[]⟩
def o61:Obj:=⟨(.type "type"),none,(.cls ⟨"NoFit",[(.ref 24)],[(.ref 61),(.ref 24),(.type "ValueError"),(.type "Exception"),(.type "BaseException"),(.type "object")],60,"NoFit",true,[],[],false,none,false⟩),#[(some (.ref 52)),none,(some (.str "NoFit" 239)),(some (.str "NoFit" 247)),(some (.builtin "ValueError.__new__")),(some (.bool true))]⟩
def o62:Obj:=⟨(.type "super"),none,(.fields #[(.ref 61),(.ref 61),(.ref 61)]),#[]⟩
def o63:Obj:=⟨(.type "builtin_function_or_method"),none,(.fields #[(.builtin "object.__init_subclass__"),(.ref 61)]),#[]⟩
def o65:Obj:=⟨(.type "builtin_function_or_method"),none,(.fields #[(.builtin "type.__prepare__"),(.type "type")]),#[]⟩
def o66 (P:Params):Obj:=⟨(.type "dict"),none,(.dict #[en0 P "__module__" 262 (.str "dullglass.errors" 187),en0 P "__qualname__" 264 (.str "TooMany" 263),en0 P "__firstlineno__" 266 (.int (10) 265),en0 P "__static_attributes__" 267 (.ref 71)] 4),#[]⟩
def o69:Obj:=co0 "TooMany" "TooMany" 257 10 0 0 67 false .none .none .none 260
def o70:Obj:=⟨(.type "frame"),none,.plain,#[(some (.ref 69)),(some (.ref 3)),(some (.ref 66)),none,(some (.str "dullglass.errors" 187)),none,(some (.ref 0))]⟩
def o72 (P:Params):Obj:=⟨(.type "dict"),none,(.dict #[en0 P "__module__" 262 (.str "dullglass.errors" 187),en0 P "__firstlineno__" 266 (.int (10) 265),en0 P "__static_attributes__" 267 (.ref 71),en0 P "__doc__" 268 .none] 2),#[]⟩
def o73:Obj:=⟨(.type "type"),none,(.cls ⟨"TooMany",[(.ref 24)],[(.ref 73),(.ref 24),(.type "ValueError"),(.type "Exception"),(.type "BaseException"),(.type "object")],72,"TooMany",true,[],[],false,none,false⟩),#[(some (.ref 64)),none,(some (.str "TooMany" 255)),(some (.str "TooMany" 263)),(some (.builtin "ValueError.__new__")),(some (.bool true))]⟩
def o74:Obj:=⟨(.type "super"),none,(.fields #[(.ref 73),(.ref 73),(.ref 73)]),#[]⟩
def o75:Obj:=⟨(.type "builtin_function_or_method"),none,(.fields #[(.builtin "object.__init_subclass__"),(.ref 73)]),#[]⟩
def o81:Obj:=co0 "is_whole" "is_whole" 273 13 1 3 76 true (.ref 78) (.ref 79) (.ref 80) 277
def o82:Obj:=fo0 "is_whole" "is_whole" (top 7) (.str "dullglass.shares" 271) 81
def o88:Obj:=co0 "divisor" "divisor" 280 15 2 3 83 true (.ref 85) (.ref 86) (.ref 87) 286
def o89:Obj:=fo0 "divisor" "divisor" (top 8) (.str "dullglass.shares" 271) 88
def o95:Obj:=co0 "share" "share" 289 23 2 3 90 true (.ref 92) (.ref 93) (.ref 94) 294
def o96:Obj:=fo0 "share" "share" (top 9) (.str "dullglass.shares" 271) 95
def o102:Obj:=co0 "reduced" "reduced" 297 27 2 3 97 true (.ref 99) (.ref 100) (.ref 101) 303
def o103:Obj:=fo0 "reduced" "reduced" (top 10) (.str "dullglass.shares" 271) 102
def o109:Obj:=co0 "is_share" "is_share" 306 32 1 3 104 true (.ref 106) (.ref 107) (.ref 108) 310
def o110:Obj:=fo0 "is_share" "is_share" (top 11) (.str "dullglass.shares" 271) 109
def o116:Obj:=co0 "is_part" "is_part" 313 38 1 3 111 true (.ref 113) (.ref 114) (.ref 115) 317
def o117:Obj:=fo0 "is_part" "is_part" (top 12) (.str "dullglass.shares" 271) 116
def o123:Obj:=co0 "glass_of" "glass_of" 328 44 2 3 118 true (.ref 120) (.ref 121) (.ref 122) 333
def o124:Obj:=fo0 "glass_of" "glass_of" (top 17) (.str "dullglass.glasses" 320) 123
def o128:Obj:=co0 "makes_table" "makes_table" 336 48 4 3 125 true .none .none (.ref 127) 339
def o129:Obj:=fo0 "makes_table" "makes_table" (top 18) (.str "dullglass.glasses" 320) 128
def o133:Obj:=co0 "makes_row" "makes_row" 342 56 2 3 130 true .none .none (.ref 132) 345
def o134:Obj:=fo0 "makes_row" "makes_row" (top 19) (.str "dullglass.glasses" 320) 133
def o140:Obj:=co0 "common_divisor" "common_divisor" 348 60 1 3 135 true (.ref 137) (.ref 138) (.ref 139) 355
def o141:Obj:=fo0 "common_divisor" "common_divisor" (top 20) (.str "dullglass.glasses" 320) 140
def o145:Obj:=co0 "lowest_table" "lowest_table" 358 66 2 3 142 true .none .none (.ref 144) 361
def o146:Obj:=fo0 "lowest_table" "lowest_table" (top 21) (.str "dullglass.glasses" 320) 145
def o150:Obj:=co0 "divided" "divided" 364 69 2 3 147 true .none .none (.ref 149) 367
def o151:Obj:=fo0 "divided" "divided" (top 22) (.str "dullglass.glasses" 320) 150
def o155:Obj:=co0 "table_of_shares" "table_of_shares" 370 71 1 3 152 true .none .none (.ref 154) 373
def o156:Obj:=fo0 "table_of_shares" "table_of_shares" (top 23) (.str "dullglass.glasses" 320) 155
def o160:Obj:=co0 "over_bottom" "over_bottom" 376 77 2 3 157 true .none .none (.ref 159) 379
def o161:Obj:=fo0 "over_bottom" "over_bottom" (top 24) (.str "dullglass.glasses" 320) 160
def o167:Obj:=co0 "stands" "stands" 382 79 1 3 162 true (.ref 164) (.ref 165) (.ref 166) 386
def o168:Obj:=fo0 "stands" "stands" (top 25) (.str "dullglass.glasses" 320) 167
def o174:Obj:=co0 "signs" "signs" 389 81 1 3 169 true (.ref 171) (.ref 172) (.ref 173) 393
def o175:Obj:=fo0 "signs" "signs" (top 26) (.str "dullglass.glasses" 320) 174
def o179:Obj:=co0 "column" "column" 396 83 2 3 176 true .none .none (.ref 178) 399
def o180:Obj:=fo0 "column" "column" (top 27) (.str "dullglass.glasses" 320) 179
def o184:Obj:=co0 "paired" "paired" 402 85 2 3 181 true .none .none (.ref 183) 405
def o185:Obj:=fo0 "paired" "paired" (top 28) (.str "dullglass.glasses" 320) 184
def o189:Obj:=co0 "clear" "clear" 408 87 1 3 186 true .none .none (.ref 188) 411
def o190:Obj:=fo0 "clear" "clear" (top 29) (.str "dullglass.glasses" 320) 189
def o194:Obj:=co0 "blind" "blind" 414 90 1 3 191 true .none .none (.ref 193) 417
def o195:Obj:=fo0 "blind" "blind" (top 30) (.str "dullglass.glasses" 320) 194
def o201:Obj:=co0 "check_stands" "check_stands" 420 93 1 3 196 true (.ref 198) (.ref 199) (.ref 200) 424
def o202:Obj:=fo0 "check_stands" "check_stands" (top 31) (.str "dullglass.glasses" 320) 201
def o206:Obj:=co0 "one_sign" "one_sign" 427 96 2 3 203 true .none .none (.ref 205) 430
def o207:Obj:=fo0 "one_sign" "one_sign" (top 32) (.str "dullglass.glasses" 320) 206
def o211:Obj:=co0 "gain" "gain" 435 99 3 3 208 true .none .none (.ref 210) 438
def o212:Obj:=fo0 "gain" "gain" (top 34) (.str "dullglass.decisions" 433) 211
def o216:Obj:=co0 "best" "best" 441 105 2 3 213 true .none .none (.ref 215) 444
def o217:Obj:=fo0 "best" "best" (top 35) (.str "dullglass.decisions" 433) 216
def o223:Obj:=co0 "check_payoffs" "check_payoffs" 447 109 2 3 218 true (.ref 220) (.ref 221) (.ref 222) 452
def o224:Obj:=fo0 "check_payoffs" "check_payoffs" (top 36) (.str "dullglass.decisions" 433) 223
def o228:Obj:=co0 "is_plan" "is_plan" 455 112 3 3 225 true .none .none (.ref 227) 458
def o229:Obj:=fo0 "is_plan" "is_plan" (top 37) (.str "dullglass.decisions" 433) 228
def o235:Obj:=co0 "worth" "worth" 461 116 4 3 230 true (.ref 232) (.ref 233) (.ref 234) 468
def o236:Obj:=fo0 "worth" "worth" (top 38) (.str "dullglass.decisions" 433) 235
def o240:Obj:=co0 "first_best_act" "first_best_act" 471 118 3 3 237 true .none .none (.ref 239) 474
def o241:Obj:=fo0 "first_best_act" "first_best_act" (top 39) (.str "dullglass.decisions" 433) 240
def o247:Obj:=co0 "dulled" "dulled" 479 122 2 3 242 true (.ref 244) (.ref 245) (.ref 246) 484
def o248:Obj:=fo0 "dulled" "dulled" (top 41) (.str "dullglass.dulls" 477) 247
def o252:Obj:=co0 "passed_on" "passed_on" 487 124 2 3 249 true .none .none (.ref 251) 490
def o253:Obj:=fo0 "passed_on" "passed_on" (top 42) (.str "dullglass.dulls" 477) 252
def o257:Obj:=co0 "passed_row" "passed_row" 493 128 2 3 254 true .none .none (.ref 256) 496
def o258:Obj:=fo0 "passed_row" "passed_row" (top 43) (.str "dullglass.dulls" 477) 257
def o262:Obj:=co0 "beside" "beside" 499 130 2 3 259 true .none .none (.ref 261) 502
def o263:Obj:=fo0 "beside" "beside" (top 44) (.str "dullglass.dulls" 477) 262
def o269:Obj:=co0 "both_seen" "both_seen" 505 135 2 3 264 true (.ref 266) (.ref 267) (.ref 268) 512
def o270:Obj:=fo0 "both_seen" "both_seen" (top 45) (.str "dullglass.dulls" 477) 269
def o274:Obj:=co0 "mixed" "mixed" 515 140 3 3 271 true .none .none (.ref 273) 518
def o275:Obj:=fo0 "mixed" "mixed" (top 46) (.str "dullglass.dulls" 477) 274
def o279:Obj:=co0 "scaled" "scaled" 521 149 2 3 276 true .none .none (.ref 278) 524
def o280:Obj:=fo0 "scaled" "scaled" (top 47) (.str "dullglass.dulls" 477) 279
def o286:Obj:=co0 "check_alike_stands" "check_alike_stands" 527 151 2 3 281 true (.ref 283) (.ref 284) (.ref 285) 532
def o287:Obj:=fo0 "check_alike_stands" "check_alike_stands" (top 48) (.str "dullglass.dulls" 477) 286
def o293:Obj:=co0 "check_not_too_many" "check_not_too_many" 535 154 1 3 288 true (.ref 290) (.ref 291) (.ref 292) 539
def o294:Obj:=fo0 "check_not_too_many" "check_not_too_many" (top 49) (.str "dullglass.dulls" 477) 293
def o298:Obj:=co0 "joined" "joined" 542 157 3 3 295 true .none .none (.ref 297) 545
def o299:Obj:=fo0 "joined" "joined" (top 50) (.str "dullglass.dulls" 477) 298
def o305:Obj:=co0 "joined_row" "joined_row" 548 161 3 3 300 true (.ref 302) (.ref 303) (.ref 304) 555
def o306:Obj:=fo0 "joined_row" "joined_row" (top 51) (.str "dullglass.dulls" 477) 305
def o310:Obj:=co0 "least" "least" 560 166 1 3 307 true .none .none (.ref 309) 563
def o311:Obj:=fo0 "least" "least" (top 53) (.str "dullglass.least" 558) 310
def o317:Obj:=co0 "sorted_groups" "sorted_groups" 566 172 1 3 312 true (.ref 314) (.ref 315) (.ref 316) 575
def o318:Obj:=fo0 "sorted_groups" "sorted_groups" (top 54) (.str "dullglass.least" 558) 317
def o322:Obj:=co0 "joined_column" "joined_column" 578 180 2 3 319 true .none .none (.ref 321) 581
def o323:Obj:=fo0 "joined_column" "joined_column" (top 55) (.str "dullglass.least" 558) 322
def o327:Obj:=co0 "joined_numbers" "joined_numbers" 584 182 2 3 324 true .none .none (.ref 326) 587
def o328:Obj:=fo0 "joined_numbers" "joined_numbers" (top 56) (.str "dullglass.least" 558) 327
def o332:Obj:=co0 "joined_number" "joined_number" 590 184 2 3 329 true .none .none (.ref 331) 593
def o333:Obj:=fo0 "joined_number" "joined_number" (top 57) (.str "dullglass.least" 558) 332
def o339:Obj:=co0 "place_of" "place_of" 596 186 2 3 334 true (.ref 336) (.ref 337) (.ref 338) 603
def o340:Obj:=fo0 "place_of" "place_of" (top 58) (.str "dullglass.least" 558) 339
def o344:Obj:=co0 "parts_of" "parts_of" 606 191 2 3 341 true .none .none (.ref 343) 609
def o345:Obj:=fo0 "parts_of" "parts_of" (top 59) (.str "dullglass.least" 558) 344
def o351:Obj:=co0 "_law_pen" "_law_pen" 614 195 1 3 346 true (.ref 348) (.ref 349) (.ref 350) 619
def o352:Obj:=fo0 "_law_pen" "_law_pen" (top 61) (.str "law_dullglass_k20_whole_dulled_never_gains_m" 612) 351
def o358:Obj:=co0 "_law_mixed" "_law_mixed" 622 200 1 3 353 true (.ref 355) (.ref 356) (.ref 357) 628
def o359:Obj:=fo0 "_law_mixed" "_law_mixed" (top 62) (.str "law_dullglass_k20_whole_dulled_never_gains_m" 612) 358
def o365:Obj:=co0 "_law_next" "_law_next" 631 206 2 3 360 true (.ref 362) (.ref 363) (.ref 364) 637
def o366:Obj:=fo0 "_law_next" "_law_next" (top 63) (.str "law_dullglass_k20_whole_dulled_never_gains_m" 612) 365
def o372:Obj:=co0 "_law_divisor" "_law_divisor" 640 219 1 3 367 true (.ref 369) (.ref 370) (.ref 371) 647
def o373:Obj:=fo0 "_law_divisor" "_law_divisor" (top 64) (.str "law_dullglass_k20_whole_dulled_never_gains_m" 612) 372
def o379:Obj:=co0 "_law_share" "_law_share" 650 226 2 3 374 true (.ref 376) (.ref 377) (.ref 378) 656
def o380:Obj:=fo0 "_law_share" "_law_share" (top 65) (.str "law_dullglass_k20_whole_dulled_never_gains_m" 612) 379
def o384:Obj:=co0 "_law_reduced" "_law_reduced" 659 229 2 3 381 true .none .none (.ref 383) 662
def o385:Obj:=fo0 "_law_reduced" "_law_reduced" (top 66) (.str "law_dullglass_k20_whole_dulled_never_gains_m" 612) 384
def o389:Obj:=co0 "_law_row" "_law_row" 665 235 3 3 386 true .none .none (.ref 388) 668
def o390:Obj:=fo0 "_law_row" "_law_row" (top 67) (.str "law_dullglass_k20_whole_dulled_never_gains_m" 612) 389
def o394:Obj:=co0 "_law_split" "_law_split" 671 238 2 3 391 true .none .none (.ref 393) 674
def o395:Obj:=fo0 "_law_split" "_law_split" (top 68) (.str "law_dullglass_k20_whole_dulled_never_gains_m" 612) 394
def o399:Obj:=co0 "_law_table" "_law_table" 677 250 4 3 396 true .none .none (.ref 398) 680
def o400:Obj:=fo0 "_law_table" "_law_table" (top 69) (.str "law_dullglass_k20_whole_dulled_never_gains_m" 612) 399
def o404:Obj:=co0 "_law_payoffs" "_law_payoffs" 683 258 3 3 401 true .none .none (.ref 403) 686
def o405:Obj:=fo0 "_law_payoffs" "_law_payoffs" (top 70) (.str "law_dullglass_k20_whole_dulled_never_gains_m" 612) 404
def o409:Obj:=co0 "_law_worth" "_law_worth" 689 267 4 3 406 true .none .none (.ref 408) 692
def o410:Obj:=fo0 "_law_worth" "_law_worth" (top 71) (.str "law_dullglass_k20_whole_dulled_never_gains_m" 612) 409
def o416:Obj:=co0 "_law_gains" "_law_gains" 695 269 2 3 411 true (.ref 413) (.ref 414) (.ref 415) 700
def o417:Obj:=fo0 "_law_gains" "_law_gains" (top 72) (.str "law_dullglass_k20_whole_dulled_never_gains_m" 612) 416
def o423:Obj:=co0 "_law_above" "_law_above" 703 271 2 3 418 true (.ref 420) (.ref 421) (.ref 422) 708
def o424:Obj:=fo0 "_law_above" "_law_above" (top 73) (.str "law_dullglass_k20_whole_dulled_never_gains_m" 612) 423
def o430:Obj:=co0 "_law_mixed_gain" "_law_mixed_gain" 711 273 3 3 425 true (.ref 427) (.ref 428) (.ref 429) 718
def o431:Obj:=fo0 "_law_mixed_gain" "_law_mixed_gain" (top 74) (.str "law_dullglass_k20_whole_dulled_never_gains_m" 612) 430
def o435:Obj:=co0 "law" "law" 721 276 1 3 432 true .none .none (.ref 434) 724
def o436:Obj:=fo0 "law" "law" (top 75) (.str "law_dullglass_k20_whole_dulled_never_gains_m" 612) 435
def tA0 (P:Params):BT:=(N0 (boot_o_0 P) (N0 (boot_o_1 P) (N0 (boot_o_3 P) (N0 (boot_o_7 P) nl0 nl0) (N0 (tu0 []) nl0 nl0)) (N0 (boot_o_5 P) (N0 (boot_o_9 P) nl0 nl0) (N0 o13a nl0 nl0))) (N0 (boot_o_2 P) (N0 (boot_o_4 P) (N0 (boot_o_8 P) nl0 nl0) (N0 em0 nl0 nl0)) (N0 (boot_o_6 P) (N0 (boot_o_10 P) nl0 nl0) (N0 o14a nl0 nl0))))
def tE0 (P:Params):BT:=(N0 (boot_o_0 P) (N0 (boot_o_1 P) (N0 (o3 P) (N0 (boot_o_7 P) (N0 (tu0 [(.type "ValueError")]) (N0 (tu0 []) (N0 o63 (N0 (pr0 "makes_table" "makes_table" (top 18)) (N0 em0 nl0 nl0) (N0 (pr0 "_law_reduced" "_law_reduced" (top 66)) nl0 nl0)) (N0 (tu0 []) (N0 (tu0 []) nl0 nl0) nl0)) (N0 o95 (N0 (pr0 "over_bottom" "over_bottom" (top 24)) (N0 o287 nl0 nl0) (N0 (pr0 "_law_gains" "_law_gains" (top 72)) nl0 nl0)) (N0 o223 (N0 o351 nl0 nl0) nl0))) (N0 (tu0 []) (N0 (tu0 []) (N0 em0 (N0 (tu0 []) nl0 nl0) (N0 o399 nl0 nl0)) (N0 o207 (N0 em0 nl0 nl0) nl0)) (N0 (tu0 []) (N0 o175 (N0 (tu0 []) nl0 nl0) (N0 o431 nl0 nl0)) (N0 (pr0 "first_best_act" "first_best_act" (top 39)) (N0 (tu0 []) nl0 nl0) nl0)))) (N0 (o23 P) (N0 o39 (N0 (tu0 []) (N0 (tu0 []) (N0 o263 nl0 nl0) (N0 (tu0 []) nl0 nl0)) (N0 (tu0 []) (N0 o327 nl0 nl0) nl0)) (N0 o103 (N0 o167 (N0 (tu0 []) nl0 nl0) (N0 o423 nl0 nl0)) (N0 em0 (N0 o359 nl0 nl0) nl0))) (N0 (tu0 []) (N0 (pr0 "divisor" "divisor" (top 8)) (N0 o151 (N0 o279 nl0 nl0) (N0 em0 nl0 nl0)) (N0 (pr0 "best" "best" (top 35)) (N0 (pr0 "parts_of" "parts_of" (top 59)) nl0 nl0) nl0)) (N0 em0 (N0 (pr0 "paired" "paired" (top 28)) (N0 o311 nl0 nl0) nl0) (N0 o247 (N0 em0 nl0 nl0) nl0))))) (N0 (tu0 []) (N0 em0 (N0 (tu0 []) (N0 (tu0 []) (N0 em0 (N0 (tu0 []) nl0 nl0) (N0 em0 nl0 nl0)) (N0 o195 (N0 o323 nl0 nl0) nl0)) (N0 (tu0 [(.str "top" 300),(.str "bottom" 301),(.str "common" 302)]) (N0 em0 (N0 (tu0 []) nl0 nl0) (N0 em0 nl0 nl0)) (N0 (pr0 "is_plan" "is_plan" (top 37)) (N0 (tu0 [(.str "_law_pen_here" 625),(.str "_law_cell" 626),(.str "_law_number" 627)]) nl0 nl0) nl0))) (N0 o51 (N0 (tu0 []) (N0 (tu0 []) (N0 o275 nl0 nl0) (N0 (pr0 "_law_payoffs" "_law_payoffs" (top 70)) nl0 nl0)) (N0 o211 (N0 o339 nl0 nl0) nl0)) (N0 (pr0 "is_part" "is_part" (top 12)) (N0 o179 (N0 (tu0 []) nl0 nl0) (N0 o435 nl0 nl0)) (N0 em0 (N0 (pr0 "_law_divisor" "_law_divisor" (top 64)) nl0 nl0) nl0)))) (N0 o27 (N0 (tu0 []) (N0 o75 (N0 (pr0 "common_divisor" "common_divisor" (top 20)) (N0 (tu0 []) nl0 nl0) (N0 o395 nl0 nl0)) (N0 (tu0 []) (N0 (pr0 "joined_number" "joined_number" (top 57)) nl0 nl0) nl0)) (N0 (tu0 []) (N0 (tu0 [(.str "glass" 392)]) (N0 o299 nl0 nl0) (N0 (tu0 [(.str "_law_part" 714),(.str "_law_one" 715),(.str "_law_other" 716),(.str "_law_top" 717)]) nl0 nl0)) (N0 o235 (N0 (tu0 []) nl0 nl0) nl0))) (N0 (tu0 []) (N0 em0 (N0 o155 (N0 (tu0 [(.str "one" 530),(.str "other" 531)]) nl0 nl0) (N0 (tu0 []) nl0 nl0)) (N0 em0 (N0 em0 nl0 nl0) nl0)) (N0 o123 (N0 em0 (N0 (tu0 [(.str "glass" 574)]) nl0 nl0) nl0) (N0 (pr0 "passed_on" "passed_on" (top 42)) (N0 o379 nl0 nl0) nl0)))))) (N0 (boot_o_5 P) (N0 (boot_o_9 P) (N0 (o17 P) (N0 o33 (N0 o65 (N0 o129 (N0 o257 nl0 nl0) (N0 o385 nl0 nl0)) (N0 (pr0 "blind" "blind" (top 30)) (N0 (pr0 "joined_column" "joined_column" (top 55)) nl0 nl0) nl0)) (N0 (tu0 []) (N0 o161 (N0 em0 nl0 nl0) (N0 o417 nl0 nl0)) (N0 (tu0 []) (N0 (tu0 []) nl0 nl0) nl0))) (N0 o49 (N0 o81 (N0 o145 (N0 (pr0 "mixed" "mixed" (top 46)) nl0 nl0) (N0 (tu0 []) nl0 nl0)) (N0 em0 (N0 (tu0 []) nl0 nl0) nl0)) (N0 (tu0 [(.str "thing" 316)]) (N0 em0 (N0 o305 nl0 nl0) (N0 em0 nl0 nl0)) (N0 o241 (N0 (tu0 [(.str "_law_numbers" 643),(.str "_law_found" 644),(.str "_law_number" 645),(.str "_law_other" 646)]) nl0 nl0) nl0)))) (N0 o25 (N0 o41 (N0 o73 (N0 (tu0 [(.str "rows" 351),(.str "common" 352),(.str "row" 353),(.str "number" 354)]) (N0 em0 nl0 nl0) (N0 (pr0 "_law_split" "_law_split" (top 68)) nl0 nl0)) (N0 o201 (N0 (tu0 []) nl0 nl0) nl0)) (N0 em0 (N0 (tu0 []) (N0 (pr0 "joined" "joined" (top 50)) nl0 nl0) (N0 (tu0 []) nl0 nl0)) (N0 (tu0 []) (N0 em0 nl0 nl0) nl0))) (N0 o57 (N0 o89 (N0 em0 (N0 (tu0 []) nl0 nl0) (N0 o409 nl0 nl0)) (N0 o217 (N0 o345 nl0 nl0) nl0)) (N0 (tu0 []) (N0 o185 (N0 em0 nl0 nl0) nl0) (N0 (tu0 []) (N0 (tu0 []) nl0 nl0) nl0))))) (N0 o13a (N0 o21 (N0 o37 (N0 o69 (N0 o133 (N0 (pr0 "beside" "beside" (top 44)) nl0 nl0) (N0 o389 nl0 nl0)) (N0 em0 (N0 em0 nl0 nl0) nl0)) (N0 (pr0 "reduced" "reduced" (top 10)) (N0 (tu0 []) (N0 o293 nl0 nl0) (N0 (tu0 []) nl0 nl0)) (N0 o229 (N0 (pr0 "_law_mixed" "_law_mixed" (top 62)) nl0 nl0) nl0))) (N0 o53 (N0 (tu0 [(.str "one" 283),(.str "other" 284),(.str "rest" 285)]) (N0 (pr0 "divided" "divided" (top 22)) (N0 em0 nl0 nl0) (N0 o405 nl0 nl0)) (N0 (tu0 []) (N0 (tu0 []) nl0 nl0) nl0)) (N0 o117 (N0 (tu0 []) (N0 (pr0 "least" "least" (top 53)) nl0 nl0) nl0) (N0 (tu0 []) (N0 o373 nl0 nl0) nl0)))) (N0 o29 (N0 o45 (N0 em0 (N0 o141 (N0 o269 nl0 nl0) (N0 em0 nl0 nl0)) (N0 (pr0 "one_sign" "one_sign" (top 32)) (N0 o333 nl0 nl0) nl0)) (N0 o109 (N0 (pr0 "signs" "signs" (top 26)) (N0 em0 nl0 nl0) (N0 (pr0 "_law_mixed_gain" "_law_mixed_gain" (top 74)) nl0 nl0)) (N0 (tu0 []) (N0 o365 nl0 nl0) nl0))) (N0 o61 (N0 (tu0 []) (N0 (tu0 []) (N0 (pr0 "check_alike_stands" "check_alike_stands" (top 48)) nl0 nl0) (N0 (tu0 [(.str "_law_glass" 698),(.str "_law_payoffs_here" 699)]) nl0 nl0)) (N0 (tu0 []) (N0 (tu0 []) nl0 nl0) nl0)) (N0 (tu0 []) (N0 o189 (N0 o317 nl0 nl0) nl0) (N0 o253 (N0 (tu0 []) nl0 nl0) nl0))))))) (N0 (boot_o_2 P) (N0 (boot_o_4 P) (N0 (boot_o_8 P) (N0 o16 (N0 em0 (N0 (tu0 [(.ref 24)]) (N0 o128 (N0 (pr0 "passed_row" "passed_row" (top 43)) nl0 nl0) (N0 o384 nl0 nl0)) (N0 em0 (N0 em0 nl0 nl0) nl0)) (N0 o96 (N0 o160 (N0 (tu0 []) nl0 nl0) (N0 o416 nl0 nl0)) (N0 o224 (N0 o352 nl0 nl0) nl0))) (N0 (o48 P) (N0 (pr0 "is_whole" "is_whole" (top 7)) (N0 (pr0 "lowest_table" "lowest_table" (top 21)) (N0 em0 nl0 nl0) (N0 o400 nl0 nl0)) (N0 (tu0 []) (N0 (tu0 [(.str "sign" 599),(.str "groups" 600),(.str "place" 601),(.str "group" 602)]) nl0 nl0) nl0)) (N0 em0 (N0 (tu0 []) (N0 (pr0 "joined_row" "joined_row" (top 51)) nl0 nl0) (N0 (tu0 []) nl0 nl0)) (N0 o240 (N0 em0 nl0 nl0) nl0)))) (N0 o24 (N0 (tu0 [(.ref 24)]) (N0 (o72 P) (N0 em0 (N0 (tu0 []) nl0 nl0) (N0 em0 nl0 nl0)) (N0 (pr0 "check_stands" "check_stands" (top 31)) (N0 o328 nl0 nl0) nl0)) (N0 (tu0 []) (N0 o168 (N0 em0 nl0 nl0) (N0 o424 nl0 nl0)) (N0 (tu0 [(.str "glass" 464),(.str "payoffs" 465),(.str "sign" 466),(.str "act" 467)]) (N0 (tu0 []) nl0 nl0) nl0))) (N0 em0 (N0 o88 (N0 (tu0 []) (N0 o280 nl0 nl0) (N0 (pr0 "_law_worth" "_law_worth" (top 71)) nl0 nl0)) (N0 o216 (N0 o344 nl0 nl0) nl0)) (N0 (tu0 [(.str "bottom" 331),(.str "rows" 332)]) (N0 o184 (N0 (tu0 []) nl0 nl0) nl0) (N0 o248 (N0 (tu0 [(.str "_law_top" 653),(.str "_law_bottom" 654),(.str "_law_both" 655)]) nl0 nl0) nl0))))) (N0 o12 (N0 o20 (N0 (o36 P) (N0 em0 (N0 (pr0 "makes_row" "makes_row" (top 19)) (N0 em0 nl0 nl0) (N0 (pr0 "_law_row" "_law_row" (top 67)) nl0 nl0)) (N0 (tu0 []) (N0 (tu0 []) nl0 nl0) nl0)) (N0 (tu0 []) (N0 (tu0 [(.str "glass" 385)]) (N0 (pr0 "check_not_too_many" "check_not_too_many" (top 49)) nl0 nl0) (N0 (tu0 [(.str "_law_one" 706),(.str "_law_other" 707)]) nl0 nl0)) (N0 o228 (N0 (tu0 []) nl0 nl0) nl0))) (N0 (tu0 [(.ref 24)]) (N0 em0 (N0 em0 (N0 (tu0 []) nl0 nl0) (N0 o404 nl0 nl0)) (N0 o212 (N0 o340 nl0 nl0) nl0)) (N0 o116 (N0 o180 (N0 em0 nl0 nl0) (N0 o436 nl0 nl0)) (N0 (tu0 [(.str "glass" 482),(.str "dulling" 483)]) (N0 o372 nl0 nl0) nl0)))) (N0 (tu0 [(.ref 24)]) (N0 em0 (N0 (tu0 []) (N0 o140 (N0 (pr0 "both_seen" "both_seen" (top 45)) nl0 nl0) (N0 (tu0 []) nl0 nl0)) (N0 em0 (N0 o332 nl0 nl0) nl0)) (N0 (pr0 "is_share" "is_share" (top 11)) (N0 (tu0 []) (N0 (tu0 []) nl0 nl0) (N0 (tu0 []) nl0 nl0)) (N0 o236 (N0 (pr0 "_law_next" "_law_next" (top 63)) nl0 nl0) nl0))) (N0 (o60 P) (N0 (tu0 [(.str "top" 292),(.str "bottom" 293)]) (N0 o156 (N0 (tu0 []) nl0 nl0) (N0 em0 nl0 nl0)) (N0 (tu0 [(.str "glass" 450),(.str "payoffs" 451)]) (N0 (tu0 [(.str "_law_script" 617),(.str "_law_head" 618)]) nl0 nl0) nl0)) (N0 o124 (N0 (pr0 "clear" "clear" (top 29)) (N0 (pr0 "sorted_groups" "sorted_groups" (top 54)) nl0 nl0) nl0) (N0 o252 (N0 o380 nl0 nl0) nl0)))))) (N0 (boot_o_6 P) (N0 (boot_o_10 P) (N0 (tu0 []) (N0 o34 (N0 (o66 P) (N0 (tu0 []) (N0 o258 nl0 nl0) (N0 (tu0 []) nl0 nl0)) (N0 o194 (N0 o322 nl0 nl0) nl0)) (N0 em0 (N0 (tu0 []) (N0 (tu0 [(.str "many" 538)]) nl0 nl0) (N0 (tu0 []) nl0 nl0)) (N0 em0 (N0 em0 nl0 nl0) nl0))) (N0 o50 (N0 o82 (N0 o146 (N0 o274 nl0 nl0) (N0 em0 nl0 nl0)) (N0 (pr0 "gain" "gain" (top 34)) (N0 (pr0 "place_of" "place_of" (top 58)) nl0 nl0) nl0)) (N0 (tu0 []) (N0 (pr0 "column" "column" (top 27)) (N0 o306 nl0 nl0) (N0 (pr0 "law" "law" (top 75)) nl0 nl0)) (N0 (tu0 []) (N0 (tu0 []) nl0 nl0) nl0)))) (N0 o26 (N0 (o42 P) (N0 o74 (N0 (tu0 []) (N0 (tu0 [(.str "row" 508),(.str "beyond" 509),(.str "both" 510),(.str "number" 511)]) nl0 nl0) (N0 o394 nl0 nl0)) (N0 o202 (N0 em0 nl0 nl0) nl0)) (N0 (tu0 [(.str "thing" 309)]) (N0 em0 (N0 o298 nl0 nl0) (N0 em0 nl0 nl0)) (N0 (pr0 "worth" "worth" (top 38)) (N0 (tu0 [(.str "_law_pen_here" 634),(.str "_law_many" 635),(.str "_law_found" 636)]) nl0 nl0) nl0))) (N0 o58 (N0 (tu0 []) (N0 (pr0 "table_of_shares" "table_of_shares" (top 23)) (N0 em0 nl0 nl0) (N0 o410 nl0 nl0)) (N0 (tu0 []) (N0 (tu0 []) nl0 nl0) nl0)) (N0 (pr0 "glass_of" "glass_of" (top 17)) (N0 (tu0 []) (N0 (tu0 [(.str "glass" 569),(.str "groups" 570),(.str "sign" 571),(.str "numbers" 572),(.str "alone" 573)]) nl0 nl0) nl0) (N0 em0 (N0 (pr0 "_law_share" "_law_share" (top 65)) nl0 nl0) nl0))))) (N0 o14a (N0 (tu0 []) (N0 o38 (N0 o70 (N0 o134 (N0 o262 nl0 nl0) (N0 o390 nl0 nl0)) (N0 (tu0 [(.str "many" 423)]) (N0 (pr0 "joined_numbers" "joined_numbers" (top 56)) nl0 nl0) nl0)) (N0 o102 (N0 (pr0 "stands" "stands" (top 25)) (N0 o294 nl0 nl0) (N0 (pr0 "_law_above" "_law_above" (top 73)) nl0 nl0)) (N0 (tu0 []) (N0 o358 nl0 nl0) nl0))) (N0 (o54 P) (N0 (tu0 []) (N0 o150 (N0 (pr0 "scaled" "scaled" (top 47)) nl0 nl0) (N0 (tu0 []) nl0 nl0)) (N0 em0 (N0 em0 nl0 nl0) nl0)) (N0 (tu0 []) (N0 em0 (N0 o310 nl0 nl0) nl0) (N0 (pr0 "dulled" "dulled" (top 41)) (N0 (tu0 []) nl0 nl0) nl0)))) (N0 (o30 P) (N0 o46 (N0 (tu0 [(.str "thing" 276)]) (N0 (tu0 []) (N0 o270 nl0 nl0) (N0 (pr0 "_law_table" "_law_table" (top 69)) nl0 nl0)) (N0 o206 (N0 (tu0 []) nl0 nl0) nl0)) (N0 o110 (N0 o174 (N0 (tu0 [(.str "row" 551),(.str "i" 552),(.str "j" 553),(.str "left" 554)]) nl0 nl0) (N0 o430 nl0 nl0)) (N0 em0 (N0 o366 nl0 nl0) nl0))) (N0 o62 (N0 (pr0 "share" "share" (top 9)) (N0 em0 (N0 o286 nl0 nl0) (N0 (tu0 []) nl0 nl0)) (N0 (pr0 "check_payoffs" "check_payoffs" (top 36)) (N0 (pr0 "_law_pen" "_law_pen" (top 61)) nl0 nl0) nl0)) (N0 em0 (N0 o190 (N0 o318 nl0 nl0) nl0) (N0 (tu0 []) (N0 em0 nl0 nl0) nl0))))))))
lay_quick My.cE0 My.env0 My.ls0
theorem zarj (w:World):(fun os=>topGo treeTable PySem.Challenge.pw_dullglass_k20_whole_dulled_never_gains_m w 11 (some (.ref 6)) 12 (Shared.mk (boot_heap w.params) (Array.mk []) boot_drawn boot_toks os) (topStub PySem.Challenge.pw_dullglass_k20_whole_dulled_never_gains_m))=fun os=>some ((SharedT.mk (tA0 w.params) 15 lf0 (Array.mk []) boot_drawn 187 os).abs,Thread.mk (denote treeTable cE0) cE0 ⟨0,0,0,0⟩ [topFrame ⟨0,0,0,0⟩]):=by
 rewrite [PySem.W.Fast.te15667345088766844465,PySem.W.Fast.te14364793385576792824,PySem.W.Fast.te663630346614948025,PySem.W.Fast.te11892475500146522536,PySem.W.Fast.te2665708160071446767]
 kernel_rfl
theorem zail (w:World):(fun os=>segRun treeTable PySem.Challenge.pw_dullglass_k20_whole_dulled_never_gains_m w 11 (some (.ref 6)) 1 1 (SharedT.mk (tA0 w.params) 15 lf0 (Array.mk []) boot_drawn 187 os).abs (blockOf (behindTheImports PySem.Challenge.pw_dullglass_k20_whole_dulled_never_gains_m) env0 cE0 ⟨0,0,0,0⟩ [topFrame ⟨0,0,0,0⟩]))=fun os=>some (.next,(SharedT.mk (tA0 w.params) 15 lf0 (Array.mk []) boot_drawn 187 os).abs,cE0,⟨0,0,0,0⟩):=by
 rewrite [PySem.W.Fast.te14374325043358763698,PySem.W.Fast.te14364793385576792824,PySem.W.Fast.te663630346614948025,PySem.W.Fast.te2665708160071446767,PySem.W.Fast.te13849342267361746138]
 kernel_rfl
theorem zaqa (w:World):(fun os=>segRunT treeTable PySem.Challenge.pw_dullglass_k20_whole_dulled_never_gains_m w 11 (some (.ref 6)) 1 2843 (SharedT.mk (tA0 w.params) 15 lf0 (Array.mk []) boot_drawn 187 os) (piecesOf (behindTheImports PySem.Challenge.pw_dullglass_k20_whole_dulled_never_gains_m) env0 cE0 ⟨0,0,0,0⟩ [topFrame ⟨0,0,0,0⟩]))=fun os=>some (.next,(SharedT.mk (tE0 w.params) 437 lf0 (Array.mk []) boot_drawn 727 os),cE0,⟨276,0,302,73⟩):=by
 rewrite [PySem.W.Fast.te10110043849684766642,PySem.W.Fast.te14364793385576792824,PySem.W.Fast.te663630346614948025,PySem.W.Fast.te2665708160071446767,PySem.W.Fast.te13849342267361746138]
 kernel_rfl
theorem zaqb (w:World):(fun os=>topRun treeTable PySem.Challenge.pw_dullglass_k20_whole_dulled_never_gains_m w 11 (some (.ref 6)) 2 (SharedT.mk (tE0 w.params) 437 lf0 (Array.mk []) boot_drawn 727 os).abs ⟨doneF .next,cE0,⟨276,0,302,73⟩,[topFrame ⟨0,0,0,0⟩]⟩)=fun os=>some (SharedT.mk (tE0 w.params) 437 lf0 (Array.mk []) boot_drawn 727 os).abs:=by
 rewrite [PySem.W.Fast.te14082659384304107361,PySem.W.Fast.te14364793385576792824,PySem.W.Fast.te663630346614948025,PySem.W.Fast.te2665708160071446767]
 kernel_rfl
theorem zapk (w:World) (os:OsState):topRun treeTable PySem.Challenge.pw_dullglass_k20_whole_dulled_never_gains_m w 11 (some (.ref 6)) (12+(1+(2843+2))) (Shared.mk (boot_heap w.params) (Array.mk []) boot_drawn boot_toks os) (topStub PySem.Challenge.pw_dullglass_k20_whole_dulled_never_gains_m)=some (SharedT.mk (tE0 w.params) 437 lf0 (Array.mk []) boot_drawn 727 os).abs :=
 go_top (congrFun (zarj w) os) (piece_block (congrFun (zail w) os) (by
  have q:=piece_app (rest:=[]) (segRun_of (congrFun (zaqa w) os)) (piece_nil (congrFun (zaqb w) os))
  rwa [List.append_nil] at q))
theorem zamu:opening PySem.Challenge.pw_dullglass_k20_whole_dulled_never_gains_m=plainProg PySem.Challenge.pw_dullglass_k20_whole_dulled_never_gains_m.main.scope.names:=by kernel_rfl
theorem zakr (s:Shared):fenceModules? PySem.Challenge.pw_dullglass_k20_whole_dulled_never_gains_m s=some s:=by kernel_rfl
theorem zami (w:World):((boot_heap w.params).isNs mainGlobals&&(Array.mk []:Array GenState).size==0,(boot_heap w.params).objs.size,(boot_heap w.params).nsMap mainGlobals "__annotations__")=(true,11,(some (.ref 6))):=by kernel_rfl
theorem zard (w:World):(fun os=>(staticsOk (importedModules PySem.Challenge.pw_dullglass_k20_whole_dulled_never_gains_m.main.body) (boot_heap w.params) (absHeap (tE0 w.params) 437 lf0)&&namesBound PySem.Challenge.pw_dullglass_k20_whole_dulled_never_gains_m (absHeap (tE0 w.params) 437 lf0)&&gensDone (Shared.mk (absHeap (tE0 w.params) 437 lf0) (Array.mk []) boot_drawn 727 os)&&laidKept (boot_heap w.params) (absHeap (tE0 w.params) 437 lf0)))=fun _=>true:=by
 rewrite [PySem.W.Fast.te5923862056798008813,PySem.W.Fast.te663630346614948025]
 kernel_rfl
theorem zark (w:World):(fun os=>openSeen (view PySem.Challenge.pw_dullglass_k20_whole_dulled_never_gains_m [75]) ls0 (importedModules PySem.Challenge.pw_dullglass_k20_whole_dulled_never_gains_m.main.body) (fun _=>true) true (Shared.mk (absHeap (tE0 w.params) 437 lf0) (Array.mk []) boot_drawn 727 os))=fun _=>openGood (view PySem.Challenge.pw_dullglass_k20_whole_dulled_never_gains_m [75]) ls0:=by
 rewrite [PySem.W.Fast.te4187177175401517315,PySem.W.Fast.te5923862056798008813,PySem.W.Fast.te663630346614948025,PySem.W.Fast.te4294247251607483543]
 kernel_rfl
def K0 (P:Params):Frag:=(nat_lit 2,(boot_o_2 P))::(nat_lit 3,(o3 P))::(nat_lit 23,(o23 P))::(nat_lit 24,o24)::(nat_lit 25,o25)::(nat_lit 36,(o36 P))::(nat_lit 37,o37)::(nat_lit 48,(o48 P))::(nat_lit 49,o49)::(nat_lit 60,(o60 P))::(nat_lit 61,o61)::(nat_lit 72,(o72 P))::(nat_lit 73,o73)::(nat_lit 81,o81)::(nat_lit 82,o82)::(nat_lit 88,o88)::(nat_lit 89,o89)::(nat_lit 95,o95)::(nat_lit 96,o96)::(nat_lit 102,o102)::(nat_lit 103,o103)::(nat_lit 109,o109)::(nat_lit 110,o110)::(nat_lit 116,o116)::(nat_lit 117,o117)::(nat_lit 123,o123)::(nat_lit 124,o124)::(nat_lit 128,o128)::(nat_lit 129,o129)::(nat_lit 133,o133)::(nat_lit 134,o134)::(nat_lit 140,o140)::(nat_lit 141,o141)::(nat_lit 145,o145)::(nat_lit 146,o146)::(nat_lit 150,o150)::(nat_lit 151,o151)::(nat_lit 155,o155)::(nat_lit 156,o156)::(nat_lit 160,o160)::(nat_lit 161,o161)::(nat_lit 167,o167)::(nat_lit 168,o168)::(nat_lit 174,o174)::(nat_lit 175,o175)::(nat_lit 179,o179)::(nat_lit 180,o180)::(nat_lit 184,o184)::(nat_lit 185,o185)::(nat_lit 189,o189)::(nat_lit 190,o190)::(nat_lit 194,o194)::(nat_lit 195,o195)::(nat_lit 201,o201)::(nat_lit 202,o202)::(nat_lit 206,o206)::(nat_lit 207,o207)::(nat_lit 211,o211)::(nat_lit 212,o212)::(nat_lit 216,o216)::(nat_lit 217,o217)::(nat_lit 223,o223)::(nat_lit 224,o224)::(nat_lit 228,o228)::(nat_lit 229,o229)::(nat_lit 235,o235)::(nat_lit 236,o236)::(nat_lit 240,o240)::(nat_lit 241,o241)::(nat_lit 247,o247)::(nat_lit 248,o248)::(nat_lit 252,o252)::(nat_lit 253,o253)::(nat_lit 257,o257)::(nat_lit 258,o258)::(nat_lit 262,o262)::(nat_lit 263,o263)::(nat_lit 269,o269)::(nat_lit 270,o270)::(nat_lit 274,o274)::(nat_lit 275,o275)::(nat_lit 279,o279)::(nat_lit 280,o280)::(nat_lit 286,o286)::(nat_lit 287,o287)::(nat_lit 293,o293)::(nat_lit 294,o294)::(nat_lit 298,o298)::(nat_lit 299,o299)::(nat_lit 305,o305)::(nat_lit 306,o306)::(nat_lit 310,o310)::(nat_lit 311,o311)::(nat_lit 317,o317)::(nat_lit 318,o318)::(nat_lit 322,o322)::(nat_lit 323,o323)::(nat_lit 327,o327)::(nat_lit 328,o328)::(nat_lit 332,o332)::(nat_lit 333,o333)::(nat_lit 339,o339)::(nat_lit 340,o340)::(nat_lit 344,o344)::(nat_lit 345,o345)::(nat_lit 351,o351)::(nat_lit 352,o352)::(nat_lit 358,o358)::(nat_lit 359,o359)::(nat_lit 365,o365)::(nat_lit 366,o366)::(nat_lit 372,o372)::(nat_lit 373,o373)::(nat_lit 379,o379)::(nat_lit 380,o380)::(nat_lit 384,o384)::(nat_lit 385,o385)::(nat_lit 389,o389)::(nat_lit 390,o390)::(nat_lit 394,o394)::(nat_lit 395,o395)::(nat_lit 399,o399)::(nat_lit 400,o400)::(nat_lit 404,o404)::(nat_lit 405,o405)::(nat_lit 416,o416)::(nat_lit 417,o417)::(nat_lit 423,o423)::(nat_lit 424,o424)::(nat_lit 430,o430)::(nat_lit 431,o431)::(nat_lit 435,o435)::(nat_lit 436,o436)::(nat_lit 4,(boot_o_4 P))::[]
def K1 (P:Params):Frag:=(nat_lit 313,em0)::K0 P
def as0:List Addr:=[313,2,3,23,24,25,36,37,48,49,60,61,72,73,81,82,88,89,95,96,102,103,109,110,116,117,123,124,128,129,133,134,140,141,145,146,150,151,155,156,160,161,167,168,174,175,179,180,184,185,189,190,194,195,201,202,206,207,211,212,216,217,223,224,228,229,235,236,240,241,247,248,252,253,257,258,262,263,269,270,274,275,279,280,286,287,293,294,298,299,305,306,310,311,317,318,322,323,327,328,332,333,339,340,344,345,351,352,358,359,365,366,372,373,379,380,384,385,389,390,394,395,399,400,404,405,416,417,423,424,430,431,435,436,4]
theorem zaks (w:World):(fun (os:OsState)=>as0.map (absHeap (tE0 w.params) 437 lf0).get?)=fun _=>(K1 w.params).map fun p=>some p.2:=by kernel_rfl
theorem left0:LeftO PySem.Challenge.pw_dullglass_k20_whole_dulled_never_gains_m (view PySem.Challenge.pw_dullglass_k20_whole_dulled_never_gains_m [75]) ls0 (fun _=>true) (fun s=>as0.map s.heap.get?) (fun w=>(K1 w.params).map fun p=>some p.2) 100000 :=
 LeftO.of_pieces (H₀:=boot_heap) (H₁:=fun P=>absHeap (tE0 P) 437 lf0) (gs₁:=Array.mk []) (d₁:=boot_drawn) (k₁:=727) (boot_open zamu rfl zakr) zami zapk rfl fun w=>by
  funext os
  exact congr (congrArg Prod.mk (congrFun (zard w) os)) (congr (congrArg Prod.mk (congrFun (zark w) os)) (congrFun (zaks w) os))
end
end My
open PySem PySem.W PyProof.Rows
set_option maxRecDepth 100000 in
set_option maxHeartbeats 0 in
theorem PySem.Challenge.cw_dullglass_k20_whole_dulled_never_gains_m_holds : PySem.Challenge.rw_dullglass_k20_whole_dulled_never_gains_m.Holds := by
 w_on;o_law
 refine holds_open (q:=view PySem.Challenge.pw_dullglass_k20_whole_dulled_never_gains_m [75]) (XP:=fun _ _=>True) (YP:=InK My.K1) My.left0 (InK.of fun _=>by kernel_rfl) InK.keeps (fun _ _=>True.intro) (fun _ _ _ _ _=>True.intro) (by rfl) (by rfl) (by rfl) (fun s _=>recFacts_nil rfl) (by rfl) (by assumption) (by decide +kernel) ⟨rfl,rfl,rfl,rfl,rfl,by decide +kernel⟩ ?hw ?hc
 case hw=>w_witness2
 k_fill
 refine My.walk (l:=PySem.Challenge.rw_dullglass_k20_whole_dulled_never_gains_m) (K:=My.K0) (tb:=313) (c0:=317) rfl rfl (fun w h Y=>L2.tab_in (by rfl) (by rfl) Y) (fun _=>rfl) ?F
 case F =>
  k_fill
  intro w mg fa h KX G hmg
  refine' My.all_mk (c_tb:=313) KX G hmg ?b_bm ?a0 ?l0 ?a1 ?l1 ?a2 ?l2 ?a3 ?l3 ?a4 ?l4 ?a5 ?l5 ?a6 ?l6 ?a7 ?l7 ?a8 ?l8 ?a9 ?l9 ?a10 ?l10 ?a11 ?l11 ?a12 ?l12 ?a13 ?l13 ?a14 ?l14 ?a15 ?l15 ?a16 ?l16 ?a17 ?l17 ?a18 ?l18 ?a19 ?l19 ?a20 ?l20 ?a21 ?l21 ?a22 ?l22 ?a23 ?l23 ?a24 ?l24 ?a25 ?l25 ?a26 ?l26 ?a27 ?l27 ?a28 ?l28 ?a29 ?l29 ?a30 ?l30 ?a31 ?l31 ?a32 ?l32 ?a33 ?l33 ?c33 ?k33 ?a34 ?l34 ?a35 ?l35 ?a36 ?l36 ?a37 ?l37 ?a38 ?l38 ?a39 ?l39 ?a40 ?l40 ?a41 ?l41 ?a42 ?l42 ?a43 ?l43 ?a44 ?l44 ?a45 ?l45 ?a46 ?l46 ?a47 ?l47 ?a48 ?l48 ?a49 ?l49 ?a50 ?l50 ?a51 ?l51 ?a52 ?l52 ?a53 ?l53 ?a54 ?l54 ?a55 ?l55 ?a56 ?l56 ?a57 ?l57 ?a58 ?l58 ?a59 ?l59 ?c59 ?k59 ?z_abs ?z_all ?z_any ?z_bool ?z_enumerate ?z_int ?z_isinstance ?z_len ?z_list ?z_max ?z_range ?z_sorted ?z_sum ?z_tuple ?z_zip ?y_FEWEST_STANDS ?y_MOST_SIGNS ?y_MOST_STANDS ?f_tab_h ?f_bm_h
  (case b_bm=>k_is)
  (case a0=>k_is)
  (case l0=>refine' My.LK.mk ?l ?c ?k; (case l=>k_is); (case c=>k_is); (case k=>k_is))
  (case a1=>k_is)
  (case l1=>refine' My.LK.mk ?l ?c ?k; (case l=>k_is); (case c=>k_is); (case k=>k_is))
  (case a2=>k_is)
  (case l2=>refine' My.LK.mk ?l ?c ?k; (case l=>k_is); (case c=>k_is); (case k=>k_is))
  (case a3=>k_is)
  (case l3=>refine' My.LK.mk ?l ?c ?k; (case l=>k_is); (case c=>k_is); (case k=>k_is))
  (case a4=>k_is)
  (case l4=>refine' My.LK.mk ?l ?c ?k; (case l=>k_is); (case c=>k_is); (case k=>k_is))
  (case a5=>k_is)
  (case l5=>refine' My.LK.mk ?l ?c ?k; (case l=>k_is); (case c=>k_is); (case k=>k_is))
  (case a6=>k_is)
  (case l6=>refine' My.LK.mk ?l ?c ?k; (case l=>k_is); (case c=>k_is); (case k=>k_is))
  (case a7=>k_is)
  (case l7=>refine' My.LK.mk ?l ?c ?k; (case l=>k_is); (case c=>k_is); (case k=>k_is))
  (case a8=>k_is)
  (case l8=>refine' My.LK.mk ?l ?c ?k; (case l=>k_is); (case c=>k_is); (case k=>k_is))
  (case a9=>k_is)
  (case l9=>refine' My.LK.mk ?l ?c ?k; (case l=>k_is); (case c=>k_is); (case k=>k_is))
  (case a10=>k_is)
  (case l10=>refine' My.LK.mk ?l ?c ?k; (case l=>k_is); (case c=>k_is); (case k=>k_is))
  (case a11=>k_is)
  (case l11=>refine' My.LK.mk ?l ?c ?k; (case l=>k_is); (case c=>k_is); (case k=>k_is))
  (case a12=>k_is)
  (case l12=>refine' My.LK.mk ?l ?c ?k; (case l=>k_is); (case c=>k_is); (case k=>k_is))
  (case a13=>k_is)
  (case l13=>refine' My.LK.mk ?l ?c ?k; (case l=>k_is); (case c=>k_is); (case k=>k_is))
  (case a14=>k_is)
  (case l14=>refine' My.LK.mk ?l ?c ?k; (case l=>k_is); (case c=>k_is); (case k=>k_is))
  (case a15=>k_is)
  (case l15=>refine' My.LK.mk ?l ?c ?k; (case l=>k_is); (case c=>k_is); (case k=>k_is))
  (case a16=>k_is)
  (case l16=>refine' My.LK.mk ?l ?c ?k; (case l=>k_is); (case c=>k_is); (case k=>k_is))
  (case a17=>k_is)
  (case l17=>refine' My.LK.mk ?l ?c ?k; (case l=>k_is); (case c=>k_is); (case k=>k_is))
  (case a18=>k_is)
  (case l18=>refine' My.LK.mk ?l ?c ?k; (case l=>k_is); (case c=>k_is); (case k=>k_is))
  (case a19=>k_is)
  (case l19=>refine' My.LK.mk ?l ?c ?k; (case l=>k_is); (case c=>k_is); (case k=>k_is))
  (case a20=>k_is)
  (case l20=>refine' My.LK.mk ?l ?c ?k; (case l=>k_is); (case c=>k_is); (case k=>k_is))
  (case a21=>k_is)
  (case l21=>refine' My.LK.mk ?l ?c ?k; (case l=>k_is); (case c=>k_is); (case k=>k_is))
  (case a22=>k_is)
  (case l22=>refine' My.LK.mk ?l ?c ?k; (case l=>k_is); (case c=>k_is); (case k=>k_is))
  (case a23=>k_is)
  (case l23=>refine' My.LK.mk ?l ?c ?k; (case l=>k_is); (case c=>k_is); (case k=>k_is))
  (case a24=>k_is)
  (case l24=>refine' My.LK.mk ?l ?c ?k; (case l=>k_is); (case c=>k_is); (case k=>k_is))
  (case a25=>k_is)
  (case l25=>refine' My.LK.mk ?l ?c ?k; (case l=>k_is); (case c=>k_is); (case k=>k_is))
  (case a26=>k_is)
  (case l26=>refine' My.LK.mk ?l ?c ?k; (case l=>k_is); (case c=>k_is); (case k=>k_is))
  (case a27=>k_is)
  (case l27=>refine' My.LK.mk ?l ?c ?k; (case l=>k_is); (case c=>k_is); (case k=>k_is))
  (case a28=>k_is)
  (case l28=>refine' My.LK.mk ?l ?c ?k; (case l=>k_is); (case c=>k_is); (case k=>k_is))
  (case a29=>k_is)
  (case l29=>refine' My.LK.mk ?l ?c ?k; (case l=>k_is); (case c=>k_is); (case k=>k_is))
  (case a30=>k_is)
  (case l30=>refine' My.LK.mk ?l ?c ?k; (case l=>k_is); (case c=>k_is); (case k=>k_is))
  (case a31=>k_is)
  (case l31=>refine' My.LK.mk ?l ?c ?k; (case l=>k_is); (case c=>k_is); (case k=>k_is))
  (case a32=>k_is)
  (case l32=>refine' My.LK.mk ?l ?c ?k; (case l=>k_is); (case c=>k_is); (case k=>k_is))
  (case a33=>k_is)
  (case l33=>k_is)
  (case c33=>k_is)
  (case k33=>k_is)
  (case a34=>k_is)
  (case l34=>refine' My.LK.mk ?l ?c ?k; (case l=>k_is); (case c=>k_is); (case k=>k_is))
  (case a35=>k_is)
  (case l35=>refine' My.LK.mk ?l ?c ?k; (case l=>k_is); (case c=>k_is); (case k=>k_is))
  (case a36=>k_is)
  (case l36=>refine' My.LK.mk ?l ?c ?k; (case l=>k_is); (case c=>k_is); (case k=>k_is))
  (case a37=>k_is)
  (case l37=>refine' My.LK.mk ?l ?c ?k; (case l=>k_is); (case c=>k_is); (case k=>k_is))
  (case a38=>k_is)
  (case l38=>refine' My.LK.mk ?l ?c ?k; (case l=>k_is); (case c=>k_is); (case k=>k_is))
  (case a39=>k_is)
  (case l39=>refine' My.LK.mk ?l ?c ?k; (case l=>k_is); (case c=>k_is); (case k=>k_is))
  (case a40=>k_is)
  (case l40=>refine' My.LK.mk ?l ?c ?k; (case l=>k_is); (case c=>k_is); (case k=>k_is))
  (case a41=>k_is)
  (case l41=>refine' My.LK.mk ?l ?c ?k; (case l=>k_is); (case c=>k_is); (case k=>k_is))
  (case a42=>k_is)
  (case l42=>refine' My.LK.mk ?l ?c ?k; (case l=>k_is); (case c=>k_is); (case k=>k_is))
  (case a43=>k_is)
  (case l43=>refine' My.LK.mk ?l ?c ?k; (case l=>k_is); (case c=>k_is); (case k=>k_is))
  (case a44=>k_is)
  (case l44=>refine' My.LK.mk ?l ?c ?k; (case l=>k_is); (case c=>k_is); (case k=>k_is))
  (case a45=>k_is)
  (case l45=>refine' My.LK.mk ?l ?c ?k; (case l=>k_is); (case c=>k_is); (case k=>k_is))
  (case a46=>k_is)
  (case l46=>refine' My.LK.mk ?l ?c ?k; (case l=>k_is); (case c=>k_is); (case k=>k_is))
  (case a47=>k_is)
  (case l47=>refine' My.LK.mk ?l ?c ?k; (case l=>k_is); (case c=>k_is); (case k=>k_is))
  (case a48=>k_is)
  (case l48=>refine' My.LK.mk ?l ?c ?k; (case l=>k_is); (case c=>k_is); (case k=>k_is))
  (case a49=>k_is)
  (case l49=>refine' My.LK.mk ?l ?c ?k; (case l=>k_is); (case c=>k_is); (case k=>k_is))
  (case a50=>k_is)
  (case l50=>refine' My.LK.mk ?l ?c ?k; (case l=>k_is); (case c=>k_is); (case k=>k_is))
  (case a51=>k_is)
  (case l51=>refine' My.LK.mk ?l ?c ?k; (case l=>k_is); (case c=>k_is); (case k=>k_is))
  (case a52=>k_is)
  (case l52=>refine' My.LK.mk ?l ?c ?k; (case l=>k_is); (case c=>k_is); (case k=>k_is))
  (case a53=>k_is)
  (case l53=>refine' My.LK.mk ?l ?c ?k; (case l=>k_is); (case c=>k_is); (case k=>k_is))
  (case a54=>k_is)
  (case l54=>refine' My.LK.mk ?l ?c ?k; (case l=>k_is); (case c=>k_is); (case k=>k_is))
  (case a55=>k_is)
  (case l55=>refine' My.LK.mk ?l ?c ?k; (case l=>k_is); (case c=>k_is); (case k=>k_is))
  (case a56=>k_is)
  (case l56=>refine' My.LK.mk ?l ?c ?k; (case l=>k_is); (case c=>k_is); (case k=>k_is))
  (case a57=>k_is)
  (case l57=>refine' My.LK.mk ?l ?c ?k; (case l=>k_is); (case c=>k_is); (case k=>k_is))
  (case a58=>k_is)
  (case l58=>refine' My.LK.mk ?l ?c ?k; (case l=>k_is); (case c=>k_is); (case k=>k_is))
  (case a59=>k_is)
  (case l59=>k_is)
  (case c59=>k_is)
  (case k59=>k_is)
  (case z_abs=>k_is)
  (case z_all=>k_is)
  (case z_any=>k_is)
  (case z_bool=>k_is)
  (case z_enumerate=>k_is)
  (case z_int=>k_is)
  (case z_isinstance=>k_is)
  (case z_len=>k_is)
  (case z_list=>k_is)
  (case z_max=>k_is)
  (case z_range=>k_is)
  (case z_sorted=>k_is)
  (case z_sum=>k_is)
  (case z_tuple=>k_is)
  (case z_zip=>k_is)
  (case y_FEWEST_STANDS=>k_is)
  (case y_MOST_SIGNS=>k_is)
  (case y_MOST_STANDS=>k_is)
  (case f_tab_h=>first|k_exc|k_is|rfl)
  (case f_bm_h=>first|k_exc|k_is|rfl)
