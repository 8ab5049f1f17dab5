import PyProof.Rows.All
import Wide.All
import OpenK.AllK
import Wide.FinOn
import Lean
import PyProof.EqAt
import PyProof.EqKinds
import PyProof.TupleCall
import PySem.Challenge.RW_shearfloor_k12_forms
set_option Elab.async false
set_option linter.all false
set_option maxRecDepth 100000
set_option maxHeartbeats 4000000
noncomputable section
namespace L2
open PySem PySem.Spec PyProof.Rows
abbrev Key:=Sum Int Str
noncomputable def keyIs:Key→Value→Bool
 | .inl k,v=>Value.isInt k v
 | .inr x,v=>Value.isStrOf x v
noncomputable def keyH (w:World):Key→Int
 | .inl k=>hashInt k
 | .inr x=>hashStr w x
theorem Yak:∀ {k:Key} {v:Value},keyIs k v=true→(∃ i t,k=Sum.inl i∧v=Value.int i t)∨(∃ x t,k=Sum.inr x∧v=Value.str x t)
 | .inl i,v,h=>by
  obtain ⟨t,e⟩:=Value.isInt_shape (k:=i) (v:=v) h
  exact .inl ⟨i,t,rfl,e⟩
 | .inr x,v,h=>by
  obtain ⟨t,e⟩:=Value.isStrOf_shape (x:=x) (v:=v) h
  exact .inr ⟨x,t,rfl,e⟩
theorem ybq (i:Int) (t:Tok):keyIs (.inl i) (.int i t)=true:=by simp [keyIs,Value.isInt]
theorem Zbq (x:Str) (t:Tok):keyIs (.inr x) (.str x t)=true:=by simp [keyIs,Value.isStrOf]
theorem key_ll (a b:Int):decide ((Sum.inl a:Key)=Sum.inl b)=(a == b):=by
 by_cases e:a=b
 ·subst e;simp
 ·have h:¬ (Sum.inl a:Key)=Sum.inl b:=fun q=>e (Sum.inl.inj q)
  rw [decide_eq_false h]
  exact (beq_eq_false_iff_ne.mpr e).symm
theorem key_rr (a b:Str):decide ((Sum.inr a:Key)=Sum.inr b)=decide (a=b):=by
 by_cases e:a=b
 ·subst e;simp
 ·have h:¬ (Sum.inr a:Key)=Sum.inr b:=fun q=>e (Sum.inr.inj q)
  rw [decide_eq_false h,decide_eq_false e]
theorem key_lr (a:Int) (b:Str):decide ((Sum.inl a:Key)=Sum.inr b)=false:=decide_eq_false (fun q=>nomatch q)
theorem key_rl (a:Str) (b:Int):decide ((Sum.inr a:Key)=Sum.inl b)=false:=decide_eq_false (fun q=>nomatch q)
noncomputable def mixKind (prog:Program) (w:World):PySem.KeyKind prog w Key where
 is:=keyIs
 hash:=keyH w
 inj:=fun v a b ha hb=>by
  rcases Yak ha with ⟨i,t,rfl,rfl⟩ | ⟨x,t,rfl,rfl⟩
  ·rcases Yak hb with ⟨j,u,rfl,e⟩ | ⟨y,u,rfl,e⟩
   ·injection e with e1 _;rw [e1]
   ·exact nomatch e
  ·rcases Yak hb with ⟨j,u,rfl,e⟩ | ⟨y,u,rfl,e⟩
   ·exact nomatch e
   ·injection e with e1 _;rw [e1]
 byValue:=fun k v h=>by
  rcases Yak h with ⟨i,t,rfl,rfl⟩ | ⟨x,t,rfl,rfl⟩ <;> rfl
 pyHash:=fun hv h=>by
  rcases Yak hv with ⟨i,t,rfl,rfl⟩ | ⟨x,t,rfl,rfl⟩
  ·exact wpAny_pyHash_int h
  ·exact wpAny_pyHash_str h
 eqBool:=fun hu hv h=>by
  rcases Yak hu with ⟨i,t,rfl,rfl⟩ | ⟨x,t,rfl,rfl⟩
  ·rcases Yak hv with ⟨j,u,rfl,rfl⟩ | ⟨y,u,rfl,rfl⟩
   ·rw [key_ll] at h;exact wpAny_eqBool_int h
   ·rw [key_lr] at h;exact SeqAt.EqAt.int_str i t y u _ _ _ _ h
  ·rcases Yak hv with ⟨j,u,rfl,rfl⟩ | ⟨y,u,rfl,rfl⟩
   ·rw [key_rl] at h;exact SeqAt.EqAt.str_int x t j u _ _ _ _ h
   ·rw [key_rr] at h;exact wpAny_eqBool_str h
 «strs»:=fun k x t v h=>by
  rcases Yak h with ⟨i,u,rfl,e⟩ | ⟨y,u,rfl,e⟩
  ·exact nomatch e
  ·injection e with e1 _
   subst e1
   cases v <;> rfl
theorem Xbc (prog:Program) (w:World) (i:Int) (t:Tok):(mixKind prog w).is (.inl i) (.int i t)=true:=ybq i t
theorem zbd (prog:Program) (w:World) (x:Str) (t:Tok):(mixKind prog w).is (.inr x) (.str x t)=true:=Zbq x t
end L2
namespace L2
open PySem PySem.Spec PyProof.Rows
inductive V where
 | non | bl (b:Bool) | int (i:Int) | str (x:Str) | byt (b:Array UInt8) | flt (b:UInt64) | ref (a:Addr) | ty (n:String)
 deriving DecidableEq
noncomputable def RelV:V→Value→Prop
 | .non,u=>u=Value.none
 | .bl b,u=>u=Value.bool b
 | .int i,u=>∃ t,u=Value.int i t
 | .str x,u=>∃ t,u=Value.str x t
 | .byt b,u=>∃ t,u=Value.bytes b t
 | .flt b,u=>∃ t,u=Value.float b t
 | .ref a,u=>u=Value.ref a
 | .ty n,u=>u=Value.type n
abbrev Vals:List V→List Value→Prop:=Paired RelV
theorem Vals.length {xs:List V} {us:List Value} (r:Vals xs us):xs.length=us.length:=Paired.length r
theorem Vals.get:∀ {xs:List V} {us:List Value} {i:Nat} {x:V},Vals xs us→xs[i]?=some x→∃ u,us[i]?=some u∧RelV x u
 | _,_,_,_,.nil,e=>by simp at e
 | _,_,0,_,.cons r _,e=>by simp at e;subst e;exact ⟨_,rfl,r⟩
 | _,_,i + 1,x,.cons _ t,e=>by
  obtain ⟨u,h1,h2⟩:=Vals.get (i:=i) (x:=x) t (by simpa using e)
  exact ⟨u,by simpa using h1,h2⟩
theorem Vals.set {x:V} {u:Value} (r:RelV x u):∀ {xs:List V} {us:List Value} (i:Nat),Vals xs us→Vals (xs.set i x) (us.set i u)
 | _,_,_,.nil=>.nil
 | _,_,0,.cons _ t=>.cons r t
 | _,_,i + 1,.cons q t=>.cons q (Vals.set r i t)
theorem Vals.append:∀ {xs ys:List V} {us ws:List Value},Vals xs us→Vals ys ws→Vals (xs ++ ys) (us ++ ws)
 | _,_,_,_,.nil,s=>s
 | _,_,_,_,.cons r t,s=>.cons r (Vals.append t s)
theorem Vals.take:∀ {xs:List V} {us:List Value} (n:Nat),Vals xs us→Vals (xs.take n) (us.take n)
 | _,_,0,_=>.nil
 | _,_,_ + 1,.nil=>.nil
 | _,_,n + 1,.cons r t=>.cons r (Vals.take n t)
theorem Vals.drop:∀ {xs:List V} {us:List Value} (n:Nat),Vals xs us→Vals (xs.drop n) (us.drop n)
 | _,_,0,r=>r
 | _,_,_ + 1,.nil=>.nil
 | _,_,n + 1,.cons _ t=>Vals.drop n t
noncomputable def RelO:Option V→Option Value→Prop
 | some v,some u=>RelV v u
 | none,none=>True
 | _,_=>False
noncomputable def KV {κ:Type}:List (κ×V)→List (κ×Value)→Prop:=Paired fun (p:κ×V) (q:κ×Value)=>p.1=q.1∧RelV p.2 q.2
noncomputable def kV:Key→V
 | .inl i=>.int i
 | .inr x=>.str x
inductive HO where
 /-- a list -/
 | lst (xs:List V)
 /-- a tuple (never changes) -/
 | tup (xs:List V)
 /-- a dict whose keys are ints and texts;one whose keys are tuples of ints and texts (the empty one is both) -/
 | dK (kvs:List (Key×V)) | dT (kvs:List (List Key×V))
 /-- a set of ints: its members,its size -/
 | set (S:Int→Bool) (n:Nat)
 /-- an instance of the class at C,its dict at dx,its attributes -/
 | ins (C dx:Addr) (fs:List (Str×V))
 /-- the dict of the instance at x -/
 | own (x:Addr)
 /-- the dict of an exception -/
 | xd (fs:List (Str×V))
 /-- a bound method,f of x -/
 | met (f x:Addr)
 /-- a range object lo,lo + 1,.. below hi -/
 | rng (lo hi:Int)
 /-- a thing that is known to the object (the script;a dict while a loop walks it): read,never written while it is so -/
 | frz (o:Obj) (u:HO)
 /-- a code object's table -/
 | tbl (ps:Array Value)
 /-- any other thing,by what is true of its one object (a def of one's own: SetO a S n:=HO.ext fun h=>..) -/
 | ext (φ:Heap→Prop)
abbrev Hp:=Addr→Option HO
noncomputable def upd (H:Hp) (a:Addr) (o:HO):Hp:=fun b=>if b=a then some o else H b
theorem xao {H:Hp} {a:Addr} {o:HO}:upd H a o a=some o:=by unfold upd;rw [if_pos rfl]
theorem yai {H:Hp} {a b:Addr} {o:HO} (h:b≠a):upd H a o b=H b:=by unfold upd;rw [if_neg h]
theorem ne_of {H:Hp} {a b:Addr} {o u:HO} (h:H a=some o) (h':H b=some u) (d:o≠u):a≠b:=by
 intro e;subst e;rw [h] at h';exact d (Option.some.inj h')
theorem Xaz {H:Hp} {a b:Addr} {o:HO} (h:H a=some o) (h':H b=none):a≠b:=by
 intro e;subst e;rw [h] at h';cases h'
noncomputable def PTup (h:Heap) (a:Addr) (its:Array Value):Prop:=∃ o,h.get? a=some o∧o.cls=.type "tuple" ∧ o.dict=none∧∃ n,o.data=.seq its n
theorem PTup.tup {h:Heap} {a:Addr} {its:Array Value} (x:PTup h a its):IsTup h a its:=let ⟨o,e,c,_,n,d⟩:=x;⟨o,e,c,n,d⟩
theorem PTup.new (h:Heap) (its:Array Value):PTup (h.push { cls:=.type "tuple",data:=.seq its }) h.objs.size its:=⟨_,Heap.get?_push_size _ rfl,rfl,rfl,_,rfl⟩
section
variable (P:Program) (w:World)
noncomputable def ObjOk (H:Hp) (h:Heap) (a:Addr):HO→Prop
 | .lst xs=>xs.length≤sizeLine∧∃ (its:List Value) (n:Nat),Vals xs its∧h.get? a=some { cls:=.type "list",data:=.seq its.toArray n }
 | .tup xs=>xs.length≤sizeLine∧∃ its:List Value,Vals xs its∧PTup h a its.toArray
 | .dK kvs=>kvs.length≤sizeLine∧(a == sysModules)=false∧∃ vs,KV kvs vs∧h.DictOf (mixKind P w) a vs
 | .dT kvs=>kvs.length≤sizeLine∧(a == sysModules)=false∧∃ xs:List (List Key×Addr×Value),
   Paired (fun (p:List Key×V) (q:List Key×Addr×Value)=>p.1=q.1∧H q.2.1=some (.tup (p.1.map kV))∧RelV p.2 q.2.2) kvs xs ∧
   ∃ o es ep,h.get? a=some o∧o.ExactDict∧o.data=.dict es ep∧es.toList=xs.map (entryOfKey (tupleKind (mixKind P w)))∧(xs.map (·.1)).Nodup
 | .set S n=>h.SetOf (intKind P w) a S n
 | .ins C dx fs=>H dx=some (.own a)∧fs.length≤1000∧dx≠a∧h.get? a=some (PySem.W.instObj C dx) ∧
   ∃ mA,h.Ns1 dx mA∧(∀ f,RelO (fs.lookup f) (mA f))∧PySem.Within mA (fs.map (·.1))
 | .own _=>∃ o,h.get? a=some o
 | .xd fs=>∃ mA,h.Ns1 a mA∧∀ f,RelO (fs.lookup f) (mA f)
 | .rng lo hi=>∃ t u v,h.get? a=some { cls:=.type "range",data:=.fields #[.int lo t,.int hi u,.int 1 v] }
 | .frz o u=>h.get? a=some o∧ObjOk H h a u
 | .tbl ps=>h.get? a=some { cls:=.none,data:=.fields ps }
 | .met f x=>h.get? a=some (PySem.W.methodObj (.ref f) (.ref x))
 | .ext φ=>φ h∧(∃ o,h.get? a=some o)∧∀ h1 h2:Heap,φ h1→(∀ o,h1.get? a=some o→h2.get? a=some o)→φ h2
noncomputable def HOk (H:Hp) (h:Heap):Prop:=∀ a o,H a=some o→ObjOk P w H h a o
end
section
variable {P:Program} {w:World} {H H':Hp} {h h':Heap} {a:Addr} {o:HO}
theorem ObjOk.lt (x:ObjOk P w H h a o):a < h.objs.size:=by
 cases o with
 | lst xs=>obtain ⟨_,_,_,_,e⟩:=x;exact Heap.lt_size e
 | tup xs=>obtain ⟨_,_,_,_,e,_⟩:=x;exact Heap.lt_size e
 | dK kvs=>obtain ⟨_,_,_,_,o,_,_,e,_⟩:=x;exact Heap.lt_size e
 | dT kvs=>obtain ⟨_,_,_,_,o,_,_,e,_⟩:=x;exact Heap.lt_size e
 | set S n=>obtain ⟨o,_,_,_,e,_⟩:=x;exact Heap.lt_size e
 | ins C dx fs=>obtain ⟨_,_,_,e,_⟩:=x;exact Heap.lt_size e
 | own y=>obtain ⟨_,e⟩:=x;exact Heap.lt_size e
 | xd fs=>obtain ⟨_,⟨_,_,_,e,_⟩,_⟩:=x;exact Heap.lt_size e
 | rng lo hi=>obtain ⟨_,_,_,e⟩:=x;exact Heap.lt_size e
 | frz ob u=>obtain ⟨e,_⟩:=x;exact Heap.lt_size e
 | tbl ps=>exact Heap.lt_size (show h.get? a=some _ from x)
 | met f y=>exact Heap.lt_size (show h.get? a=some _ from x)
 | ext φ=>obtain ⟨_,⟨_,e⟩,_⟩:=x;exact Heap.lt_size e
theorem Paired.mapP {α β:Type} {F G:α→β→Prop}:∀ {l₁:List α} {l₂:List β},Paired F l₁ l₂→(∀ a b,F a b→G a b)→Paired G l₁ l₂
 | _,_,.nil,_=>.nil
 | _,_,.cons r t,f=>.cons (f _ _ r) (Paired.mapP t f)
theorem ObjOk.stay (x:ObjOk P w H h a o) (k:∀ b u,(b=a∨H b=some (.own a))→h.get? b=some u→h'.get? b=some u)
  (ho:∀ b,H b=some (.own a)→H' b=some (.own a)) (ht:∀ b xs,H b=some (.tup xs)→H' b=some (.tup xs)):ObjOk P w H' h' a o:=by
 induction o with
 | lst xs=>obtain ⟨z,its,n,r,e⟩:=x;exact ⟨z,its,n,r,k _ _ (.inl rfl) e⟩
 | tup xs=>obtain ⟨z,its,r,ob,e,c⟩:=x;exact ⟨z,its,r,ob,k _ _ (.inl rfl) e,c⟩
 | dK kvs=>obtain ⟨z,y,vs,r,ob,es,ep,e,c⟩:=x;exact ⟨z,y,vs,r,ob,es,ep,k _ _ (.inl rfl) e,c⟩
 | dT kvs =>
  obtain ⟨z,y,xs,r,ob,es,ep,e,c⟩:=x
  exact ⟨z,y,xs,Paired.mapP r fun p q z=>⟨z.1,ht _ _ z.2.1,z.2.2⟩,ob,es,ep,k _ _ (.inl rfl) e,c⟩
 | set S n=>obtain ⟨ob,es,ep,t,e,c⟩:=x;exact ⟨ob,es,ep,t,k _ _ (.inl rfl) e,c⟩
 | ins C dx fs =>
  obtain ⟨d,z,ne,e,mA,⟨od,es,ep,e2,c⟩,r⟩:=x
  exact ⟨ho _ d,z,ne,k _ _ (.inl rfl) e,mA,⟨od,es,ep,k _ _ (.inr d) e2,c⟩,r⟩
 | own y=>obtain ⟨ob,e⟩:=x;exact ⟨ob,k _ _ (.inl rfl) e⟩
 | xd fs=>obtain ⟨mA,⟨od,es,ep,e,c⟩,r⟩:=x;exact ⟨mA,⟨od,es,ep,k _ _ (.inl rfl) e,c⟩,r⟩
 | rng lo hi=>obtain ⟨t,u,v,e⟩:=x;exact ⟨t,u,v,k _ _ (.inl rfl) e⟩
 | frz ob u ih=>obtain ⟨e,q⟩:=x;exact ⟨k _ _ (.inl rfl) e,ih q⟩
 | tbl ps =>
  have e:h.get? a=some { cls:=.none,data:=.fields ps }:=x
  show h'.get? a=some { cls:=.none,data:=.fields ps }
  exact k a _ (.inl rfl) e
 | met f y =>
  have e:h.get? a=some (PySem.W.methodObj (.ref f) (.ref y)):=x
  show h'.get? a=some (PySem.W.methodObj (.ref f) (.ref y))
  exact k a _ (.inl rfl) e
 | ext φ=>obtain ⟨p,⟨o,e⟩,st⟩:=x;exact ⟨st _ _ p fun o q=>k _ _ (.inl rfl) q,⟨o,k _ _ (.inl rfl) e⟩,st⟩
theorem HOk.lt (x:HOk P w H h) (e:H a=some o):a < h.objs.size:=(x a o e).lt
theorem HOk.fresh (x:HOk P w H h) (e:h.objs.size≤a):H a=none:=by
 cases q:H a with
 | none=>rfl
 | some u=>exact absurd (Nat.lt_of_lt_of_le (x.lt q) e) (Nat.lt_irrefl _)
theorem HOk.kept (x:HOk P w H h) (k:∀ b u,h.get? b=some u→h'.get? b=some u):HOk P w H h':=fun a o e =>
 (x a o e).stay (fun b u _ q=>k b u q) (fun _ q=>q) fun _ _ q=>q
theorem HOk.laid (x:HOk P w H h) (k:∀ b u,h.get? b=some u→h'.get? b=some u) (hp:h.objs.size≤a) (new:ObjOk P w (upd H a o) h' a o):HOk P w (upd H a o) h':=fun b u e=>by
 have hn:=x.fresh hp
 by_cases hb:b=a
 ·subst hb;rw [xao] at e;cases e;exact new
 ·rw [yai hb] at e
  exact (x b u e).stay (fun c v _ q=>k c v q) (fun c q=>by rw [yai (Xaz q hn)];exact q) fun c xs q=>by rw [yai (Xaz q hn)];exact q
end
noncomputable def Rd (H:Hp) (a:Addr) (u:HO):Prop:=H a=some u∨∃ o,H a=some (.frz o u)
theorem Rd.ok {P:Program} {w:World} {H:Hp} {h:Heap} {a:Addr} {u:HO} (r:Rd H a u) (x:HOk P w H h):ObjOk P w H h a u:=by
 rcases r with r | ⟨o,r⟩
 ·exact x a u r
 ·obtain ⟨_,q⟩:=x a _ r
  exact q
noncomputable def Mut:Option HO→Prop
 | some (.lst _)=>True
 | some (.dK _)=>True
 | some (.dT _)=>True
 | some (.set _ _)=>True
 | some (.ins _ _ _)=>True
 | some (.ext _)=>True
 | _=>False
section
variable {P:Program} {w:World} {H:Hp} {h h':Heap} {x e:Addr} {o':HO}
theorem HOk.write (ok:HOk P w H h) (mu:Mut (H x)) (he:e=x∨H e=some (.own x)) (k:∀ b u,b≠e→h.get? b=some u→h'.get? b=some u) (heo:∃ u,h'.get? e=some u)
  (new:ObjOk P w (upd H x o') h' x o'):HOk P w (upd H x o') h':=fun b u q=>by
 have nown:∀ c y,H c=some (.own y)→c≠x:=fun c y r z=>by subst z;rw [r] at mu;exact mu
 have ntup:∀ c xs,H c=some (.tup xs)→c≠x:=fun c xs r z=>by subst z;rw [r] at mu;exact mu
 by_cases hb:b=x
 ·subst hb;rw [xao] at q;cases q;exact new
 ·rw [yai hb] at q
  by_cases hbe:b=e
  ·have q':H b=some (.own x):=by
    rcases he with z | z
    ·exact absurd (hbe.trans z) hb
    ·rw [hbe];exact z
   rw [q] at q';cases q'
   obtain ⟨v,hv⟩:=heo
   exact ⟨v,by rw [hbe];exact hv⟩
  ·refine (ok b u q).stay (fun c v hc r=>k c v ?_ r) (fun c r=>by rw [yai (nown c b r)];exact r) fun c xs r=>by rw [yai (ntup c xs r)];exact r
   rcases hc with rfl | hc
   ·exact hbe
   ·rintro rfl
    rcases he with z | z
    ·exact nown c b hc z
    ·rw [hc] at z;cases z;exact hb rfl
end
structure Un (fs ex:List Addr) (H H':Hp) (h h':Heap):Prop where
 keep:∀ b o,h.get? b=some o→H b=none→b ∉ fs→b ∉ ex→h'.get? b=some o
 slot:∀ b o,h.get? b=some o→H b=none→b∈fs→b ∉ ex→∃ sl,h'.get? b=some { o with slots:=sl }
 free:∀ b o,h.get? b=some o→H b=none→b ∉ ex→H' b=none
 there:∀ b o,h.get? b=some o→b ∉ ex→∃ o',h'.get? b=some o'
 tups:∀ b xs,H b=some (.tup xs)→H' b=some (.tup xs)
 frzs:∀ b o u,H b=some (.frz o u)→H' b=some (.frz o u)
 tbls:∀ b ps,H b=some (.tbl ps)→∃ more,H' b=some (.tbl (ps ++ more))
section
variable {fs fs' ex ex':List Addr} {H H1 H2:Hp} {h h1 h2 h':Heap} {a x e:Addr} {o:HO}
theorem Un.any (u:Un fs ex H H1 h h1) {b:Addr} {ob:Obj} (q:h.get? b=some ob) (n:H b=none) (hx:b ∉ ex):∃ sl,h1.get? b=some { ob with slots:=sl }:=by
 by_cases hb:b∈fs
 ·exact u.slot b ob q n hb hx
 ·exact ⟨ob.slots,u.keep b ob q n hb hx⟩
theorem Un.kept (k:∀ b u,h.get? b=some u→h'.get? b=some u):Un fs ex H H h h' :=
 ⟨fun b ob q _ _ _=>k b ob q,fun b ob q _ _ _=>⟨ob.slots,k b ob q⟩,fun _ _ _ n _=>n,fun b ob q _=>⟨ob,k b ob q⟩,fun _ _ q=>q,fun _ _ _ q=>q,fun _ ps q=>⟨#[],by rw [q];simp⟩⟩
theorem Un.refl:Un fs ex H H h h:=Un.kept fun _ _ q=>q
theorem Un.laid (k:∀ b u,h.get? b=some u→h'.get? b=some u) (hp:h.objs.size≤a) (hn:H a=none):Un fs ex H (upd H a o) h h' where
 keep:=fun b u q _ _ _=>k b u q
 slot:=fun b u q _ _ _=>⟨u.slots,k b u q⟩
 free:=fun b u q n _=>by rw [yai (Nat.ne_of_lt (Nat.lt_of_lt_of_le (Heap.lt_size q) hp))];exact n
 there:=fun b u q _=>⟨u,k b u q⟩
 tups:=fun b xs q=>by rw [yai (Xaz q hn)];exact q
 frzs:=fun b u xs q=>by rw [yai (Xaz q hn)];exact q
 tbls:=fun b ps q=>⟨#[],by rw [yai (Xaz q hn),q];simp⟩
theorem Un.write (mu:Mut (H x)) (he:e=x∨H e=some (.own x)) (k:∀ b u,b≠e→h.get? b=some u→h'.get? b=some u) (heo:∃ u,h'.get? e=some u):Un fs ex H (upd H x o) h h':=by
 have hx:∀ b,H b=none→b≠x:=fun b n z=>by subst z;rw [n] at mu;exact mu
 have hb:∀ b,H b=none→b≠e:=fun b n z=>by
  subst z
  rcases he with r | r
  ·exact hx b n r
  ·rw [n] at r;cases r
 have hm:∀ b u,H b=some u→¬ Mut (some u)→b≠x:=fun b u q nm z=>by subst z;rw [q] at mu;exact nm mu
 refine ⟨fun b u q n _ _=>k b u (hb b n) q,fun b u q n _ _=>⟨u.slots,k b u (hb b n) q⟩,fun b u q n _=>by rw [yai (hx b n)];exact n,fun b u q _=>?_,
  fun b xs q=>by rw [yai (hm b _ q fun z=>z)];exact q,fun b u xs q=>by rw [yai (hm b _ q fun z=>z)];exact q,fun b ps q=>⟨#[],by rw [yai (hm b _ q fun z=>z),q];simp⟩⟩
 by_cases hbe:b=e
 ·subst hbe;exact heo
 ·exact ⟨u,k b u hbe q⟩
end
noncomputable def trk (h:Heap) (H:Hp):List Addr:=(List.range h.objs.size).filter fun a=>(H a).isSome
noncomputable def hidT (h:Heap) (H:Hp):Heap:=PySem.W.hideAll h (trk h H)
theorem Ybq (h:Heap) (H:Hp):(hidT h H).objs.size=h.objs.size:=PySem.W.hideAll_size _ _
theorem YbE {h:Heap} {H:Hp} {b:Addr} {o:Obj} (e:h.get? b=some o) (n:H b=none):(hidT h H).get? b=some o :=
 PySem.W.hideAll_get _ e fun hm=>by
  have q:(H b).isSome=true:=(List.mem_filter.mp hm).2
  rw [n] at q;simp at q
theorem ybR {h:Heap} {H:Hp} {b:Addr} {o:Obj} (e:(hidT h H).get? b=some o):h.get? b=some o∧H b=none:=by
 have e':h.get? b=some o:=PySem.W.of_hideAll (trk h H) e
 refine ⟨e',?_⟩
 cases q:H b with
 | none=>rfl
 | some x =>
  have hm:b∈trk h H:=List.mem_filter.mpr ⟨List.mem_range.mpr (Heap.lt_size e'),by simp [q]⟩
  have z:(hidT h H).get? b=none:=PySem.W.hideAll_none (trk h H) hm
  rw [z] at e;cases e
noncomputable def allNews (g h:Heap) (L:Addr):List (Addr×Obj):=(List.range h.objs.size).filterMap fun a=>if a=L∨(g.get? a).isSome=true then none else (h.get? a).map fun o=>(a,o)
noncomputable def rest (g h:Heap) (L d:Addr):List (Addr×Obj):=(allNews g h L).filter fun p=>decide (p.1≠d)
end L2
namespace L2
open PySem PySem.Spec PyProof.Rows
structure Mod (K:PySem.W.Frag) (mg:Str→Option Value) (base:Heap):Prop where
 kin:K.In base
 glob:base.Ns mainGlobals mg
 blt:∃ mb,base.Ns builtinsNs mb∧∀ x:Str,x≠"__name__" → mb x=bootBuiltins x
 nolimit:base.NoLimit
structure Cx where
 prog:Program
 w:World
 K:PySem.W.Frag
 mg:Str→Option Value
 base:Heap
 A:Around
 N:List Str
 s₀:Shared
 H₀:Hp
 env:Env
 outer:List Env
 stack:List Env
 ex:List Addr
 fn:Str→Bool
 calm:Bool
 pn:List (Addr×Obj)
 xe:Value→Shared→Prop
noncomputable def frs (l:List Env):List Addr:=l.filterMap (·.frame)
abbrev Cx.fs (X:Cx):List Addr:=frs X.outer
noncomputable def Vis (sc:Scope) (x:Str):Prop:=sc.names.lookup x=some .local∨sc.names.lookup x=some .cell∨sc.names.lookup x=some .free
noncomputable def Loc (sc:Scope) (x:Str):Prop:=sc.names.lookup x=some .local∨sc.names.lookup x=some .cell
noncomputable def Look (env:Env) (h:Heap) (m:Str→Option Value) (x:Str) (u:Value):Prop :=
 (env.kindOf x=some .local∧m x=some u)∨((env.kindOf x=some .cell∨env.kindOf x=some .free)∧∃ c,env.cells.lookup x=some c∧h.IsCell c (some u))
structure Cx.Ok (X:Cx):Prop where
 mod:Mod X.K X.mg X.base
 kind:X.env.scope.kind=.function
 glob:X.env.globals=mainGlobals
 blt:X.env.builtins=builtinsNs
 above:X.s₀.heap.objs.size≤X.env.locals
 inj:∀ x y c,X.env.cells.lookup x=some c→X.env.cells.lookup y=some c→x=y
 has:∀ x,(X.env.kindOf x=some .cell∨X.env.kindOf x=some .free)→∃ c,X.env.cells.lookup x=some c
 cab:∀ x c,X.fn x=true→X.env.cells.lookup x=some c→X.s₀.heap.objs.size≤c
 hd:X.calm=true→X.A.handled=none
 frames:X.A.frames=some X.stack
 stk:X.stack=X.outer∨(X.stack=X.env :: X.outer∧X.env.frame=some X.env.locals)
 exf:∀ b∈X.ex,b≠X.env.locals∧∀ x c,X.env.cells.lookup x=some c→c≠b
 bs:∀ b o,X.base.get? b=some o→X.s₀.heap.get? b=some o∧X.H₀ b=none
 bsz:X.base.objs.size≤X.s₀.heap.objs.size
 noex:∀ b o,X.base.get? b=some o→b ∉ X.ex
 exfs:∀ b∈X.ex,b ∉ X.fs
 funs:X.s₀.heap.FunFrames X.base X.outer
 frf:∀ b∈X.fs,X.H₀ b=none
structure Inv (X:Cx) (pins:List (Addr×Obj)) (σ:List (Option V)) (H:Hp) (s:Shared):Prop where
 ok:X.Ok
 os:s.os=X.s₀.os
 bare:AllBare s.gens
 base:Un X.fs X.ex X.H₀ H X.s₀.heap s.heap
 loc:∃ m,s.heap.Ns X.env.locals m∧∀ (i:Nat) (x:Str) (v:V),X.N[i]?=some x→σ[i]?=some (some v)→Vis X.env.scope x→∃ u,RelV v u∧Look X.env s.heap m x u
 cell:∀ x c,X.env.cells.lookup x=some c→∃ v,s.heap.IsCell c v
 free:H X.env.locals=none
 freeC:∀ x c,X.env.cells.lookup x=some c→H c=none
 pin:∀ p∈X.pn ++ pins,s.heap.get? p.1=some p.2∧H p.1=none∧p.1≠X.env.locals∧p.1 ∉ X.fs∧∀ v,p.2.data≠.cell v
 hok:HOk X.prog X.w H s.heap
 len:σ.length=X.N.length
section
variable {X:Cx} {pins:List (Addr×Obj)} {σ:List (Option V)} {H H':Hp} {s:Shared} {h':Heap}
theorem Cx.Ok.nofr (ok:X.Ok) {b:Addr} {o:Obj} (e:X.base.get? b=some o):b ∉ X.fs:=fun hb=>by
 have:=(ok.funs.mem hb).1
 rw [e] at this;cases this
theorem Inv.bs (I:Inv X pins σ H s):∀ b o,X.base.get? b=some o→s.heap.get? b=some o∧H b=none:=fun b o e =>
 ⟨I.base.keep b o (I.ok.bs b o e).1 (I.ok.bs b o e).2 (I.ok.nofr e) (I.ok.noex b o e),I.base.free b o (I.ok.bs b o e).1 (I.ok.bs b o e).2 (I.ok.noex b o e)⟩
theorem Inv.bk (I:Inv X pins σ H s):∀ b o,X.base.get? b=some o→s.heap.get? b=some o:=fun b o e=>(I.bs b o e).1
theorem Inv.mod (I:Inv X pins σ H s):Mod X.K X.mg X.base:=I.ok.mod
theorem Inv.kIn (I:Inv X pins σ H s):X.K.In s.heap:=I.ok.mod.kin.keeps I.bk
theorem Inv.lt (I:Inv X pins σ H s):X.env.locals < s.heap.objs.size:=let ⟨_,hn,_⟩:=I.loc;hn.lt
theorem Inv.sz (I:Inv X pins σ H s):X.s₀.heap.objs.size≤s.heap.objs.size:=Nat.le_trans I.ok.above (Nat.le_of_lt I.lt)
theorem Inv.nofs (I:Inv X pins σ H s) {a:Addr} (h:s.heap.objs.size≤a):a ∉ X.fs:=fun hb=>by
 obtain ⟨_,o,ho,_⟩:=I.ok.funs.mem hb
 exact absurd (Nat.lt_of_lt_of_le (Heap.lt_size ho) (Nat.le_trans I.sz h)) (Nat.lt_irrefl _)
theorem Inv.cne (I:Inv X pins σ H s):∀ x c,X.env.cells.lookup x=some c→c≠X.env.locals:=fun x c e z=>by
 obtain ⟨v,o,ho,hd⟩:=I.cell x c e
 obtain ⟨m,⟨o',es,ep,ho',hd',_⟩,_⟩:=I.loc
 rw [z,ho'] at ho;cases ho;rw [hd'] at hd;cases hd
theorem Inv.funs (I:Inv X pins σ H s):s.heap.FunFrames X.base X.outer:=by
 have all:∀ (l:List Env),(∀ b∈frs l,b∈X.fs)→X.s₀.heap.FunFrames X.base l→s.heap.FunFrames X.base l:=by
  intro l
  induction l with
  | nil=>intro _ _;trivial
  | cons env r ih =>
   intro hs hl
   obtain ⟨hk,⟨L,o,hf,hn,ho,hd⟩,hr⟩:=hl
   have hL:L∈X.fs:=hs L (by unfold frs;rw [List.filterMap_cons,hf];exact List.mem_cons_self)
   obtain ⟨sl,e⟩:=I.base.slot L o ho (I.ok.frf L hL) hL fun z=>I.ok.exfs L z hL
   exact ⟨hk,⟨L,_,hf,hn,e,hd⟩,ih (fun b hb=>hs b (by unfold frs;rw [List.filterMap_cons,hf];exact List.mem_cons_of_mem _ hb)) hr⟩
 exact all X.outer (fun _ hb=>hb) I.ok.funs
theorem Inv.stack (I:Inv X pins σ H s):s.heap.FunFrames X.base X.stack:=by
 rcases I.ok.stk with e | ⟨e,hf⟩
 ·rw [e];exact I.funs
 ·rw [e]
  obtain ⟨m,hn,_⟩:=I.loc
  refine .cons (by rw [I.ok.kind];decide) hf hn ?_ I.funs
  exact Heap.get?_none_of_le (Nat.le_trans I.ok.bsz I.ok.above)
theorem Inv.stkSub (I:Inv X pins σ H s):∀ b∈frs X.stack,b∈X.env.locals :: X.fs:=fun b hb=>by
 rcases I.ok.stk with e | ⟨e,hf⟩
 ·rw [e] at hb;exact List.mem_cons_of_mem _ hb
 ·rw [e] at hb
  unfold frs at hb
  rw [List.filterMap_cons,hf] at hb
  exact hb
theorem Inv.stkFree (I:Inv X pins σ H s):∀ b∈frs X.stack,H b=none:=fun b hb=>by
 rcases List.mem_cons.mp (I.stkSub b hb) with e | hb
 ·rw [e];exact I.free
 ·obtain ⟨_,o,ho,_⟩:=I.ok.funs.mem hb
  exact I.base.free b o ho (I.ok.frf b hb) fun z=>I.ok.exfs b z hb
theorem Inv.step {g':Array GenState} {t':Nat} {d':Drawn} {ch:List Addr} (I:Inv X pins σ H s)
  (hch:∀ b∈ch,(b∈X.ex∨X.s₀.heap.objs.size≤b)∧b≠X.env.locals∧(∀ x c,X.env.cells.lookup x=some c→c≠b)∧∀ p∈X.pn ++ pins,p.1≠b)
  (keep:∀ b o,b≠X.env.locals→b ∉ X.fs→b ∉ ch→s.heap.get? b=some o→H b=none→h'.get? b=some o)
  (slot:∀ b o,b≠X.env.locals→b∈X.fs→b ∉ ch→s.heap.get? b=some o→H b=none→∃ sl,h'.get? b=some { o with slots:=sl }) (free:∀ b o,b ∉ ch→s.heap.get? b=some o→H b=none→H' b=none)
  (there:∀ b o,b ∉ ch→s.heap.get? b=some o→∃ o',h'.get? b=some o')
  (tups:∀ b xs,H b=some (.tup xs)→H' b=some (.tup xs)) (frzs:∀ b o u,H b=some (.frz o u)→H' b=some (.frz o u)) (tbls:∀ b ps,H b=some (.tbl ps)→∃ more,H' b=some (.tbl (ps ++ more)))
  (ns:∀ m,s.heap.Ns X.env.locals m→h'.Ns X.env.locals m) (hok:HOk X.prog X.w H' h') (hg:AllBare g') :
  Inv X pins σ H' { s with heap:=h',gens:=g',drawn:=d',toks:=t' }:=by
 have neL:∀ b o,X.s₀.heap.get? b=some o→b≠X.env.locals:=fun b o e=>Nat.ne_of_lt (Nat.lt_of_lt_of_le (Heap.lt_size e) I.ok.above)
 have neC:∀ b o,X.s₀.heap.get? b=some o→b ∉ X.ex→b ∉ ch:=fun b o e hx hb=>by
  rcases (hch b hb).1 with z | z
  ·exact hx z
  ·exact absurd (Nat.lt_of_lt_of_le (Heap.lt_size e) z) (Nat.lt_irrefl _)
 have cellK:∀ x c,X.env.cells.lookup x=some c→∀ v,s.heap.IsCell c v→h'.IsCell c v:=fun x c e v ⟨o,ho,hd⟩=>by
  have nch:c ∉ ch:=fun z=>(hch c z).2.2.1 x c e rfl
  by_cases hc:c∈X.fs
  ·obtain ⟨sl,q⟩:=slot c o (I.cne x c e) hc nch ho (I.freeC x c e)
   exact ⟨_,q,hd⟩
  ·exact ⟨o,keep c o (I.cne x c e) hc nch ho (I.freeC x c e),hd⟩
 refine ⟨I.ok,I.os,hg,⟨fun b o e n hb hx=>?_,fun b o e n hb hx=>?_,fun b o e n hx=>?_,fun b o e hx=>?_,fun b xs e=>tups b xs (I.base.tups b xs e),fun b o xs e=>frzs b o xs (I.base.frzs b o xs e),fun b ps e=>?_⟩,?_,fun x c e=>?_,?_,fun x c e=>?_,fun p hp=>?_,hok,I.len⟩
 ·exact keep b o (neL b o e) hb (neC b o e hx) (I.base.keep b o e n hb hx) (I.base.free b o e n hx)
 ·obtain ⟨sl,e1⟩:=I.base.slot b o e n hb hx
  obtain ⟨sl',e2⟩:=slot b _ (neL b o e) hb (neC b o e hx) e1 (I.base.free b o e n hx)
  exact ⟨sl',e2⟩
 ·obtain ⟨o',e1⟩:=I.base.there b o e hx
  exact free b o' (neC b o e hx) e1 (I.base.free b o e n hx)
 ·obtain ⟨o',e1⟩:=I.base.there b o e hx
  exact there b o' (neC b o e hx) e1
 ·obtain ⟨m1,e1⟩:=I.base.tbls b ps e
  obtain ⟨m2,e2⟩:=tbls b _ e1
  exact ⟨m1 ++ m2,by rw [e2,Array.append_assoc]⟩
 ·obtain ⟨m,hn,hl⟩:=I.loc
  refine ⟨m,ns m hn,fun i x v e1 e2 e3=>?_⟩
  obtain ⟨u,r,l⟩:=hl i x v e1 e2 e3
  refine ⟨u,r,?_⟩
  rcases l with l | ⟨k,c,e,z⟩
  ·exact .inl l
  ·exact .inr ⟨k,c,e,cellK x c e _ z⟩
 ·obtain ⟨v,z⟩:=I.cell x c e
  exact ⟨v,cellK x c e v z⟩
 ·obtain ⟨m,⟨o,_,_,ho,_⟩,_⟩:=I.loc
  exact free _ o (fun z=>(hch _ z).2.1 rfl) ho I.free
 ·obtain ⟨v,o,ho,hd⟩:=I.cell x c e
  exact free c o (fun z=>(hch c z).2.2.1 x c e rfl) ho (I.freeC x c e)
 ·obtain ⟨e,n,ne,nf,d⟩:=I.pin p hp
  have nch:p.1 ∉ ch:=fun z=>(hch p.1 z).2.2.2 p hp rfl
  exact ⟨keep p.1 p.2 ne nf nch e n,free p.1 p.2 nch e n,ne,nf,d⟩
theorem Inv.un {t':Nat} (I:Inv X pins σ H s) (u:Un X.fs [] H H' s.heap h') (hok:HOk X.prog X.w H' h'):Inv X pins σ H' { s with heap:=h',toks:=t' }:=by
 obtain ⟨m,⟨o,es,ep,ho,r⟩,_⟩:=id I.loc
 obtain ⟨sl,hL⟩:=u.any ho I.free (by simp)
 exact I.step (g':=s.gens) (d':=s.drawn) (ch:=[]) (fun _ z=>nomatch z) (fun b o _ hb _ e n=>u.keep b o e n hb (by simp)) (fun b o _ hb _ e n=>u.slot b o e n hb (by simp)) (fun b o _ e n=>u.free b o e n (by simp)) (fun b o _ e=>u.there b o e (by simp)) u.tups u.frzs u.tbls (fun m' hm=>by
  obtain ⟨o',es',ep',ho',r'⟩:=hm
  rw [ho] at ho';cases ho'
  exact ⟨_,es',ep',hL,r'⟩) hok I.bare
theorem Inv.call {g':Array GenState} {t':Nat} {d':Drawn} {ch:List Addr} (I:Inv X pins σ H s) (u:Un (frs X.stack) ch H H' s.heap h') (hok:HOk X.prog X.w H' h') (hg:AllBare g')
  (hch:∀ b∈ch,(b∈X.ex∨X.s₀.heap.objs.size≤b)∧b≠X.env.locals∧(∀ x c,X.env.cells.lookup x=some c→c≠b)∧∀ p∈X.pn ++ pins,p.1≠b) :
  Inv X pins σ H' { s with heap:=h',gens:=g',drawn:=d',toks:=t' }:=by
 obtain ⟨m,⟨o,es,ep,ho,r⟩,_⟩:=id I.loc
 obtain ⟨sl,hL⟩:=u.any ho I.free fun z=>(hch _ z).2.1 rfl
 exact I.step (ch:=ch) hch (fun b o hL hb hc e n=>u.keep b o e n (fun z=>(List.mem_cons.mp (I.stkSub b z)).elim hL hb) hc) (fun b o _ _ hc e n=>u.any e n hc) (fun b o hc e n=>u.free b o e n hc) (fun b o hc e=>u.there b o e hc) u.tups u.frzs u.tbls (fun m' hm=>by
  obtain ⟨o',es',ep',ho',r'⟩:=hm
  rw [ho] at ho';cases ho'
  exact ⟨_,es',ep',hL,r'⟩) hok hg
theorem Inv.turned {t':Nat} {it:Addr} (I:Inv X pins σ H s) (k:∀ b o,b≠it→s.heap.get? b=some o→h'.get? b=some o) (hn:H it=none) (hL:it≠X.env.locals)
  (h1:it∈X.ex∨X.s₀.heap.objs.size≤it) (h2:∀ x c,X.env.cells.lookup x=some c→c≠it) (h3:∀ p∈X.pn ++ pins,p.1≠it):Inv X pins σ H { s with heap:=h',toks:=t' }:=by
 have nit:∀ b u,H b=some u→b≠it:=fun b u e z=>by rw [z,hn] at e;cases e
 refine I.step (g':=s.gens) (d':=s.drawn) (ch:=[it]) (fun b hb=>?_) (fun b o _ _ hc e _=>k b o (fun z=>hc (by simp [z])) e) (fun b o _ _ hc e _=>⟨o.slots,k b o (fun z=>hc (by simp [z])) e⟩) (fun _ _ _ _ n=>n)
  (fun b o hc e=>⟨o,k b o (fun z=>hc (by simp [z])) e⟩) (fun _ _ e=>e) (fun _ _ _ e=>e) (fun b ps e=>⟨#[],by rw [e];simp⟩) (fun m hm=>?_) (fun b u e=>?_) I.bare
 ·have e:b=it:=by simpa using hb
  subst e
  exact ⟨h1,hL,h2,h3⟩
 ·obtain ⟨o,es,ep,ho,r⟩:=hm
  exact ⟨o,es,ep,k _ o (Ne.symm hL) ho,r⟩
 ·refine (I.hok b u e).stay (fun c v hc q=>k c v ?_ q) (fun _ q=>q) fun _ _ q=>q
  rcases hc with z | z
  ·rw [z];exact nit b u e
  ·exact nit c _ z
theorem Inv.tok (I:Inv X pins σ H s) (t:Nat):Inv X pins σ H { s with toks:=t }:=I.un (h':=s.heap) (t':=t) Un.refl I.hok
theorem Inv.kept {t':Nat} (I:Inv X pins σ H s) (k:∀ b u,s.heap.get? b=some u→h'.get? b=some u):Inv X pins σ H { s with heap:=h',toks:=t' }:=I.un (Un.kept k) (I.hok.kept k)
theorem Inv.laid {a:Addr} {o:HO} {t':Nat} (I:Inv X pins σ H s) (k:∀ b u,s.heap.get? b=some u→h'.get? b=some u) (hp:s.heap.objs.size≤a) (new:ObjOk X.prog X.w (upd H a o) h' a o) :
  Inv X pins σ (upd H a o) { s with heap:=h',toks:=t' }:=I.un (Un.laid k hp (I.hok.fresh hp)) (I.hok.laid k hp new)
theorem Inv.write {x e:Addr} {o:HO} {t':Nat} (I:Inv X pins σ H s) (mu:Mut (H x)) (he:e=x∨H e=some (.own x)) (k:∀ b u,b≠e→s.heap.get? b=some u→h'.get? b=some u) (heo:∃ u,h'.get? e=some u)
  (new:ObjOk X.prog X.w (upd H x o) h' x o):Inv X pins σ (upd H x o) { s with heap:=h',toks:=t' }:=I.un (Un.write mu he k heo) (I.hok.write mu he k heo new)
theorem Inv.pins_of {pins':List (Addr×Obj)} (I:Inv X pins σ H s) (h:∀ p∈pins',s.heap.get? p.1=some p.2∧H p.1=none∧p.1≠X.env.locals∧p.1 ∉ X.fs∧∀ v,p.2.data≠.cell v):Inv X pins' σ H s :=
 ⟨I.ok,I.os,I.bare,I.base,I.loc,I.cell,I.free,I.freeC,fun p hp=>(List.mem_append.mp hp).elim (fun z=>I.pin p (List.mem_append_left _ z)) (h p),I.hok,I.len⟩
theorem ybi {N:List Str} (hN:N.Nodup) {i j:Nat} {x:Str} (a:N[i]?=some x) (b:N[j]?=some x):i=j:=by
 obtain ⟨h1,e1⟩:=List.getElem?_eq_some_iff.mp a
 obtain ⟨h2,e2⟩:=List.getElem?_eq_some_iff.mp b
 exact (List.getElem_inj hN).mp (e1.trans e2.symm)
theorem za6 {M:Model} {A:Around} {E:Value→Shared→Prop} {i:Nat} {x:Str} {v:V} {u:Value} {Q:Unit→Shared→Prop} (I:Inv X pins σ H s) (hN:X.N.Nodup) (hi:X.N[i]?=some x) (hx:Loc X.env.scope x) (r:RelV v u)
  (h:∀ s',Inv X pins (σ.set i (some v)) H s'→(∃ a,Heap.SameBut a s.heap s'.heap∧(a=X.env.locals∨X.env.cells.lookup x=some a))→Q () s') (hf:X.fn x=true∨X.env.scope.names.lookup x=some .local:=by first | exact .inl rfl | exact .inr rfl | assumption):wpAny M A (storeName X.env x u) Q E s:=by
 obtain ⟨m,hn,hl⟩:=id I.loc
 have hcls:(X.env.scope.kind == .class || (X.env.scope.kind == .module && X.env.locals != X.env.globals))=false:=by rw [I.ok.kind];rfl
 have hiσ:i < σ.length:=by rw [I.len];exact (List.getElem?_eq_some_iff.mp hi).1
 have cne:=I.cne
 have tracked:∀ {a:Addr} {h':Heap},(∃ o,s.heap.get? a=some o∧H a=none)→Heap.SameBut a s.heap h'→HOk X.prog X.w H h':=fun {a h'} ha hs b ob e=>by
  obtain ⟨_,_,hfree⟩:=ha
  refine (I.hok b ob e).stay (fun c w' hc q=>(hs.2 c ?_).trans q) (fun _ q=>q) fun _ _ q=>q
  rintro rfl
  rcases hc with rfl | hc
  ·rw [hfree] at e;cases e
  ·rw [hfree] at hc;cases hc
 rcases hx with hk | hk
 ·refine wpAny_storeName_local hk hn (fun h' hn' hs=>?_) hcls
  obtain ⟨oL,_,_,hoL,_⟩:=id hn
  refine h _ ⟨I.ok,I.os,I.bare,⟨fun b o e n hb hx=>?_,fun b o e n hb hx=>?_,I.base.free,fun b o e hx=>?_,I.base.tups,I.base.frzs,I.base.tbls⟩,⟨_,hn',fun j y v' e1 e2 e3=>?_⟩,fun y c e=>?_,I.free,I.freeC,fun p hp=>?_,tracked ⟨oL,hoL,I.free⟩ hs,by simpa using I.len⟩ ⟨_,hs,.inl rfl⟩
  ·exact (hs.2 b (Nat.ne_of_lt (Nat.lt_of_lt_of_le (Heap.lt_size e) I.ok.above))).trans (I.base.keep b o e n hb hx)
  ·obtain ⟨sl,e1⟩:=I.base.slot b o e n hb hx
   exact ⟨sl,(hs.2 b (Nat.ne_of_lt (Nat.lt_of_lt_of_le (Heap.lt_size e) I.ok.above))).trans e1⟩
  ·obtain ⟨o',e1⟩:=I.base.there b o e hx
   exact ⟨o',(hs.2 b (Nat.ne_of_lt (Nat.lt_of_lt_of_le (Heap.lt_size e) I.ok.above))).trans e1⟩
  ·by_cases hj:j=i
   ·subst hj
    rw [hi] at e1;cases e1
    rw [List.getElem?_set_self hiσ] at e2
    cases e2
    exact ⟨u,r,.inl ⟨hk,by simp⟩⟩
   ·rw [List.getElem?_set_ne (Ne.symm hj)] at e2
    obtain ⟨u',r',q⟩:=hl j y v' e1 e2 e3
    refine ⟨u',r',?_⟩
    rcases q with ⟨k,e⟩ | ⟨k,c,e,z⟩
    ·refine .inl ⟨k,?_⟩
     have:y≠x:=fun e=>hj (ybi hN e1 (e ▸ hi))
     simp [this,e]
    ·exact .inr ⟨k,c,e,z.sameBut hs (cne y c e)⟩
  ·obtain ⟨w',z⟩:=I.cell y c e
   exact ⟨w',z.sameBut hs (cne y c e)⟩
  ·obtain ⟨e,n,ne,nf,d⟩:=I.pin p hp
   exact ⟨(hs.2 p.1 ne).trans e,n,ne,nf,d⟩
 ·have hfn:X.fn x=true:=by
   rcases hf with z | z
   ·exact z
   ·rw [z] at hk;cases hk
  obtain ⟨c,hc⟩:=I.ok.has x (.inl hk)
  obtain ⟨w',z⟩:=I.cell x c hc
  refine wpAny_storeName_cell I.ok.kind hk hc z (fun h' hc' hs=>?_)
  obtain ⟨oc,hoc,hocd⟩:=id z
  refine h { s with heap:=h' } ⟨I.ok,I.os,I.bare,⟨fun b o e n hb hx=>?_,fun b o e n hb hx=>?_,I.base.free,fun b o e hx=>?_,I.base.tups,I.base.frzs,I.base.tbls⟩,⟨m,hn.sameBut hs (Ne.symm (cne x c hc)),fun j y v' e1 e2 e3=>?_⟩,fun y c' e=>?_,I.free,I.freeC,fun p hp=>?_,tracked ⟨oc,hoc,I.freeC x c hc⟩ hs,by simpa using I.len⟩ ⟨c,hs,.inr hc⟩
  ·exact (hs.2 b (Nat.ne_of_lt (Nat.lt_of_lt_of_le (Heap.lt_size e) (I.ok.cab x c hfn hc)))).trans (I.base.keep b o e n hb hx)
  ·obtain ⟨sl,e1⟩:=I.base.slot b o e n hb hx
   exact ⟨sl,(hs.2 b (Nat.ne_of_lt (Nat.lt_of_lt_of_le (Heap.lt_size e) (I.ok.cab x c hfn hc)))).trans e1⟩
  ·obtain ⟨o',e1⟩:=I.base.there b o e hx
   exact ⟨o',(hs.2 b (Nat.ne_of_lt (Nat.lt_of_lt_of_le (Heap.lt_size e) (I.ok.cab x c hfn hc)))).trans e1⟩
  ·by_cases hj:j=i
   ·subst hj
    rw [hi] at e1;cases e1
    rw [List.getElem?_set_self hiσ] at e2
    cases e2
    exact ⟨u,r,.inr ⟨.inl hk,c,hc,hc'⟩⟩
   ·rw [List.getElem?_set_ne (Ne.symm hj)] at e2
    obtain ⟨u',r',q⟩:=hl j y v' e1 e2 e3
    refine ⟨u',r',?_⟩
    rcases q with q | ⟨k,c',e,z'⟩
    ·exact .inl q
    ·refine .inr ⟨k,c',e,z'.sameBut hs ?_⟩
     rintro rfl
     exact hj (ybi hN e1 (I.ok.inj _ _ _ e hc ▸ hi))
  ·by_cases hcc:c'=c
   ·subst hcc;exact ⟨_,hc'⟩
   ·obtain ⟨w2,z2⟩:=I.cell y c' e
    exact ⟨w2,z2.sameBut hs hcc⟩
  ·obtain ⟨e,n,ne,nf,d⟩:=I.pin p hp
   refine ⟨(hs.2 p.1 ?_).trans e,n,ne,nf,d⟩
   intro q
   rw [q,hoc] at e
   have q':oc=p.2:=Option.some.inj e
   exact d w' (by rw [← q'];exact hocd)
theorem xaS {M:Model} {A:Around} {E:Value→Shared→Prop} {i:Nat} {x:Str} {v:V} {u:Value} {Q:Unit→Shared→Prop} (I:Inv X pins σ H s) (hN:X.N.Nodup) (hi:X.N[i]?=some x) (hx:Loc X.env.scope x) (r:RelV v u)
  (h:∀ s',Inv X pins (σ.set i (some v)) H s'→Q () s') (hf:X.fn x=true∨X.env.scope.names.lookup x=some .local:=by first | exact .inl rfl | exact .inr rfl | assumption):wpAny M A (storeName X.env x u) Q E s :=
 za6 I hN hi hx r (fun s' I' _=>h s' I') hf
theorem Inv.call' {s':Shared} {ch:List Addr} (I:Inv X pins σ H s) (ho:s'.os=s.os) (u:Un (frs X.stack) ch H H' s.heap s'.heap) (hok:HOk X.prog X.w H' s'.heap) (hg:AllBare s'.gens)
  (hch:∀ b∈ch,(b∈X.ex∨X.s₀.heap.objs.size≤b)∧b≠X.env.locals∧(∀ x c,X.env.cells.lookup x=some c→c≠b)∧∀ p∈X.pn ++ pins,p.1≠b):Inv X pins σ H' s':=by
 obtain ⟨h',g',d',t',o'⟩:=s'
 have e:o'=s.os:=ho
 subst e
 exact I.call (g':=g') (t':=t') (d':=d') u hok hg hch
end
abbrev XK:=Value→Option Addr→Hp→Prop
abbrev St:=List (Option V)
abbrev VK:=V→Hp→Prop
abbrev TE:=St→Hp→VK→Prop
abbrev TT:=St→Hp→(Bool→Hp→Prop)→Prop
abbrev TA:=St→Hp→(List V→Hp→Prop)→Prop
structure Ends where
 nx:St→Hp→Prop
 rt:VK
 bk:St→Hp→Prop:=fun _ _=>False
 ct:St→Hp→Prop:=fun _ _=>False
abbrev TS:=Ends→St→Hp→Prop
noncomputable def EP (X:Cx) (pins:List (Addr×Obj)) (σ:St) (Q:VK) (u:Value) (s':Shared):Prop:=∃ v H',Inv X pins σ H' s'∧RelV v u∧Q v H'
noncomputable def TP (X:Cx) (pins:List (Addr×Obj)) (σ:St) (Q:Bool→Hp→Prop) (b:Bool) (s':Shared):Prop:=∃ H',Inv X pins σ H' s'∧Q b H'
noncomputable def AP (X:Cx) (pins:List (Addr×Obj)) (σ:St) (Q:List V→Hp→Prop) (us:List Value) (s':Shared):Prop:=∃ vs H',Inv X pins σ H' s'∧Vals vs us∧Q vs H'
noncomputable def SP (X:Cx) (pins:List (Addr×Obj)) (D:Ends) (f:Flow) (s':Shared):Prop :=
 match f with
 | .next=>∃ σ' H',Inv X pins σ' H' s'∧D.nx σ' H'
 | .brk=>∃ σ' H',Inv X pins σ' H' s'∧D.bk σ' H'
 | .cont=>∃ σ' H',Inv X pins σ' H' s'∧D.ct σ' H'
 | .ret u=>∃ v σ' H',Inv X pins σ' H' s'∧RelV v u∧D.rt v H'
noncomputable def PE (X:Cx) (e:Expr) (t:TE):Prop :=
 ∀ (pins:List (Addr×Obj)) (s:Shared) (σ:St) (H:Hp) (Q:VK),Inv X pins σ H s→t σ H Q→wpAny (model X.prog X.w) X.A (eval e X.env) (EP X pins σ Q) X.xe s
noncomputable def PT (X:Cx) (e:Expr) (t:TT):Prop :=
 ∀ (pins:List (Addr×Obj)) (s:Shared) (σ:St) (H:Hp) (Q:Bool→Hp→Prop),Inv X pins σ H s→t σ H Q→wpAny (model X.prog X.w) X.A (isTrue e X.env (eval e X.env)) (TP X pins σ Q) X.xe s
noncomputable def PW (X:Cx) (e:Expr) (t:TT):Prop :=
 ∀ (whole:Sem Value) (pins:List (Addr×Obj)) (s:Shared) (σ:St) (H:Hp) (Q:Bool→Hp→Prop),Inv X pins σ H s→t σ H Q→wpAny (model X.prog X.w) X.A (isTrue e X.env whole) (TP X pins σ Q) X.xe s
theorem PW.pt {X:Cx} {e:Expr} {t:TT} (h:PW X e t):PT X e t:=h _
noncomputable def PA (X:Cx) (es:List Expr) (t:TA):Prop :=
 ∀ (pos:Pos) (pins:List (Addr×Obj)) (s:Shared) (σ:St) (H:Hp) (Q:List V→Hp→Prop),Inv X pins σ H s→t σ H Q→wpAny (model X.prog X.w) X.A (spliced (backTo pos (starEach es X.env))) (AP X pins σ Q) X.xe s
noncomputable def PS (X:Cx) (st:Stmt) (t:TS):Prop :=
 ∀ (pins:List (Addr×Obj)) (s:Shared) (σ:St) (H:Hp) (D:Ends),Inv X pins σ H s→t D σ H→wpAny (model X.prog X.w) X.A (exec st X.env) (SP X pins D) X.xe s
noncomputable def PSs (X:Cx) (st:List Stmt) (t:TS):Prop :=
 ∀ (pins:List (Addr×Obj)) (s:Shared) (σ:St) (H:Hp) (D:Ends),Inv X pins σ H s→t D σ H→wpAny (model X.prog X.w) X.A (execs st X.env) (SP X pins D) X.xe s
theorem thn {α:Type} {t:Sem α} {Q Q':α→Shared→Prop} {M:Model} {A:Around} {E:Value→Shared→Prop} {s:Shared} (h:wpAny M A t Q E s) (hQ:∀ a s,Q a s→Q' a s):wpAny M A t Q' E s:=wpAny_mono h hQ fun _ _ x=>x
end L2
namespace L2
open PySem PySem.Spec PyProof.Rows
section
variable {X:Cx}
theorem bin {a b:Expr} {ta tb:TE} (ha:PE X a ta) (hb:PE X b tb) {pins:List (Addr×Obj)} {s:Shared} {σ:St} {H:Hp} {R:V→V→Hp→Prop} (I:Inv X pins σ H s) (h:ta σ H fun x H1=>tb σ H1 fun y H2=>R x y H2)
  {α:Type} {Q:α→Shared→Prop} {f:Value→Value→Sem α}
  (hf:∀ v u s2 x y H2,Inv X pins σ H2 s2→RelV x v→RelV y u→R x y H2→wpAny (model X.prog X.w) X.A (f v u) Q X.xe s2) :
  wpAny (model X.prog X.w) X.A (eval a X.env) (fun v s₁=>wpAny (model X.prog X.w) X.A (eval b X.env) (fun u s₂=>wpAny (model X.prog X.w) X.A (f v u) Q X.xe s₂) X.xe s₁) X.xe s:=by
 refine thn (ha pins s σ H _ I h) fun v s1 ⟨x,H1,I1,r1,q1⟩=>?_
 refine thn (hb pins s1 σ H1 _ I1 q1) fun u s2 ⟨y,H2,I2,r2,q2⟩=>?_
 exact hf v u s2 x y H2 I2 r1 r2 q2
noncomputable def tVar (i:Nat):TE:=fun σ H Q=>∃ v,σ[i]?=some (some v)∧Q v H
noncomputable def tC (v:V):TE:=fun _ H Q=>Q v H
theorem pe_var {i:Nat} {x:Str} {pos:Pos} (hN:X.N[i]?=some x) (hv:Vis X.env.scope x) (hd:(x == ("__debug__" : Str))=false:=by decide) (hcd:(x == ("__classdict__" : Str))=false:=by decide):PE X (.Name x pos) (tVar i):=by
 intro pins s σ H Q I h
 obtain ⟨v,e,h⟩:=h
 obtain ⟨m,hn,hl⟩:=I.loc
 obtain ⟨u,r,l⟩:=hl i x v hN e hv
 have fin:EP X pins σ Q u s:=⟨v,H,I,r,h⟩
 rcases l with ⟨hk,hm⟩ | ⟨hk,c,hc,hcell⟩
 ·exact wpAny_Name (wpAny_loadName_local I.ok.kind hk hn hm fin) hd
 ·rcases hk with hk | hk
  ·exact wpAny_Name (wpAny_loadName_cell I.ok.kind hk hc hcell fin) hd
  ·exact wpAny_Name (wpAny_loadName_free I.ok.kind hk hc hcell fin hcd) hd
theorem Zac {i j pos}:PE X (.Constant (.int i) j pos) (tC (.int i)):=fun _ _ _ H _ I h=>wpAny_Constant_int ⟨.int i,H,I.tok _,⟨_,rfl⟩,h⟩
theorem xbE {b j pos}:PE X (.Constant (.bool b) j pos) (tC (.bl b)):=fun _ _ _ H _ I h=>Constant_bool ⟨.bl b,H,I,rfl,h⟩
theorem xbq {x j pos}:PE X (.Constant (.str x) j pos) (tC (.str x)):=fun _ _ _ H _ I h=>Calls.Constant_str ⟨.str x,H,I.tok _,⟨_,rfl⟩,h⟩
noncomputable def Gl (X:Cx) (x:Str):Prop:=X.env.kindOf x=some .globalImplicit
theorem ZbR {E:Value→Shared→Prop} {pins:List (Addr×Obj)} {s:Shared} {σ:St} {H:Hp} {x:Str} {u:Value} {pos:Pos} {Q:Value→Shared→Prop} (I:Inv X pins σ H s) (hg:Gl X x) (hm:X.mg x=some u) (h:Q u s)
  (hd:(x == ("__debug__" : Str))=false:=by decide):wpAny (model X.prog X.w) X.A (eval (.Name x pos) X.env) Q E s :=
 Calls.Name_function_global I.ok.kind hg (Calls.loadGlobal_global (by rw [I.ok.glob];exact I.mod.glob.keeps I.bk) hm h) hd
theorem xaY {E:Value→Shared→Prop} {pins:List (Addr×Obj)} {s:Shared} {σ:St} {H:Hp} {x:Str} {u:Value} {pos:Pos} {Q:Value→Shared→Prop} (I:Inv X pins σ H s) (hg:Gl X x) (hm:X.mg x=none) (hv:bootBuiltins x=some u) (h:Q u s)
  (hn:x≠"__name__" := by decide) (hd:(x == ("__debug__" : Str))=false:=by decide):wpAny (model X.prog X.w) X.A (eval (.Name x pos) X.env) Q E s:=by
 obtain ⟨mb,h1,h2⟩:=I.mod.blt
 exact Calls.Name_function_global I.ok.kind hg (Calls.loadGlobal_builtin (by rw [I.ok.glob];exact I.mod.glob.keeps I.bk) hm (by rw [I.ok.blt];exact h1.keeps I.bk) ((h2 x hn).trans hv) h) hd
variable {a b:Expr} {ta tb:TE} {pos:Pos}
variable {tA tB':TT} {rest:List Expr}
noncomputable def tAnd (t u:TT):TT:=fun σ H Q=>t σ H fun c H1=>if c=true then u σ H1 Q else Q false H1
noncomputable def tOr (t u:TT):TT:=fun σ H Q=>t σ H fun c H1=>if c=true then Q true H1 else u σ H1 Q
theorem YbR (ha:PT X a tA):PW X (.BoolOp .And [a] pos) tA:=by
 intro wh pins s σ H Q I h
 refine isTrue_and (thn (ha pins s σ H Q I h) fun c s1 e=>?_)
 cases c with
 | true=>exact isTrue_and_nil e
 | false=>exact e
theorem pw_or1 (ha:PT X a tA):PW X (.BoolOp .Or [a] pos) tA:=by
 intro wh pins s σ H Q I h
 refine isTrue_or (thn (ha pins s σ H Q I h) fun c s1 e=>?_)
 cases c with
 | false=>exact isTrue_or_nil e
 | true=>exact e
theorem pw_and (ha:PT X a tA) (hb:PW X (.BoolOp .And (b :: rest) pos) tB'):PW X (.BoolOp .And (a :: b :: rest) pos) (tAnd tA tB'):=by
 intro wh pins s σ H Q I h
 refine isTrue_and (thn (ha pins s σ H _ I h) fun c s1 ⟨H1,I1,q1⟩=>?_)
 cases c with
 | true=>exact hb wh pins s1 σ H1 Q I1 q1
 | false=>exact ⟨H1,I1,q1⟩
theorem pw_or (ha:PT X a tA) (hb:PW X (.BoolOp .Or (b :: rest) pos) tB'):PW X (.BoolOp .Or (a :: b :: rest) pos) (tOr tA tB'):=by
 intro wh pins s σ H Q I h
 refine isTrue_or (thn (ha pins s σ H _ I h) fun c s1 ⟨H1,I1,q1⟩=>?_)
 cases c with
 | true=>exact ⟨H1,I1,q1⟩
 | false=>exact hb wh pins s1 σ H1 Q I1 q1
end
end L2
namespace L2
open PySem PySem.Spec PyProof.Rows
noncomputable def SqL (K:PySem.W.Frag) (H:Hp) (a:Addr) (xs:List V):Prop :=
 Rd H a (.lst xs) ∨
  ∃ (o:Obj) (its:Array Value) (n:Nat),K.lookup a=some o∧o.cls=.type "list" ∧ o.dict=none∧o.data=.seq its n∧its.size≤sizeLine∧Vals xs its.toList
noncomputable def SqT (K:PySem.W.Frag) (H:Hp) (a:Addr) (xs:List V):Prop :=
 Rd H a (.tup xs) ∨
  ∃ (o:Obj) (its:Array Value) (n:Nat),K.lookup a=some o∧o.cls=.type "tuple" ∧ o.dict=none∧o.data=.seq its n∧its.size≤sizeLine∧Vals xs its.toList
noncomputable def absV:Value→Option V
 | .none=>some .non
 | .bool b=>some (.bl b)
 | .int i _=>some (.int i)
 | .str x _=>some (.str x)
 | .bytes b _=>some (.byt b)
 | .float b _=>some (.flt b)
 | .ref a=>some (.ref a)
 | .type n=>some (.ty n)
 | _=>none
theorem RelV.abs {x:V} {u:Value} (r:RelV x u):absV u=some x:=by
 cases x with
 | non=>cases r;rfl
 | bl _=>cases r;rfl
 | int _=>obtain ⟨t,rfl⟩:=r;rfl
 | str _=>obtain ⟨t,rfl⟩:=r;rfl
 | byt _=>obtain ⟨t,rfl⟩:=r;rfl
 | flt _=>obtain ⟨t,rfl⟩:=r;rfl
 | ref _=>cases r;rfl
 | ty _=>cases r;rfl
theorem RelV.inj {x y:V} {u:Value} (r:RelV x u) (q:RelV y u):x=y:=Option.some.inj (r.abs.symm.trans q.abs)
theorem Vals.inj:∀ {xs ys:List V} {us:List Value},Vals xs us→Vals ys us→xs=ys
 | _,_,_,.nil,.nil=>rfl
 | _,_,_,.cons r t,.cons r' t'=>by rw [r.inj r',Vals.inj t t']
section
variable {X:Cx} {pins:List (Addr×Obj)} {σ:St} {H:Hp} {s:Shared} {a:Addr} {xs ys:List V}
theorem SqT.of {K:PySem.W.Frag} (h:H a=some (.tup xs)):SqT K H a xs:=.inl (.inl h)
theorem Inv.list (I:Inv X pins σ H s) (h:SqL X.K H a xs):∃ its:List Value,Vals xs its∧PlainL s.heap a its.toArray∧xs.length≤sizeLine:=by
 rcases h with h | ⟨o,its,n,hk,hc,hd,hs,hz,r⟩
 ·obtain ⟨z,its,n,r,e⟩:=h.ok I.hok
  exact ⟨its,r,⟨_,n,e,rfl,rfl,rfl⟩,z⟩
 ·refine ⟨its.toList,r,⟨o,n,I.kIn a o hk,hc,hd,by simpa using hs⟩,?_⟩
  have e:=r.length
  simp only [Array.length_toList] at e
  omega
theorem Inv.tupleP (I:Inv X pins σ H s) (h:SqT X.K H a xs):∃ its:List Value,Vals xs its∧PTup s.heap a its.toArray∧xs.length≤sizeLine:=by
 rcases h with h | ⟨o,its,n,hk,hc,hd0,hs,hz,r⟩
 ·obtain ⟨z,its,r,p⟩:=h.ok I.hok
  exact ⟨its,r,p,z⟩
 ·refine ⟨its.toList,r,⟨o,I.kIn a o hk,hc,hd0,n,by simpa using hs⟩,?_⟩
  have e:=r.length
  simp only [Array.length_toList] at e
  omega
theorem Inv.tuple (I:Inv X pins σ H s) (h:SqT X.K H a xs):∃ its:List Value,Vals xs its∧IsTup s.heap a its.toArray∧xs.length≤sizeLine :=
 let ⟨its,r,p,z⟩:=I.tupleP h
 ⟨its,r,p.tup,z⟩
theorem Inv.list_inj (I:Inv X pins σ H s) (h:SqL X.K H a xs) (h':SqL X.K H a ys):xs=ys:=by
 obtain ⟨its,r,⟨o,n,e,_,_,d⟩,_⟩:=I.list h
 obtain ⟨its',r',⟨o',n',e',_,_,d'⟩,_⟩:=I.list h'
 rw [e] at e';cases e'
 rw [d] at d'
 injection d' with d1 _
 have:its=its':=by simpa using congrArg Array.toList d1
 subst this
 exact r.inj r'
theorem Inv.tuple_inj (I:Inv X pins σ H s) (h:SqT X.K H a xs) (h':SqT X.K H a ys):xs=ys:=by
 obtain ⟨its,r,⟨o,e,_,n,d⟩,_⟩:=I.tuple h
 obtain ⟨its',r',⟨o',e',_,n',d'⟩,_⟩:=I.tuple h'
 rw [e] at e';cases e'
 rw [d] at d'
 injection d' with d1 _
 have:its=its':=by simpa using congrArg Array.toList d1
 subst this
 exact r.inj r'
end
abbrev Cx.wish (X:Cx) (E:Value→Shared→Prop):Cx:={ X with xe:=E }
abbrev Cx.nox (X:Cx):Cx:=X.wish fun _ _=>False
theorem Cx.Ok.wish {X:Cx} (ok:X.Ok) (E:Value→Shared→Prop):(X.wish E).Ok :=
 ⟨ok.mod,ok.kind,ok.glob,ok.blt,ok.above,ok.inj,ok.has,ok.cab,ok.hd,ok.frames,ok.stk,ok.exf,ok.bs,ok.bsz,ok.noex,ok.exfs,ok.funs,ok.frf⟩
theorem Cx.Ok.unwish {X:Cx} {E:Value→Shared→Prop} (ok:(X.wish E).Ok):X.Ok :=
 ⟨ok.mod,ok.kind,ok.glob,ok.blt,ok.above,ok.inj,ok.has,ok.cab,ok.hd,ok.frames,ok.stk,ok.exf,ok.bs,ok.bsz,ok.noex,ok.exfs,ok.funs,ok.frf⟩
section
variable {X:Cx} {pins:List (Addr×Obj)} {σ:St} {H:Hp} {s:Shared} {E:Value→Shared→Prop}
theorem Inv.wish (I:Inv X pins σ H s) (E:Value→Shared→Prop):Inv (X.wish E) pins σ H s:=⟨I.ok.wish E,I.os,I.bare,I.base,I.loc,I.cell,I.free,I.freeC,I.pin,I.hok,I.len⟩
theorem Inv.unwish (I:Inv (X.wish E) pins σ H s):Inv X pins σ H s:=⟨I.ok.unwish,I.os,I.bare,I.base,I.loc,I.cell,I.free,I.freeC,I.pin,I.hok,I.len⟩
theorem SP.unwish {D:Ends} {f:Flow} {s':Shared} (h:SP (X.wish E) pins D f s'):SP X pins D f s':=by
 cases f with
 | next=>obtain ⟨σ',H',I,q⟩:=h;exact ⟨σ',H',I.unwish,q⟩
 | brk=>obtain ⟨σ',H',I,q⟩:=h;exact ⟨σ',H',I.unwish,q⟩
 | cont=>obtain ⟨σ',H',I,q⟩:=h;exact ⟨σ',H',I.unwish,q⟩
 | ret u=>obtain ⟨v,σ',H',I,r,q⟩:=h;exact ⟨v,σ',H',I.unwish,r,q⟩
theorem PSs.nox {st:List Stmt} {t:TS} (h:PSs X.nox st t):PSs X st t:=fun pins s σ H D I hw =>
 wpAny_mono (h pins s σ H D (I.wish _) hw) (fun _ _ q=>q.unwish) fun _ _ z=>False.elim z
end
section
variable {X:Cx} {st:Stmt} {rest:List Stmt} {t u:TS} {e:Expr} {te:TE} {pos:Pos}
noncomputable def tNext:TS:=fun D σ H=>D.nx σ H
noncomputable def tSeq (t u:TS):TS:=fun D σ H=>t { D with nx:=u D } σ H
theorem zaq:PSs X [] tNext:=fun _ _ σ H _ I h=>wpAny_execs_nil ⟨σ,H,I,h⟩
theorem Xab (h1:PS X st t) (h2:PSs X rest u):PSs X (st :: rest) (tSeq t u):=by
 intro pins s σ H D I h
 refine wpAny_execs_cons (thn (h1 pins s σ H { D with nx:=u D } I h) fun f s1 q=>?_)
 cases f with
 | next =>
  obtain ⟨σ',H',I',q⟩:=q
  exact h2 pins s1 σ' H' D I' q
 | ret v=>exact q
 | brk=>exact q
 | cont=>exact q
theorem zad (h1:PS X st t):PSs X [st] t:=by
 intro pins s σ H D I h
 refine wpAny_execs_cons (thn (h1 pins s σ H D I h) fun f s1 q=>?_)
 cases f with
 | next=>exact wpAny_execs_nil q
 | ret v=>exact q
 | brk=>exact q
 | cont=>exact q
theorem Inv.quiet {pins:List (Addr×Obj)} {σ:St} {H:Hp} {s:Shared} (I:Inv X pins σ H s):interactive X.env=false:=by simp [interactive,I.ok.kind]
noncomputable def tDrop (te:TE):TS:=fun D σ H=>te σ H fun _ H1=>D.nx σ H1
theorem xaF (he:PE X e te) (hs:swapsWith e none pos.line X.env=pure false:=by rfl):PS X (.Expr e pos) (tDrop te):=by
 intro pins s σ H D I h
 exact wpAny_Expr_any (thn (he pins s σ H _ I h) fun v s1 ⟨x,H1,I1,r1,q1⟩=>⟨σ,H1,I1,q1⟩) I.quiet hs
noncomputable def tRet (te:TE):TS:=fun D σ H=>te σ H D.rt
theorem Zaj (he:PE X e te):PS X (.Return (some e) pos) (tRet te):=by
 intro pins s σ H D I h
 exact wpAny_Return_some (thn (he pins s σ H _ I h) fun v s1 ⟨x,H1,I1,r1,q1⟩=>⟨x,σ,H1,I1,r1,q1⟩)
noncomputable def tIfS (c:TT) (t u:TS):TS:=fun D σ H=>c σ H fun b H1=>if b=true then t D σ H1 else u D σ H1
theorem yaI {c:Expr} {a b:List Stmt} {tc:TT} (hc:PT X c tc) (ha:PSs X a t) (hb:PSs X b u):PS X (.If c a b pos) (tIfS tc t u):=by
 intro pins s σ H D I h
 refine wpAny_If (thn (hc pins s σ H _ I h) fun d s1 ⟨H1,I1,q1⟩=>?_)
 cases d with
 | true=>exact ha pins s1 σ H1 D I1 q1
 | false=>exact hb pins s1 σ H1 D I1 q1
end
abbrev TG:=V→St→Hp→(St→Hp→Prop)→Prop
abbrev TGs:=List V→St→Hp→(St→Hp→Prop)→Prop
noncomputable def PG (X:Cx) (target:Expr) (t:TG):Prop :=
 ∀ (pins:List (Addr×Obj)) (s:Shared) (σ:St) (H:Hp) (v:V) (u:Value) (Q:St→Hp→Prop),Inv X pins σ H s→RelV v u→t v σ H Q →
  wpAny (model X.prog X.w) X.A (assign target X.env u) (fun _ s'=>∃ σ' H',Inv X pins σ' H' s'∧Q σ' H') X.xe s
noncomputable def PGs (X:Cx) (ts:List Expr) (t:TGs):Prop :=
 ∀ (pins:List (Addr×Obj)) (s:Shared) (σ:St) (H:Hp) (vs:List V) (us:List Value) (Q:St→Hp→Prop),Inv X pins σ H s→Vals vs us→t vs σ H Q →
  wpAny (model X.prog X.w) X.A (assignInOrder ((assignEach ts X.env).map (·.2)) us) (fun _ s'=>∃ σ' H',Inv X pins σ' H' s'∧Q σ' H') X.xe s
abbrev TSet:=V→V→V→Hp→(Hp→Prop)→Prop
noncomputable def PSet (X:Cx) (t:TSet):Prop :=
 ∀ (pins:List (Addr×Obj)) (s:Shared) (σ:St) (H:Hp) (o i v:V) (ov iv u:Value) (Q:Hp→Prop),Inv X pins σ H s→RelV o ov→RelV i iv→RelV v u→t o i v H Q →
  wpAny (model X.prog X.w) X.A (setItem ov iv u) (fun _ s'=>∃ H',Inv X pins σ H' s'∧Q H') X.xe s
section
variable {X:Cx} {pos:Pos}
noncomputable def gName (i:Nat):TG:=fun v σ H Q=>Q (σ.set i (some v)) H
theorem xaf {i:Nat} {x:Str} (hN:X.N.Nodup) (hi:X.N[i]?=some x) (hx:Loc X.env.scope x) (hf:X.fn x=true∨X.env.scope.names.lookup x=some .local:=by first | exact .inl rfl | exact .inr rfl | assumption):PG X (.Name x pos) (gName i):=by
 intro pins s σ H v u Q I r h
 exact wpAny_assign_Name (xaS I hN hi hx r (fun s' I'=>⟨_,H,I',h⟩) hf)
noncomputable def gNil:TGs:=fun vs σ H Q=>vs=[]∧Q σ H
noncomputable def gCons (t:TG) (u:TGs):TGs:=fun vs σ H Q=>∃ v r,vs=v :: r∧t v σ H fun σ' H'=>u r σ' H' Q
theorem XaO:PGs X [] gNil:=by
 intro pins s σ H vs us Q I r h
 obtain ⟨e,h⟩:=h
 subst e
 cases r
 exact assignInOrder_nil ⟨σ,H,I,h⟩
theorem Xao {e:Expr} {es:List Expr} {t:TG} {u:TGs} (h1:PG X e t) (h2:PGs X es u)
  (hs:(assignEach (e :: es) X.env).map (·.2)=assign e X.env :: (assignEach es X.env).map (·.2):=by rfl):PGs X (e :: es) (gCons t u):=by
 intro pins s σ H vs us Q I r h
 obtain ⟨v,vr,e1,h⟩:=h
 subst e1
 cases r with
 | cons r rr =>
  rw [hs]
  refine assignInOrder_cons (thn (h1 pins s σ H _ _ _ I r h) fun _ s1 ⟨σ1,H1,I1,q1⟩=>?_)
  exact h2 pins s1 σ1 H1 _ _ Q I1 rr q1
noncomputable def gTup (K:PySem.W.Frag) (n:Nat) (t:TGs):TG:=fun v σ H Q=>∃ a xs,v=.ref a∧SqT K H a xs∧xs.length=n∧t xs σ H Q
theorem XaY {es:List Expr} {k:Nat} {t:TGs} {n:Nat} (hc:X.calm=true) (h:PGs X es t)
  (hn:(assignEach es X.env).length=n:=by rfl) (hst:(assignEach es X.env).findIdx? (·.1)=none:=by rfl):PG X (.Tuple es k pos) (gTup X.K n t):=by
 intro pins s σ H v u Q I r hw
 obtain ⟨a,xs,e1,hq,hl,hw⟩:=hw
 subst e1
 cases r
 obtain ⟨its,rv,ht,hz⟩:=I.tuple hq
 refine assign_Tuple_tuple (I.ok.hd hc) ht (by simp [hn,← hl,rv.length]) hst fun h' hx=>?_
 have I1:Inv X pins σ H { s with heap:=h' }:=I.kept (t':=s.toks) fun b o e=>hx b o (Nat.ne_of_lt (Heap.lt_size e)) e
 exact h pins _ σ H xs _ Q I1 (by simpa using rv) hw
noncomputable def gSub (to ti:TE) (t:TSet):TG:=fun v σ H Q=>to σ H fun o H1=>ti σ H1 fun i H2=>t o i v H2 fun H3=>Q σ H3
theorem ya6 {o i:Expr} {to ti:TE} {t:TSet} (ho:PE X o to) (hi:PE X i ti) (hs:PSet X t)
  (ha:∀ v,assign (.Subscript o i pos) X.env v=(do
   let ov ← holding [v] (eval o X.env)
   let iv ← holding [v,ov] (eval i X.env)
   standAt pos
   holding [v,ov,iv] (setItem ov iv v)
   release [v,ov,iv] []):=by intro _;rfl):PG X (.Subscript o i pos) (gSub to ti t):=by
 intro pins s σ H v u Q I r h
 rw [ha]
 refine wpAny_bind (wpAny_holding (thn (ho pins s σ H _ I h) fun ov s1 ⟨x,H1,I1,r1,q1⟩=>?_))
 refine wpAny_bind (wpAny_holding (thn (hi pins s1 σ H1 _ I1 q1) fun iv s2 ⟨y,H2,I2,r2,q2⟩=>?_))
 refine wpAny_bind (wpAny_standAt (wpAny_bind (wpAny_holding (thn (hs pins s2 σ H2 x y v ov iv u _ I2 r1 r2 r q2) fun _ s3 ⟨H3,I3,q3⟩=>?_))))
 exact wpAny_release ⟨σ,H3,I3,q3⟩
noncomputable def tAsg (te:TE) (g:TG):TS:=fun D σ H=>te σ H fun x H1=>g x σ H1 D.nx
theorem zaZ {tg e:Expr} {te:TE} {g:TG} (he:PE X e te) (hg:PG X tg g) (hs:swapsWithSole [tg] e pos.line X.env=pure false:=by rfl) (hw:swappedStores [tg] e X.env=pure none:=by rfl)
  (h1:(assignEach [tg] X.env).map (·.2)=[assign tg X.env]:=by rfl):PS X (.Assign [tg] e pos) (tAsg te g):=by
 intro pins s σ H D I h
 refine wpAny_Assign_stores (thn (he pins s σ H _ I h) fun v s1 ⟨x,H1,I1,r1,q1⟩=>?_) hs hw
 rw [h1]
 exact thn (hg pins s1 σ H1 x v _ I1 r1 q1) fun _ s2 q=>q
theorem Zag {i:Nat} {x:Str} {e:Expr} {te:TE} {pos':Pos} (hN:X.N.Nodup) (hi:X.N[i]?=some x) (hx:Loc X.env.scope x) (he:PE X e te) (hs:swapsWith e (some (.Name x pos')) pos.line X.env=pure false:=by rfl) (hf:X.fn x=true∨X.env.scope.names.lookup x=some .local:=by first | exact .inl rfl | exact .inr rfl | assumption) :
  PS X (.Assign [.Name x pos'] e pos) (tAsg te (gName i)):=by
 intro pins s σ H D I h
 refine wpAny_Assign_Name (thn (he pins s σ H _ I h) fun v s1 ⟨y,H1,I1,r1,q1⟩=>?_) hs
 exact xaS I1 hN hi hx r1 (fun s2 I2=>⟨_,H1,I2,q1⟩) hf
noncomputable def tPar (i j:Nat) (ta:TA):TS:=fun D σ H=>ta σ H fun vs H1=>∃ v w,vs=[v,w]∧D.nx ((σ.set i (some v)).set j (some w)) H1
theorem Xbq {i j:Nat} {x y:Str} {a b:Expr} {ta:TA} {px py pt:Pos} {kt k2 pt2} (hc:X.calm=true) (hN:X.N.Nodup) (hi:X.N[i]?=some x) (hj:X.N[j]?=some y) (hij:i≠j)
  (hx:X.env.scope.names.lookup x=some .local) (hy:X.env.scope.names.lookup y=some .local) (ha:PA X [a,b] ta)
  (hw:swappedStores [.Tuple [.Name x px,.Name y py] kt pt] (.Tuple [a,b] k2 pt2) X.env=pure (some [x,y]))
  (hs:swapsWithSole [.Tuple [.Name x px,.Name y py] kt pt] (.Tuple [a,b] k2 pt2) pos.line X.env=pure false:=by rfl) :
  PS X (.Assign [.Tuple [.Name x px,.Name y py] kt pt] (.Tuple [a,b] k2 pt2) pos) (tPar i j ta):=by
 intro pins s σ H D I h
 rw [exec_Assign_arm]
 refine wpAny_bind (wpAny_standAt ?_)
 rw [hs]
 refine wpAny_bind (wpAny_pure ?_)
 rw [if_neg (by decide)]
 refine wpAny_bind (Tuple_ (thn (ha _ pins s σ H _ I h) fun us s1 ⟨vs,H1,I1,r1,q1⟩=>?_))
 obtain ⟨v,w,e1,q1⟩:=q1
 subst e1
 obtain ⟨u1,u2,rfl,rv,rw'⟩:∃ u1 u2,us=[u1,u2]∧RelV v u1∧RelV w u2:=by
  cases r1 with
  | cons p q =>
   cases q with
   | cons p' q' =>
    cases q'
    exact ⟨_,_,rfl,p,p'⟩
 refine wpAny_newObj_type ?_ (by show 2≤sizeLine;decide)
 have I2:Inv X pins σ H1 { s1 with heap:=s1.heap.push { cls:=.type "tuple",data:=.seq [u1,u2].toArray } }:=I1.kept (t':=s1.toks) fun b o e=>Heap.get?_push_of_some _ e
 rw [hw]
 refine wpAny_bind (wpAny_pure ?_)
 show wpAny (model X.prog X.w) X.A (do rule "assign.swapped-stores";let items ← unpackItems (.ref s1.heap.objs.size) 2 none;assignInOrder [fun v=>bindName X.env y v,fun v=>bindName X.env x v] items.reverse;pure Flow.next) _ _ _
 refine wpAny_bind (wpAny_rule (wpAny_bind (unpackItems_tuple (items:=#[u1,u2]) (I.ok.hd hc) (IsTup.new s1.heap _) fun h' hx'=>?_)))
 have I3:=I2.kept (h':=h') (t':=s1.toks) fun b o e=>hx' b o (Nat.ne_of_lt (Heap.lt_size e)) e
 show wpAny _ _ (assignInOrder [fun v=>bindName X.env y v,fun v=>bindName X.env x v] [u2,u1] >>= fun _=>pure Flow.next) _ _ _
 refine wpAny_bind (assignInOrder_cons (wpAny_bindName (xaS I3 hN hj (.inl hy) rw' (fun s2 I4=>?_) (.inr hy))))
 refine assignInOrder_cons (wpAny_bindName (xaS I4 hN hi (.inl hx) rv (fun s3 I5=>assignInOrder_nil (wpAny_pure ?_)) (.inr hx)))
 rw [List.set_comm _ _ (Ne.symm hij)] at I5
 exact ⟨_,H1,I5,q1⟩
end
section
variable {X:Cx} {pos:Pos}
noncomputable def tWhile (c:TT) (tb:TS):TS:=fun D σ H=>∃ W:Nat→St→Hp→Prop,(∃ m,W m σ H)∧∀ m σ H,W m σ H →
 c σ H fun b H1=>if b=true then ∃ N:St→Hp→Prop,(∀ σ' H',N σ' H'→∃ m',m' < m∧W m' σ' H')∧tb { D with nx:=N,ct:=N,bk:=D.nx } σ H1 else D.nx σ H1
theorem XaS {c:Expr} {body:List Stmt} {tc:TT} {tb:TS} (hp:PassesOwn (model X.prog X.w) X.A X.env X.xe) (hc:PT X c tc) (hb:PSs X body tb):PS X (.While c body [] pos) (tWhile tc tb):=by
 intro pins s σ H D I h
 obtain ⟨W,⟨m0,w0⟩,turn⟩:=h
 refine wpAny_While (codeAny_whileLoop (fun n s'=>∃ σ' H',Inv X pins σ' H' s'∧W n σ' H') ?_ m0 ⟨σ,H,I,w0⟩)
 rintro n s1 ⟨σ1,H1,I1,w1⟩
 refine wpAny_passesOwn hp (thn (hc pins s1 σ1 H1 _ I1 (turn n σ1 H1 w1)) fun b s2 ⟨H2,I2,q2⟩=>?_)
 cases b with
 | true =>
  obtain ⟨N,hN,q2⟩:=q2
  rw [if_pos rfl]
  refine wpAny_passesOwn hp (thn (hb pins s2 σ1 H2 _ I2 q2) fun f s3 q3=>?_)
  cases f with
  | next =>
   obtain ⟨σ3,H3,I3,n3⟩:=q3
   obtain ⟨m',hm,w3⟩:=hN σ3 H3 n3
   exact ⟨m',hm,σ3,H3,I3,w3⟩
  | cont =>
   obtain ⟨σ3,H3,I3,n3⟩:=q3
   obtain ⟨m',hm,w3⟩:=hN σ3 H3 n3
   exact ⟨m',hm,σ3,H3,I3,w3⟩
  | brk=>exact q3
  | ret v=>exact q3
 | false =>
  rw [if_neg Bool.false_ne_true]
  exact wpAny_execs_nil ⟨σ1,H2,I2,q2⟩
end
structure It where
 go:Nat→Hp→Prop
 yld:Nat→Hp→V→Hp→Prop
 stop:Nat→Hp→Prop
noncomputable def FpOk (X:Cx) (pins:List (Addr×Obj)) (H:Hp) (b:Addr):Prop :=
 H b=none∧b≠X.env.locals∧b ∉ X.fs∧(b∈X.ex∨X.s₀.heap.objs.size≤b)∧(∀ x c,X.env.cells.lookup x=some c→c≠b)∧∀ p∈X.pn ++ pins,p.1≠b
theorem Inv.fpOk {X:Cx} {pins:List (Addr×Obj)} {σ:St} {H H':Hp} {s:Shared} {b:Addr} (I:Inv X pins σ H s) (hb:s.heap.objs.size≤b) (hn:H' b=none):FpOk X pins H' b:=by
 refine ⟨hn,Nat.ne_of_gt (Nat.lt_of_lt_of_le I.lt hb),I.nofs hb,.inr (Nat.le_trans I.sz hb),fun x c e z=>?_,fun p hp z=>?_⟩
 ·obtain ⟨v,q⟩:=I.cell x c e
  exact absurd (Nat.lt_of_lt_of_le q.lt (by rw [z];exact hb)) (Nat.lt_irrefl _)
 ·exact absurd (Nat.lt_of_lt_of_le (Heap.lt_size (I.pin p hp).1) (by rw [z];exact hb)) (Nat.lt_irrefl _)
structure Turn (P:Program) (w:World) (K:PySem.W.Frag) (tg:Expr) (J:It) (fp:List Addr) (it:Addr) (tn:Nat→Heap→Prop):Prop where
 mem:it∈fp
 obj:∀ i h,tn i h→∀ b∈fp,∃ o,h.get? b=some o∧∀ v,o.data≠.cell v
 keep:∀ i h h',tn i h→(∀ b∈fp,∀ o,h.get? b=some o→h'.get? b=some o)→tn i h'
 item:∀ (X:Cx),X.prog=P→X.w=w→X.K=K→X.calm=true→∀ (i:Nat) (pins:List (Addr×Obj)) (s:Shared) (σ:St) (H:Hp) (E:Value→Shared→Prop),Inv X pins σ H s→(∀ b∈fp,FpOk X pins H b)→tn i s.heap→J.go i H →
  wpAny (model P w) X.A (pyNext (.ref it)) (fun r s1=>∃ u,r=some u ∧
   wpAny (model P w) X.A (letOwnedTupleGo tg (.ref it) u) (fun _ s2=>∃ x H',Inv X pins σ H' s2∧RelV x u∧J.yld i H x H'∧tn (i + 1) s2.heap∧∀ b∈fp,H' b=none) E s1) E s
 done:∀ (X:Cx),X.prog=P→X.w=w→X.K=K→X.calm=true→∀ (i:Nat) (pins:List (Addr×Obj)) (s:Shared) (σ:St) (H:Hp) (E:Value→Shared→Prop),Inv X pins σ H s→(∀ b∈fp,FpOk X pins H b)→tn i s.heap→J.stop i H →
  wpAny (model P w) X.A (pyNext (.ref it)) (fun r s1=>r=none∧Inv X pins σ H s1) E s
 self:∀ (A:Around) (i:Nat) (s:Shared) (Q:Value→Shared→Prop) (E:Value→Shared→Prop),tn i s.heap→Q (.ref it) s→wpAny (model P w) A (pyIter (.ref it)) Q E s
abbrev TI:=St→Hp→(It→Hp→Prop)→Prop
noncomputable def PIE (X:Cx) (pins:List (Addr×Obj)) (σ:St) (tg:Expr) (R:It→Hp→Prop) (itv:Value) (s2:Shared):Prop :=
 ∃ (it:Addr) (fp:List Addr) (tn:Nat→Heap→Prop) (J:It) (H':Hp),itv=.ref it∧Inv X pins σ H' s2∧Turn X.prog X.w X.K tg J fp it tn∧tn 0 s2.heap∧(∀ b∈fp,FpOk X pins H' b)∧R J H'
noncomputable def PI (X:Cx) (tg iter:Expr) (wi:TI):Prop :=
 ∀ (pins:List (Addr×Obj)) (s:Shared) (σ:St) (H:Hp) (R:It→Hp→Prop),Inv X pins σ H s→wi σ H R →
  wpAny (model X.prog X.w) X.A (eval iter X.env) (fun v s1=>wpAny (model X.prog X.w) X.A (pyIter v) (PIE X pins σ tg R) X.xe s1) X.xe s
theorem xbR {M:Model} {A:Around} {E:Value→Shared→Prop} {s:Shared} {tg:Expr} {it:Addr} {u:Value} {o:Obj} {n:String} {vs:Array Value} {Q:Unit→Shared→Prop} (ho:s.heap.get? it=some o) (hc:o.cls=.type n) (hd:o.data=.fields vs)
  (hn:["enumerate","zip","dict_itemiterator","dict_reverseitemiterator","odict_iterator","itertools.zip_longest","itertools.pairwise"].contains n=false) (hQ:Q () s):wpAny M A (letOwnedTupleGo tg (.ref it) u) Q E s:=by
 unfold letOwnedTupleGo
 cases tg <;> first
  | exact wpAny_pure hQ
  | (cases u <;> first
    | exact wpAny_pure hQ
    | (refine wpAny_bind (wpAny_load ho ?_)
       rw [hc,hd]
       show wpAny M A (if (["enumerate","zip","dict_itemiterator","dict_reverseitemiterator","odict_iterator","itertools.zip_longest","itertools.pairwise"].contains n && vs[0]? == some (rawInt _))=true then _ else _) Q E s
       rw [if_neg (by intro h;rw [hn,Bool.false_and] at h;cases h)]
       exact wpAny_pure hQ))
noncomputable def Itl (K:PySem.W.Frag) (a:Addr):It :=
 ⟨fun i H=>∃ xs x,SqL K H a xs∧xs[i]?=some x,fun i H x H'=>H'=H∧∀ xs,SqL K H a xs→xs[i]?=some x,fun i H=>∃ xs,SqL K H a xs∧xs.length≤i⟩
noncomputable def Itt (K:PySem.W.Frag) (a:Addr):It :=
 ⟨fun i H=>∃ xs x,SqT K H a xs∧xs[i]?=some x,fun i H x H'=>H'=H∧∀ xs,SqT K H a xs→xs[i]?=some x,fun i H=>∃ xs,SqT K H a xs∧xs.length≤i⟩
noncomputable def Itr (lo:Int) (n:Nat):It:=⟨fun i _=>i < n,fun i H x H'=>H'=H∧x=.int (lo + i),fun i _=>n≤i⟩
theorem zbr {P:Program} {w:World} {K:PySem.W.Frag} {tg:Expr} (a it:Addr):Turn P w K tg (Itl K a) [it] it (fun i h=>h.IsListIter it a i) where
 mem:=by simp
 obj:=fun i h st b hb=>by
  have e:b=it:=by simpa using hb
  subst e
  obtain ⟨o,e,c,d⟩:=st
  exact ⟨o,e,fun v z=>by rw [d] at z;cases z⟩
 keep:=fun i h h' st k=>st.at fun o e=>k it (by simp) o e
 item:=by
  intro X hP hw hK hc i pins s σ H E I hf st hg
  subst hP hw hK
  obtain ⟨xs,x,hq,hx⟩:=hg
  obtain ⟨its,rv,p,hz⟩:=I.list hq
  obtain ⟨u,hu,ru⟩:=rv.get hx
  obtain ⟨f0,f1,f2,f3,f4,f5⟩:=hf it (by simp)
  refine wpAny_pyNext_list_item st p.isList (x:=u) (by simpa using hu) fun h' st' sb=>?_
  have I1:Inv X pins σ H { s with heap:=h' }:=I.turned (t':=s.toks) (fun b o hb e=>(sb.2 b hb).trans e) f0 f1 f3 f4 f5
  obtain ⟨o,e,c,d⟩:=id st'
  exact ⟨u,rfl,xbR (s:={ s with heap:=h' }) e c d (by decide) ⟨x,H,I1,ru,⟨rfl,fun ys hy=>by rw [I.list_inj hy hq];exact hx⟩,st',fun b hb=>(hf b hb).1⟩⟩
 done:=by
  intro X hP hw hK hc i pins s σ H E I hf st hg
  subst hP hw hK
  obtain ⟨xs,hq,hx⟩:=hg
  obtain ⟨its,rv,p,hz⟩:=I.list hq
  obtain ⟨f0,f1,f2,f3,f4,f5⟩:=hf it (by simp)
  have hl:=rv.length
  exact wpAny_pyNext_list_end (I.ok.hd hc) st p.isList (by simp;omega) fun h' eb=>⟨rfl,I.turned (t':=s.toks) (fun b o hb e=>eb b o hb e) f0 f1 f3 f4 f5⟩
 self:=fun _ _ _ _ _ st h=>wpAny_pyIter_listiter st h
theorem Xbm {P:Program} {w:World} {K:PySem.W.Frag} {tg:Expr} (a it:Addr):Turn P w K tg (Itt K a) [it] it (fun i h=>h.IsTupleIter it a i) where
 mem:=by simp
 obj:=fun i h st b hb=>by
  have e:b=it:=by simpa using hb
  subst e
  obtain ⟨o,e,c,d⟩:=st
  exact ⟨o,e,fun v z=>by rw [d] at z;cases z⟩
 keep:=fun i h h' st k=>st.at fun o e=>k it (by simp) o e
 item:=by
  intro X hP hw hK hc i pins s σ H E I hf st hg
  subst hP hw hK
  obtain ⟨xs,x,hq,hx⟩:=hg
  obtain ⟨its,rv,p,hz⟩:=I.tuple hq
  obtain ⟨u,hu,ru⟩:=rv.get hx
  obtain ⟨f0,f1,f2,f3,f4,f5⟩:=hf it (by simp)
  refine wpAny_pyNext_tuple_item st (show s.heap.IsTuple a its.toArray from p) (x:=u) (by simpa using hu) fun h' st' sb=>?_
  have I1:Inv X pins σ H { s with heap:=h' }:=I.turned (t':=s.toks) (fun b o hb e=>(sb.2 b hb).trans e) f0 f1 f3 f4 f5
  obtain ⟨o,e,c,d⟩:=id st'
  exact ⟨u,rfl,xbR (s:={ s with heap:=h' }) e c d (by decide) ⟨x,H,I1,ru,⟨rfl,fun ys hy=>by rw [I.tuple_inj hy hq];exact hx⟩,st',fun b hb=>(hf b hb).1⟩⟩
 done:=by
  intro X hP hw hK hc i pins s σ H E I hf st hg
  subst hP hw hK
  obtain ⟨xs,hq,hx⟩:=hg
  obtain ⟨its,rv,p,hz⟩:=I.tuple hq
  obtain ⟨f0,f1,f2,f3,f4,f5⟩:=hf it (by simp)
  have hl:=rv.length
  exact wpAny_pyNext_tuple_end (I.ok.hd hc) st (show s.heap.IsTuple a its.toArray from p) (by simp;omega) fun h' eb=>⟨rfl,I.turned (t':=s.toks) (fun b o hb e=>eb b o hb e) f0 f1 f3 f4 f5⟩
 self:=fun _ _ _ _ _ st h=>wpAny_pyIter_tupleiter st h
theorem zbn {P:Program} {w:World} {K:PySem.W.Frag} {tg:Expr} (it:Addr) (lo:Int) (n:Nat):Turn P w K tg (Itr lo n) [it] it (fun i h=>IsRangeIter h it (lo + (i:Nat) * 1) ((n:Int) - (i:Nat)) 1) where
 mem:=by simp
 obj:=fun i h st b hb=>by
  have e:b=it:=by simpa using hb
  subst e
  exact ⟨_,st,fun v z=>by
   have z':Data.fields _=Data.cell v:=z
   cases z'⟩
 keep:=fun i h h' st k=>k it (by simp) _ st
 item:=by
  intro X hP hw hK hc i pins s σ H E I hf st hg
  subst hP hw hK
  obtain ⟨f0,f1,f2,f3,f4,f5⟩:=hf it (by simp)
  have W:=Walks.range (prog:=X.prog) (w:=X.w) (I.ok.hd hc) it lo 1 n
  refine W.item i s _ _ hg st fun v h' tk hv st' kk=>?_
  obtain ⟨t,rfl⟩:=hv
  have I1:Inv X pins σ H { s with heap:=h',toks:=tk }:=I.turned (fun b o hb e=>kk b o (by simpa using hb) e) f0 f1 f3 f4 f5
  refine ⟨_,rfl,xbR (s:={ s with heap:=h',toks:=tk }) (n:="range_iterator") st' rfl rfl (by decide) ⟨.int (lo + i),H,I1,⟨t,?_⟩,⟨rfl,rfl⟩,st',fun b hb=>(hf b hb).1⟩⟩
  rw [Int.mul_one]
 done:=by
  intro X hP hw hK hc i pins s σ H E I hf st hg
  subst hP hw hK
  obtain ⟨f0,f1,f2,f3,f4,f5⟩:=hf it (by simp)
  exact wpAny_pyNext_range_end (I.ok.hd hc) st (by have:n≤i:=hg;omega) fun h' eb=>⟨rfl,I.turned (t':=s.toks) (fun b o hb e=>eb b o hb e) f0 f1 f3 f4 f5⟩
 self:=fun _ _ _ _ _ st h=>wpAny_pyIter_rangeiter st h
end L2
namespace L2
open PySem PySem.Spec PyProof.Rows
section
variable {X:Cx} {tg:Expr}
noncomputable def iList (K:PySem.W.Frag) (tl:TE):TI:=fun σ H R=>tl σ H fun x H1=>∃ a,x=.ref a∧(∃ xs,SqL K H1 a xs)∧R (Itl K a) H1
noncomputable def iTup (K:PySem.W.Frag) (tl:TE):TI:=fun σ H R=>tl σ H fun x H1=>∃ a,x=.ref a∧(∃ xs,SqT K H1 a xs)∧R (Itt K a) H1
theorem XaT {l:Expr} {tl:TE} (hl:PE X l tl):PI X tg l (iList X.K tl):=by
 intro pins s σ H R I h
 refine thn (hl pins s σ H _ I h) fun v s1 ⟨x,H1,I1,r1,q1⟩=>?_
 obtain ⟨a,e,⟨xs,hq⟩,q⟩:=q1
 subst e
 cases r1
 obtain ⟨its,rv,p,hz⟩:=I1.list hq
 refine wpAny_pyIter_list p.isList ?_
 refine ⟨s1.heap.objs.size,[s1.heap.objs.size],_,_,H1,rfl,I1.kept (t':=s1.toks) fun b o e=>Heap.get?_push_of_some _ e,zbr a _,⟨_,Heap.get?_push_size _ rfl,rfl,rfl⟩,fun b hb=>?_,q⟩
 have e:b=s1.heap.objs.size:=by simpa using hb
 subst e
 exact I1.fpOk (Nat.le_refl _) (I1.hok.fresh (Nat.le_refl _))
theorem zaU {l:Expr} {tl:TE} (hl:PE X l tl):PI X tg l (iTup X.K tl):=by
 intro pins s σ H R I h
 refine thn (hl pins s σ H _ I h) fun v s1 ⟨x,H1,I1,r1,q1⟩=>?_
 obtain ⟨a,e,⟨xs,hq⟩,q⟩:=q1
 subst e
 cases r1
 obtain ⟨its,rv,p,hz⟩:=I1.tuple hq
 refine wpAny_pyIter_tuple (show s1.heap.IsTuple a its.toArray from p) ?_
 refine ⟨s1.heap.objs.size,[s1.heap.objs.size],_,_,H1,rfl,I1.kept (t':=s1.toks) fun b o e=>Heap.get?_push_of_some _ e,Xbm a _,⟨_,Heap.get?_push_size _ rfl,rfl,rfl⟩,fun b hb=>?_,q⟩
 have e:b=s1.heap.objs.size:=by simpa using hb
 subst e
 exact I1.fpOk (Nat.le_refl _) (I1.hok.fresh (Nat.le_refl _))
theorem XbE {pins:List (Addr×Obj)} {σ:St} {H:Hp} {s:Shared} {R:It→Hp→Prop} {E:Value→Shared→Prop} {lo hi:Int} {t u v:Tok} {tk:Nat} (I:Inv X pins σ H s) (h1:-(2 ^ 62)≤lo) (h2:lo < 2 ^ 62) (h3:-(2 ^ 62)≤hi) (h4:hi < 2 ^ 62)
  (q:R (Itr lo (hi - lo).toNat) H):wpAny (model X.prog X.w) X.A (pyIter (.ref s.heap.objs.size)) (PIE X pins σ tg R) E { s with heap:=s.heap.push { cls:=.type "range",data:=.fields #[.int lo t,.int hi u,.int 1 v] },toks:=tk }:=by
 refine wpAny_pyIter_range (IsRange.new ..) (small_one h1 h2 h3 h4) ?_
 have I1:Inv X pins σ H { s with heap:=s.heap.push { cls:=.type "range",data:=.fields #[.int lo t,.int hi u,.int 1 v] },toks:=tk }:=I.kept fun b o e=>Heap.get?_push_of_some _ e
 refine ⟨(s.heap.push { cls:=.type "range",data:=.fields #[.int lo t,.int hi u,.int 1 v] }).objs.size,[(s.heap.push { cls:=.type "range",data:=.fields #[.int lo t,.int hi u,.int 1 v] }).objs.size],_,_,H,rfl,
  I1.kept (t':=tk) fun b o e=>Heap.get?_push_of_some _ e,zbn _ lo (hi - lo).toNat,?_,fun b hb=>?_,q⟩
 ·have e1:lo + ((0:Nat):Int) * 1=lo:=by simp
  have e2:(((hi - lo).toNat:Nat):Int) - ((0:Nat):Int)=Builtin.Range.rangeSize lo hi 1:=by rw [rangeSize_one];split <;> omega
  show IsRangeIter _ _ (lo + ((0:Nat):Int) * 1) ((((hi - lo).toNat:Nat):Int) - ((0:Nat):Int)) 1
  rw [e1,e2]
  exact Heap.get?_push_size _ rfl
 ·have e:b=(s.heap.push { cls:=.type "range",data:=.fields #[.int lo t,.int hi u,.int 1 v] }).objs.size:=by simpa using hb
  subst e
  exact I1.fpOk (Nat.le_refl _) (I1.hok.fresh (Nat.le_refl _))
noncomputable def iRng1 (ta:TA):TI:=fun σ H R=>ta σ H fun vs H1=>∃ j:Int,vs=[.int j]∧-(2 ^ 62)≤j∧j < 2 ^ 62∧R (Itr 0 j.toNat) H1
theorem Zai {a:Expr} {ta:TA} {p pos:Pos} (hg:Gl X "range") (hm:X.mg "range" = none) (ha:PA X [a] ta) (hs:starEach [a] X.env=[(false,eval a X.env)]:=by rfl):PI X tg (.Call (.Name "range" p) [a] [] pos) (iRng1 ta):=by
 intro pins s σ H R I h
 refine Call_ (xaY I hg hm boot_range (PyProof.Rows.callWith_type1 (thn (ha pos pins s σ H _ I h) fun us s1 ⟨vs,H1,I1,r1,q1⟩=>?_) hs rfl))
 obtain ⟨j,e,q1,q2,q⟩:=q1
 subst e
 cases r1 with
 | cons r rr =>
  cases rr
  obtain ⟨t,rfl⟩:=r
  exact call_range_1 (XbE I1 (by omega) (by omega) q1 q2 (by simpa using q))
noncomputable def tFor (wi:TI) (g:TG) (tb:TS):TS:=fun D σ H=>wi σ H fun J H1=>∃ W:Nat→Nat→St→Hp→Prop,(∃ m,W 0 m σ H1)∧∀ i m σ H,W i m σ H →
 (J.stop i H∧D.nx σ H)∨(J.go i H∧∃ N:St→Hp→Prop,(∀ σ' H',N σ' H'→∃ m',m' < m∧W (i + 1) m' σ' H')∧∀ x H',J.yld i H x H'→g x σ H' fun σ2 H2=>tb { D with nx:=N,ct:=N,bk:=D.nx } σ2 H2)
noncomputable def pinsAt (fp:List Addr) (h:Heap):List (Addr×Obj):=fp.filterMap fun b=>(h.get? b).map fun o=>(b,o)
theorem zaK {fp:List Addr} {h:Heap} {b:Addr} {o:Obj} (hb:b∈fp) (e:h.get? b=some o):(b,o)∈pinsAt fp h:=List.mem_filterMap.mpr ⟨b,hb,by rw [e];rfl⟩
theorem ybr {fp:List Addr} {h:Heap} {p:Addr×Obj} (hp:p∈pinsAt fp h):p.1∈fp∧h.get? p.1=some p.2:=by
 obtain ⟨b,hb,e⟩:=List.mem_filterMap.mp hp
 cases q:h.get? b with
 | none=>rw [q] at e;cases e
 | some o =>
  rw [q] at e
  have e':(b,o)=p:=Option.some.inj e
  subst e'
  exact ⟨hb,q⟩
theorem Inv.pinned {pins:List (Addr×Obj)} {σ:St} {H:Hp} {s:Shared} {fp:List Addr} (I:Inv X pins σ H s) (hf:∀ b∈fp,FpOk X pins H b) (ho:∀ b∈fp,∃ o,s.heap.get? b=some o∧∀ v,o.data≠.cell v):Inv X (pins ++ pinsAt fp s.heap) σ H s :=
 I.pins_of fun p hp=>(List.mem_append.mp hp).elim (fun z=>I.pin p (List.mem_append_right _ z)) fun z=>by
  obtain ⟨hb,e⟩:=ybr z
  obtain ⟨f0,f1,f2,_⟩:=hf p.1 hb
  obtain ⟨o,e',d⟩:=ho p.1 hb
  rw [e] at e';cases e'
  exact ⟨e,f0,f1,f2,d⟩
theorem Inv.unpinned {pins pl:List (Addr×Obj)} {σ:St} {H:Hp} {s:Shared} (I:Inv X (pins ++ pl) σ H s):Inv X pins σ H s:=I.pins_of fun p hp=>I.pin p (List.mem_append_right _ (List.mem_append_left _ hp))
theorem ZaC {iter:Expr} {body:List Stmt} {wi:TI} {g:TG} {tb:TS} {pos:Pos} (hp:PassesOwn (model X.prog X.w) X.A X.env X.xe) (hc:X.calm=true) (hi:PI X tg iter wi) (hg:PG X tg g) (hb:PSs X body tb)
  (hs:∀ x,foldedSetIterable iter X.env x=pure x:=by intro _;rfl):PS X (.For tg iter body [] pos) (tFor wi g tb):=by
 intro pins s σ H D I h
 refine wpAny_For (thn (hi pins s σ H _ I h) fun v s1 h1=>thn h1 fun itv s2 h2=>?_) hs
 obtain ⟨it,fp,tn,J,H2,e,I2,T,st2,f2,W,⟨m0,w0⟩,turn⟩:=h2
 subst e
 have stat:∀ {H':Hp},(∀ b∈fp,H' b=none)→∀ b∈fp,FpOk X pins H' b:=fun hn b hb=>⟨hn b hb,(f2 b hb).2⟩
 refine codeAny_forLoop_any (fun n s'=>∃ i σ' H',Inv X pins σ' H' s'∧tn i s'.heap∧(∀ b∈fp,H' b=none)∧W i n σ' H') ?_ m0 ⟨0,σ,H2,I2,st2,fun b hb=>(f2 b hb).1,w0⟩
 rintro n s3 ⟨i,σ3,H3,I3,st3,fr3,w3⟩
 rcases turn i n σ3 H3 w3 with ⟨stop,qn⟩ | ⟨go,N,hN,step⟩
 ·refine wpAny_passesOwn hp (thn (T.done X rfl rfl rfl hc i pins s3 σ3 H3 X.xe I3 (stat fr3) st3 stop) fun r s4 ⟨hr,I4⟩=>?_)
  subst hr
  exact wpAny_execs_nil ⟨σ3,H3,I4,qn⟩
 ·refine wpAny_passesOwn hp (thn (T.item X rfl rfl rfl hc i pins s3 σ3 H3 X.xe I3 (stat fr3) st3 go) fun r s4 ⟨u,hr,h4⟩=>?_)
  subst hr
  refine wpAny_passesOwn hp (thn h4 fun _ s5 ⟨x,H5,I5,r5,y5,st5,fr5⟩=>?_)
  have I5':=I5.pinned (stat fr5) (T.obj _ _ st5)
  refine wpAny_passesOwn hp (thn (hg _ s5 σ3 H5 x u _ I5' r5 (step x H5 y5)) fun _ s6 ⟨σ6,H6,I6,q6⟩=>?_)
  refine wpAny_passesOwn hp (thn (hb _ s6 σ6 H6 _ I6 q6) fun f s7 q7=>?_)
  have again:∀ {σ7:St} {H7:Hp},Inv X (pins ++ pinsAt fp s5.heap) σ7 H7 s7→N σ7 H7→∃ m,m < n∧∃ i σ' H',Inv X pins σ' H' s7∧tn i s7.heap∧(∀ b∈fp,H' b=none)∧W i m σ' H':=fun {σ7 H7} I7 n7=>by
   obtain ⟨m',hm,w7⟩:=hN σ7 H7 n7
   refine ⟨m',hm,i + 1,σ7,H7,I7.unpinned,T.keep _ _ _ st5 fun b hb o e=>(I7.pin (b,o) (List.mem_append_right _ (List.mem_append_right _ (zaK hb e)))).1,fun b hb=>?_,w7⟩
   obtain ⟨o,e,d⟩:=T.obj _ _ st5 b hb
   exact (I7.pin (b,o) (List.mem_append_right _ (List.mem_append_right _ (zaK hb e)))).2.1
  cases f with
  | next=>obtain ⟨σ7,H7,I7,n7⟩:=q7;exact again I7 n7
  | cont=>obtain ⟨σ7,H7,I7,n7⟩:=q7;exact again I7 n7
  | brk=>obtain ⟨σ7,H7,I7,q7⟩:=q7;exact ⟨σ7,H7,I7.unpinned,q7⟩
  | ret v=>obtain ⟨x7,σ7,H7,I7,r7,q7⟩:=q7;exact ⟨x7,σ7,H7,I7.unpinned,r7,q7⟩
end
end L2
namespace L2
open PySem PySem.Spec PyProof.Rows
abbrev R2:=V→V→Hp→VK→Prop
noncomputable def OpR (X:Cx) (f:Value→Value→Sem Value) (r:R2):Prop :=
 ∀ (pins:List (Addr×Obj)) (s:Shared) (σ:St) (H:Hp) (x y:V) (v u:Value) (Q:VK),Inv X pins σ H s→RelV x v→RelV y u→r x y H Q →
  wpAny (model X.prog X.w) X.A (f v u) (EP X pins σ Q) X.xe s
noncomputable def UnR (X:Cx) (f:Value→Sem Value) (r:V→Hp→VK→Prop):Prop :=
 ∀ (pins:List (Addr×Obj)) (s:Shared) (σ:St) (H:Hp) (x:V) (v:Value) (Q:VK),Inv X pins σ H s→RelV x v→r x H Q →
  wpAny (model X.prog X.w) X.A (f v) (EP X pins σ Q) X.xe s
noncomputable def CallR (X:Cx) (f:Value) (r:List V→Hp→VK→Prop):Prop :=
 ∀ (pins:List (Addr×Obj)) (s:Shared) (σ:St) (H:Hp) (xs:List V) (us:List Value) (Q:VK),Inv X pins σ H s→Vals xs us→r xs H Q →
  wpAny (model X.prog X.w) X.A (call f us) (EP X pins σ Q) X.xe s
noncomputable def tOp (r:R2) (ta tb:TE):TE:=fun σ H Q=>ta σ H fun x H1=>tb σ H1 fun y H2=>r x y H2 Q
noncomputable def tUn (r:V→Hp→VK→Prop) (ta:TE):TE:=fun σ H Q=>ta σ H fun x H1=>r x H1 Q
noncomputable def rI (C:Int→Int→Prop) (g:Int→Int→V):R2:=fun x y H Q=>∃ i j,x=.int i∧y=.int j∧C i j∧Q (g i j) H
noncomputable def rI0 (g:Int→Int→V):R2:=fun x y H Q=>∃ i j,x=.int i∧y=.int j∧Q (g i j) H
noncomputable def rU (g:Int→V):V→Hp→VK→Prop:=fun x H Q=>∃ i,x=.int i∧Q (g i) H
section
variable {X:Cx} {a b c:Expr} {ta tb tc:TE} {pos:Pos}
theorem binT (ha:PE X a ta) (hb:PE X b tb) {pins:List (Addr×Obj)} {s:Shared} {σ:St} {H:Hp} {R:V→V→Hp→Prop} (I:Inv X pins σ H s)
  (h:ta σ H fun x H1=>tb σ H1 fun y H2=>R x y H2) {Q:Value→Shared→Prop} {f:Value→Value→Sem Value}
  (hf:∀ v u s2 x y H2,Inv X pins σ H2 s2→RelV x v→RelV y u→R x y H2→wpAny (model X.prog X.w) X.A (f v u) Q X.xe s2) :
  wpAny (model X.prog X.w) X.A (eval a X.env) (fun v s₁=>wpAny (model X.prog X.w) X.A (eval b X.env) (fun u s₂=>wpAny (model X.prog X.w) X.A (f v u) Q X.xe s₂) X.xe s₁) X.xe s:=by
 refine thn (ha pins s σ H _ I h) fun v s1 ⟨x,H1,I1,r1,q1⟩=>?_
 refine thn (hb pins s1 σ H1 _ I1 q1) fun u s2 ⟨y,H2,I2,r2,q2⟩=>?_
 exact hf v u s2 x y H2 I2 r1 r2 q2
theorem Yah {op:Operator} {r:R2} (ho:OpR X (binaryOp op) r) (ha:PE X a ta) (hb:PE X b tb):PE X (.BinOp a op b pos) (tOp r ta tb):=by
 intro pins s σ H Q I h
 exact wpAny_BinOp (binT ha hb I h fun v u s2 x y H2 I2 rx ry q=>ho pins s2 σ H2 x y v u Q I2 rx ry q)
theorem pe_un {op:UnaryOp} {r:V→Hp→VK→Prop} (ho:UnR X (unaryOp op) r) (ha:PE X a ta):PE X (.UnaryOp op a pos) (tUn r ta):=by
 intro pins s σ H Q I h
 exact UnaryOp_ (thn (ha pins s σ H _ I h) fun v s1 ⟨x,H1,I1,r1,q1⟩=>ho pins s1 σ H1 x v Q I1 r1 q1)
theorem opI {f:Value→Value→Sem Value} {C:Int→Int→Prop} {g:Int→Int→Int}
  (rule:∀ (i j:Int) (t u:Tok) (s:Shared) (Q:Value→Shared→Prop) (E:Value→Shared→Prop),C i j→Q (.int (g i j) s.toks) { s with toks:=s.toks + 1 }→wpAny (model X.prog X.w) X.A (f (.int i t) (.int j u)) Q E s) :
  OpR X f (rI C fun i j=>.int (g i j)):=by
 intro pins s σ H x y v u Q I rx ry h
 obtain ⟨i,j,rfl,rfl,hc,q⟩:=h
 obtain ⟨t,rfl⟩:=rx
 obtain ⟨t',rfl⟩:=ry
 exact rule i j t t' s _ _ hc ⟨.int (g i j),H,I.tok _,⟨_,rfl⟩,q⟩
theorem opI0 {f:Value→Value→Sem Value} {g:Int→Int→Int}
  (rule:∀ (i j:Int) (t u:Tok) (s:Shared) (Q:Value→Shared→Prop) (E:Value→Shared→Prop),Q (.int (g i j) s.toks) { s with toks:=s.toks + 1 }→wpAny (model X.prog X.w) X.A (f (.int i t) (.int j u)) Q E s) :
  OpR X f (rI0 fun i j=>.int (g i j)):=by
 intro pins s σ H x y v u Q I rx ry h
 obtain ⟨i,j,rfl,rfl,q⟩:=h
 obtain ⟨t,rfl⟩:=rx
 obtain ⟨t',rfl⟩:=ry
 exact rule i j t t' s _ _ ⟨.int (g i j),H,I.tok _,⟨_,rfl⟩,q⟩
theorem opB0 {f:Value→Value→Sem Value} {g:Int→Int→Bool}
  (rule:∀ (i j:Int) (t u:Tok) (s:Shared) (Q:Value→Shared→Prop) (E:Value→Shared→Prop),Q (.bool (g i j)) s→wpAny (model X.prog X.w) X.A (f (.int i t) (.int j u)) Q E s) :
  OpR X f (rI0 fun i j=>.bl (g i j)):=by
 intro pins s σ H x y v u Q I rx ry h
 obtain ⟨i,j,rfl,rfl,q⟩:=h
 obtain ⟨t,rfl⟩:=rx
 obtain ⟨t',rfl⟩:=ry
 exact rule i j t t' s _ _ ⟨.bl (g i j),H,I,rfl,q⟩
noncomputable def CDiv (i j:Int):Prop:=0 < j∧j < 1073741824
noncomputable def CPow (i j:Int):Prop:=0≤j∧j≤1000000∧i.natAbs < 2 ^ 64
noncomputable def CMul (i j:Int):Prop:=(-(2 ^ 64) < i∧i < 2 ^ 64)∨(-(2 ^ 64) < j∧j < 2 ^ 64)
theorem CMul.ok {i j:Int} (h:CMul i j):IntMulOk i j:=by
 rcases h with ⟨h1,h2⟩ | ⟨h1,h2⟩
 ·exact .of_left (intBits_le_64 h1 h2)
 ·exact .of_right (intBits_le_64 h1 h2)
theorem Zay:OpR X (binaryOp .Add) (rI0 fun i j=>.int (i + j)):=opI0 fun _ _ _ _ _ _ _ q=>add_int q
theorem Zbr:OpR X (binaryOp .Sub) (rI0 fun i j=>.int (i - j)):=opI0 fun _ _ _ _ _ _ _ q=>sub_int q
theorem zaR:OpR X (binaryOp .Mult) (rI CMul fun i j=>.int (i * j)):=opI fun _ _ _ _ _ _ _ hc q=>mul_int q hc.ok
theorem Ybr:OpR X (binaryOp .FloorDiv) (rI CDiv fun i j=>.int (i / j)):=opI fun i j _ _ _ _ _ hc q=>by
 have h1:(0:Int) < j:=hc.1
 have h2:j < 1073741824:=hc.2
 exact floordiv_int (by omega) (by rw [Int.fdiv_eq_ediv_of_nonneg i (by omega)];exact q) (.inl (PyProof.noPylong_small (by omega)))
theorem ZaL:OpR X (binaryOp .Mod) (rI (fun _ j=>0 < j) fun i j=>.int (i % j)):=opI fun i j _ _ _ _ _ hc q=>by
 have h1:(0:Int) < j:=hc
 exact mod_int' (by omega) (by rw [Int.fmod_eq_emod_of_nonneg i (by omega)];exact q)
theorem xbN:OpR X (binaryOp .Pow) (rI CPow fun i j=>.int (i ^ j.toNat)):=opI fun _ _ _ _ _ _ _ hc q=>pow_int_small hc.1 hc.2.1 hc.2.2 q
theorem unI {f:Value→Sem Value} {g:Int→Int}
  (rule:∀ (i:Int) (t:Tok) (s:Shared) (Q:Value→Shared→Prop) (E:Value→Shared→Prop),Q (.int (g i) s.toks) { s with toks:=s.toks + 1 }→wpAny (model X.prog X.w) X.A (f (.int i t)) Q E s) :
  UnR X f (rU fun i=>.int (g i)):=by
 intro pins s σ H x v Q I rx h
 obtain ⟨i,rfl,q⟩:=h
 obtain ⟨t,rfl⟩:=rx
 exact rule i t s _ _ ⟨.int (g i),H,I.tok _,⟨_,rfl⟩,q⟩
theorem XbN:UnR X (unaryOp .USub) (rU fun i=>.int (-i)):=unI fun _ _ _ _ _ q=>neg_int q
end
noncomputable def scal:V→V→Bool
 | .non,.non=>true | .non,.int _=>true | .int _,.non=>true | .non,.bl _=>true | .bl _,.non=>true | .non,.str _=>true | .str _,.non=>true
 | .int _,.int _=>true | .bl _,.bl _=>true | .str _,.str _=>true | .byt _,.byt _=>true
 | .int _,.str _=>true | .str _,.int _=>true | .bl _,.str _=>true | .str _,.bl _=>true
 | _,_=>false
noncomputable def rEq:R2:=fun x y H Q=>scal x y=true∧Q (.bl (decide (x=y))) H
noncomputable def rNe:R2:=fun x y H Q=>scal x y=true∧Q (.bl (!decide (x=y))) H
theorem xbr {i j:Int}:decide (V.int i=V.int j)=(i == j):=by
 rw [Bool.eq_iff_iff]
 simp
theorem zbO {i j:Bool}:decide (V.bl i=V.bl j)=(i == j):=by
 rw [Bool.eq_iff_iff]
 simp
theorem Xbr {i j:Str}:decide (V.str i=V.str j)=(i == j):=by
 rw [Bool.eq_iff_iff]
 simp
theorem zbs {i j:Array UInt8}:decide (V.byt i=V.byt j)=(i.toList == j.toList):=by
 rw [Bool.eq_iff_iff]
 cases i
 cases j
 simp
section
variable {X:Cx} {a b c:Expr} {ta tb tc:TE} {pos:Pos}
theorem Xah {pins:List (Addr×Obj)} {σ:St} {H:Hp} {s:Shared} {Q:VK} {k k':Bool} (I:Inv X pins σ H s) (q:Q (.bl k) H) (e:k=k'):EP X pins σ Q (.bool k') s:=by
 subst e
 exact ⟨.bl k,H,I,rfl,q⟩
theorem ybd:OpR X (compareOp .Eq) rEq:=by
 intro pins s σ H x y v u Q I rx ry h
 obtain ⟨hs,q⟩:=h
 cases x with
 | non =>
  cases rx
  cases y with
  | non=>cases ry;exact PySem.EqNone.eq_none_none (Xah I q (by simp))
  | bl j=>cases ry;exact PySem.EqNone.eq_none_bool (Xah I q (by simp))
  | int j=>obtain ⟨t',rfl⟩:=ry;exact PySem.EqNone.eq_none_int (Xah I q (by simp))
  | str j=>obtain ⟨t',rfl⟩:=ry;exact PySem.EqNone.eq_none_str (Xah I q (by simp))
  | _=>exact absurd (show false=true from hs) Bool.false_ne_true
 | bl i =>
  cases rx
  cases y with
  | non=>cases ry;exact PySem.EqNone.eq_bool_none (Xah I q (by simp))
  | bl j=>cases ry;exact eq_bool (Xah I q zbO)
  | str j=>obtain ⟨t',rfl⟩:=ry;exact PySem.EqMixed.eq_bool_str (Xah I q (by simp))
  | _=>exact absurd (show false=true from hs) Bool.false_ne_true
 | int i =>
  obtain ⟨t,rfl⟩:=rx
  cases y with
  | non=>cases ry;exact PySem.EqNone.eq_int_none (Xah I q (by simp))
  | int j=>obtain ⟨t',rfl⟩:=ry;exact eq_int (Xah I q xbr)
  | str j=>obtain ⟨t',rfl⟩:=ry;exact PySem.EqMixed.eq_int_str (Xah I q (by simp))
  | _=>exact absurd (show false=true from hs) Bool.false_ne_true
 | str i =>
  obtain ⟨t,rfl⟩:=rx
  cases y with
  | non=>cases ry;exact PySem.EqNone.eq_str_none (Xah I q (by simp))
  | bl j=>cases ry;exact PySem.EqMixed.eq_str_bool (Xah I q (by simp))
  | int j=>obtain ⟨t',rfl⟩:=ry;exact PySem.EqMixed.eq_str_int (Xah I q (by simp))
  | str j=>obtain ⟨t',rfl⟩:=ry;exact eq_str (Xah I q Xbr)
  | _=>exact absurd (show false=true from hs) Bool.false_ne_true
 | byt i =>
  obtain ⟨t,rfl⟩:=rx
  cases y with
  | byt j=>obtain ⟨t',rfl⟩:=ry;exact PySem.W.eq_bytes (Xah I q zbs)
  | _=>exact absurd (show false=true from hs) Bool.false_ne_true
 | _=>cases y <;> exact absurd (show false=true from hs) Bool.false_ne_true
theorem XbR:OpR X (compareOp .NotEq) rNe:=by
 intro pins s σ H x y v u Q I rx ry h
 obtain ⟨hs,q⟩:=h
 cases x with
 | non =>
  cases rx
  cases y with
  | non=>cases ry;exact PySem.EqNone.ne_none_none (Xah I q (by simp))
  | bl j=>cases ry;exact PySem.EqNone.ne_none_bool (Xah I q (by simp))
  | int j=>obtain ⟨t',rfl⟩:=ry;exact PySem.EqNone.ne_none_int (Xah I q (by simp))
  | str j=>obtain ⟨t',rfl⟩:=ry;exact PySem.EqNone.ne_none_str (Xah I q (by simp))
  | _=>exact absurd (show false=true from hs) Bool.false_ne_true
 | bl i =>
  cases rx
  cases y with
  | non=>cases ry;exact PySem.EqNone.ne_bool_none (Xah I q (by simp))
  | bl j=>cases ry;exact ne_bool (Xah I q (congrArg not zbO))
  | str j=>obtain ⟨t',rfl⟩:=ry;exact PySem.EqMixed.ne_bool_str (Xah I q (by simp))
  | _=>exact absurd (show false=true from hs) Bool.false_ne_true
 | int i =>
  obtain ⟨t,rfl⟩:=rx
  cases y with
  | non=>cases ry;exact PySem.EqNone.ne_int_none (Xah I q (by simp))
  | int j=>obtain ⟨t',rfl⟩:=ry;exact ne_int (Xah I q (congrArg not xbr))
  | str j=>obtain ⟨t',rfl⟩:=ry;exact PySem.EqMixed.ne_int_str (Xah I q (by simp))
  | _=>exact absurd (show false=true from hs) Bool.false_ne_true
 | str i =>
  obtain ⟨t,rfl⟩:=rx
  cases y with
  | non=>cases ry;exact PySem.EqNone.ne_str_none (Xah I q (by simp))
  | bl j=>cases ry;exact PySem.EqMixed.ne_str_bool (Xah I q (by simp))
  | int j=>obtain ⟨t',rfl⟩:=ry;exact PySem.EqMixed.ne_str_int (Xah I q (by simp))
  | str j=>obtain ⟨t',rfl⟩:=ry;exact ne_str (Xah I q (congrArg not Xbr))
  | _=>exact absurd (show false=true from hs) Bool.false_ne_true
 | byt i =>
  obtain ⟨t,rfl⟩:=rx
  cases y with
  | byt j=>obtain ⟨t',rfl⟩:=ry;exact PySem.W.ne_bytes (Xah I q (congrArg not zbs))
  | _=>exact absurd (show false=true from hs) Bool.false_ne_true
 | _=>cases y <;> exact absurd (show false=true from hs) Bool.false_ne_true
theorem zbF:OpR X (compareOp .Lt) (rI0 fun i j=>.bl (decide (i < j))):=opB0 fun _ _ _ _ _ _ _ q=>lt_int q
theorem op_gt:OpR X (compareOp .Gt) (rI0 fun i j=>.bl (decide (j < i))):=opB0 fun _ _ _ _ _ _ _ q=>gt_int q
theorem op_ge:OpR X (compareOp .GtE) (rI0 fun i j=>.bl (decide (j≤i))):=opB0 fun _ _ _ _ _ _ _ q=>ge_int q
theorem nomark (b:Expr) {op:CmpOp} (h:op≠.In:=by decide) (h2:op≠.NotIn:=by decide):behindInMarks op b=false:=by
 have e1:(op == CmpOp.In)=false:=by cases op <;> first | rfl | exact absurd rfl h
 have e2:(op == CmpOp.NotIn)=false:=by cases op <;> first | rfl | exact absurd rfl h2
 cases b <;> simp [behindInMarks,e1,e2]
theorem ybs {op:CmpOp} {r:R2} (ho:OpR X (compareOp op) r) (ha:PE X a ta) (hb:PE X b tb) (hm:behindInMarks op b=false):PE X (.Compare a [op] [b] pos) (tOp r ta tb):=by
 intro pins s σ H Q I h
 exact wpAny_Compare1 (binT ha hb I h fun v u s2 x y H2 I2 rx ry q=>ho pins s2 σ H2 x y v u Q I2 rx ry q) hm
noncomputable def tTest (t:TE):TT:=fun σ H Q=>t σ H fun x H'=>∃ k,x=.bl k∧Q k H'
theorem zah {op:CmpOp} {r:R2} (ho:OpR X (compareOp op) r) (ha:PE X a ta) (hb:PE X b tb) (hm:behindInMarks op b=false):PT X (.Compare a [op] [b] pos) (tTest (tOp r ta tb)):=by
 intro pins s σ H Q I h
 refine wpAny_isTrue_Compare1 (thn (ha pins s σ H _ I h) fun v s1 ⟨x,H1,I1,r1,q1⟩=>thn (hb pins s1 σ H1 _ I1 q1) fun u s2 ⟨y,H2,I2,r2,q2⟩ =>
  thn (ho pins s2 σ H2 x y v u _ I2 r1 r2 q2) fun c s3 ⟨z,H3,I3,r3,k,e,q3⟩=>?_) hm
 subst e
 cases r3
 exact wpAny_truthy_bool ⟨H3,I3,q3⟩
theorem line63:(sizeLine:Nat) < 2 ^ 63:=by rw [sizeLine_eq];decide
theorem vals1 {x:V} {us:List Value} (r:Vals [x] us):∃ u,us=[u]∧RelV x u:=by
 cases r with
 | cons r1 r2=>cases r2;exact ⟨_,rfl,r1⟩
theorem vals2 {x y:V} {us:List Value} (r:Vals [x,y] us):∃ u w',us=[u,w']∧RelV x u∧RelV y w':=by
 cases r with
 | cons r1 r2 =>
  cases r2 with
  | cons r3 r4=>cases r4;exact ⟨_,_,rfl,r1,r3⟩
theorem Zbs (hc:X.calm=true):CallR X (.builtin "max") (fun xs H Q=>∃ i j,xs=[.int i,.int j]∧Q (.int (if j > i then j else i)) H):=by
 intro pins s σ H xs us Q I r h
 obtain ⟨i,j,rfl,q⟩:=h
 obtain ⟨u,w',rfl,⟨t,rfl⟩,⟨t',rfl⟩⟩:=vals2 r
 refine max_two_ints (I.ok.hd hc) fun h' tk k=>⟨_,H,I.kept k,?_,q⟩
 by_cases hj:j > i
 ·rw [if_pos hj,if_pos hj];exact ⟨_,rfl⟩
 ·rw [if_neg hj,if_neg hj];exact ⟨_,rfl⟩
end
end L2
namespace L2
open PySem PySem.Spec PyProof.Rows
section
variable {prog:Program} {w:World} {A:Around} {E:Value→Shared→Prop} {s:Shared} {K:PySem.W.Frag} {x dx C f:Addr} {mA:Str→Option Value} {name:Str} {v:Value}
end
theorem RelO.some_of {v:V} {o:Option Value} (r:RelO (some v) o):∃ u,o=some u∧RelV v u:=by
 cases o with
 | none=>exact (show False from r).elim
 | some u=>exact ⟨u,rfl,r⟩
section
variable {P:Program} {w:World} {H H':Hp} {h h':Heap} {a C dx:Addr} {fs fs':List (Str×V)}
end
section
variable {X:Cx} {pins:List (Addr×Obj)} {σ:St} {H:Hp} {s:Shared} {a C dx:Addr} {fs:List (Str×V)} {f:Str} {v:V} {A:Around} {E:Value→Shared→Prop}
end
section
variable {X:Cx} {o e value:Expr} {f:Str} {pos pos' tpos:Pos} {ta tv:TE}
end
section
variable {X:Cx} {pins:List (Addr×Obj)} {σ:St} {H:Hp} {s:Shared} {A:Around} {E:Value→Shared→Prop} {Q:Value→Shared→Prop} {c:Value} {b:Bool}
end
end L2
namespace L2
open PySem PySem.Spec PyProof.Rows
structure Room (k:Nat) (A:Around):Prop where
 hd:A.handled=none
 dp:A.depth + 3 * k + 5 < recursionLimit
 un:A.units + 16 * k + 200 < cLine
 gd:A.guards=some []
theorem Room.mono {j k:Nat} {A:Around} (r:Room k A) (h:j≤k):Room j A:=⟨r.hd,by have:=r.dp;omega,by have:=r.un;omega,r.gd⟩
theorem Room.deeper {k:Nat} {A:Around} (r:Room (k + 1) A) (env:Env):Room k (A.deeper env) :=
 ⟨r.hd,by have:=r.dp;show A.depth + 1 + 3 * k + 5 < _;omega,by have:=r.un;show A.units + 3 + 16 * k + 200 < _;omega,r.gd⟩
theorem Room.depth {k:Nat} {A:Around} (r:Room k A):A.depth < recursionLimit:=by have:=r.dp;omega
theorem Room.units {k:Nat} {A:Around} (r:Room k A):A.units + 64 < cLine:=by have:=r.un;omega
noncomputable def tNil:TA:=fun _ H Q=>Q [] H
noncomputable def tCons (ta:TE) (tr:TA):TA:=fun σ H Q=>ta σ H fun x H1=>tr σ H1 fun xs H2=>Q (x :: xs) H2
section
variable {X:Cx} {e:Expr} {es:List Expr} {te:TE} {t:TA} {pos:Pos}
theorem Yaa:PA X [] tNil:=fun _ _ _ _ H Q I h=>Calls.spliced_nil ⟨[],H,I,.nil,h⟩
theorem zaa (ha:PE X e te) (hr:PA X es t) (hs:starEach (e :: es) X.env=(false,eval e X.env) :: starEach es X.env:=by rfl):PA X (e :: es) (tCons te t):=by
 intro pos pins s σ H Q I h
 rw [hs]
 show wpAny _ _ (spliced ((false,eval e X.env) :: backTo pos (starEach es X.env))) _ _ s
 refine Calls.spliced_cons (thn (ha pins s σ H _ I h) fun u s1 ⟨x,H1,I1,r1,q1⟩=>?_)
 exact thn (hr pos pins s1 σ H1 _ I1 q1) fun us s2 ⟨xs,H2,I2,r2,q2⟩=>⟨x :: xs,H2,I2,.cons r1 r2,q2⟩
noncomputable def tTup (t:TA):TE:=fun σ H Q=>t σ H fun xs H1=>xs.length≤sizeLine∧∀ p,H1 p=none→Q (.ref p) (upd H1 p (.tup xs))
noncomputable def tLst (t:TA):TE:=fun σ H Q=>t σ H fun xs H1=>xs.length≤sizeLine∧∀ p,H1 p=none→Q (.ref p) (upd H1 p (.lst xs))
theorem zaE {x1} (h:PA X es t):PE X (.Tuple es x1 pos) (tTup t):=by
 intro pins s σ H Q I hq
 refine wpAny_Tuple_spliced (thn (h pos pins s σ H _ I hq) fun us s1 ⟨xs,H1,I1,r,z,q⟩=>⟨by rw [← r.length];exact z,?_⟩)
 have hf:H1 s1.heap.objs.size=none:=I1.hok.fresh (Nat.le_refl _)
 refine ⟨.ref s1.heap.objs.size,upd H1 s1.heap.objs.size (.tup xs),I1.laid (t':=s1.toks) (fun b u e=>Heap.get?_push_of_some _ e) (Nat.le_refl _) ?_,rfl,q _ hf⟩
 exact ⟨z,us,r,⟨_,Heap.get?_push_size _ rfl,rfl,rfl,_,rfl⟩⟩
theorem Yaw (h:PA X es t):PE X (.List es pos) (tLst t):=by
 intro pins s σ H Q I hq
 refine wpAny_List_spliced (thn (h pos pins s σ H _ I hq) fun us s1 ⟨xs,H1,I1,r,z,q⟩=>⟨by rw [← r.length];exact z,?_⟩)
 have hf:H1 s1.heap.objs.size=none:=I1.hok.fresh (Nat.le_refl _)
 refine ⟨.ref s1.heap.objs.size,upd H1 s1.heap.objs.size (.lst xs),I1.laid (t':=s1.toks) (fun b u e=>Heap.get?_push_of_some _ e) (Nat.le_refl _) ?_,rfl,q _ hf⟩
 exact ⟨z,us,0,r,Heap.get?_push_size _ rfl⟩
end
abbrev Sp:=List V→Hp→VK→XK→Prop
abbrev CXT:=List Env→Hp→Shared→XK→Value→Shared→Prop
structure Env0 (P:Program) (w:World) (K:PySem.W.Frag) (mg:Str→Option Value) (base:Heap) (A:Around) (outer:List Env) (s:Shared) (H:Hp):Prop where
 frames:A.frames=some outer
 mod:Mod K mg base
 bs:∀ b o,base.get? b=some o→s.heap.get? b=some o∧H b=none
 bsz:base.objs.size≤s.heap.objs.size
 funs:s.heap.FunFrames base outer
 frf:∀ b∈frs outer,H b=none
 hok:HOk P w H s.heap
 bare:AllBare s.gens
noncomputable def CE (outer:List Env) (P:Program) (w:World) (H:Hp) (s:Shared) (Q:VK) (u:Value) (s':Shared):Prop :=
 ∃ v H',s'.os=s.os∧AllBare s'.gens∧Un (frs outer) [] H H' s.heap s'.heap∧HOk P w H' s'.heap∧RelV v u∧Q v H'
noncomputable def CR (CX:CXT) (outer:List Env) (P:Program) (w:World) (H:Hp) (s:Shared) (Q:VK) (E:XK) (r:Result) (s':Shared):Prop :=
 match r with
 | .ok (.ret u)=>CE outer P w H s Q u s'
 | .ok _=>False
 | .error e=>CX outer H s E e s'
structure FnOk (P:Program) (w:World) (K:PySem.W.Frag) (mg:Str→Option Value) (base:Heap) (CX:CXT) (k:Nat) (f:Addr) (fd:FuncData) (ps:List Str) (sp:Sp):Prop where
 len:∀ vs H Q E,sp vs H Q E→vs.length=ps.length
 run:∀ (A:Around) (outer:List Env) (s:Shared) (H:Hp) (args:Args) (us:List Value) (vs:List V) (Q:VK) (E:XK),Room k A→Env0 P w K mg base A outer s H→BindsTo s fd args (ps.zip us)→Vals vs us→sp vs H Q E →
  codeAny (model P w) A (.call (.ref f) args) (CR CX outer P w H s Q E) s
theorem FnOk.imp {P:Program} {w:World} {K:PySem.W.Frag} {mg:Str→Option Value} {base:Heap} {CX:CXT} {k:Nat} {f:Addr} {fd:FuncData} {ps:List Str} {sp sp':Sp} (F:FnOk P w K mg base CX k f fd ps sp)
  (h:∀ vs H Q E,sp' vs H Q E→sp vs H Q E):FnOk P w K mg base CX k f fd ps sp' :=
 ⟨fun vs H Q E q=>F.len vs H Q E (h _ _ _ _ q),fun A outer s H args us vs Q E hr he hb hv hs=>F.run A outer s H args us vs Q E hr he hb hv (h _ _ _ _ hs)⟩
section
variable {X:Cx} {pins:List (Addr×Obj)} {σ:St} {H:Hp} {s s':Shared}
theorem Inv.env0 (I:Inv X pins σ H s):Env0 X.prog X.w X.K X.mg X.base X.A X.stack s H :=
 ⟨I.ok.frames,I.ok.mod,I.bs,Nat.le_trans I.ok.bsz I.sz,I.stack,I.stkFree,I.hok,I.bare⟩
theorem Inv.after {Q:VK} {u:Value} (I:Inv X pins σ H s) (h:CE X.stack X.prog X.w H s Q u s'):EP X pins σ Q u s':=by
 obtain ⟨v,H',os,bare,un,hok,r,q⟩:=h
 obtain ⟨hh,g,d,t,os'⟩:=s'
 obtain rfl:os'=s.os:=os
 exact ⟨v,H',I.call (h':=hh) (g':=g) (d':=d) (t':=t) (ch:=[]) un hok bare (fun b z=>absurd z (by simp)),r,q⟩
end
noncomputable def tCall (sp:Sp) (dvs:List V) (E:XK) (t:TA):TE:=fun σ H Q=>t σ H fun vs H1=>sp (vs ++ dvs) H1 Q E
noncomputable def Binds (K:PySem.W.Frag) (fd:FuncData) (ps:List Str) (ds:List Value):Prop :=
 ∀ (s:Shared) (us:List Value),K.In s.heap→(us ++ ds).length=ps.length→BindsTo s fd ⟨us,[]⟩ (ps.zip (us ++ ds))
theorem Binds.all {K:PySem.W.Frag} {fd:FuncData} {ps:List Str} (h:∀ us:List Value,us.length=ps.length→bindArgs fd ⟨us,[]⟩=pure (ps.zip us)):Binds K fd ps []:=fun s us _ hl=>by
 rw [List.append_nil] at hl ⊢
 exact .of_eq (h us hl)
noncomputable def Passes (CX:CXT) (X:Cx) (E:XK):Prop:=∀ (pins:List (Addr×Obj)) (σ:St) (H:Hp) (s:Shared) (e:Value) (s':Shared),Inv X pins σ H s→CX X.stack H s E e s'→X.xe e s'
section
variable {X:Cx} {CX:CXT} {k:Nat} {f C:Addr} {fd:FuncData} {ps:List Str} {sp:Sp} {dvs:List V} {ds:List Value} {E:XK} {x m:Str} {p pos apos:Pos} {e o:Expr} {es:List Expr} {ta:TE} {t:TA}
theorem run_fn {pins:List (Addr×Obj)} {σ:St} {H:Hp} {s:Shared} {Q:VK} {us:List Value} {vs:List V} (F:FnOk X.prog X.w X.K X.mg X.base CX k f fd ps sp) (hr:Room k X.A) (hb:Binds X.K fd ps ds) (hd:Vals dvs ds) (hx:Passes CX X E)
  (I:Inv X pins σ H s) (r:Vals vs us) (h:sp (vs ++ dvs) H Q E):wpAny (model X.prog X.w) X.A (call (.ref f) us) (EP X pins σ Q) X.xe s:=by
 have r2:Vals (vs ++ dvs) (us ++ ds):=r.append hd
 have hl:(us ++ ds).length=ps.length:=by rw [← r2.length];exact F.len _ _ _ _ h
 refine wpAny_call (codeAny_mono (F.run X.A X.stack s H ⟨us,[]⟩ (us ++ ds) (vs ++ dvs) Q E hr I.env0 (hb s us I.kIn hl) r2 h) fun r s' hq=>?_)
 cases r with
 | error e=>exact hx pins σ H s e s' I hq
 | ok fl =>
  cases fl with
  | ret u=>exact I.after hq
  | next=>exact False.elim hq
  | brk=>exact False.elim hq
  | cont=>exact False.elim hq
theorem Zae (F:FnOk X.prog X.w X.K X.mg X.base CX k f fd ps sp) (hr:Room k X.A) (hg:Gl X x) (hm:X.mg x=some (.ref f)) (hk:PySem.W.keepIn X.K (.ref f)=true) (hb:Binds X.K fd ps ds) (hd:Vals dvs ds) (hx:Passes CX X E)
  (ha:PA X (e :: es) t) (hdb:(x == ("__debug__" : Str))=false:=by decide) (he:starEach (e :: es) X.env=(false,eval e X.env) :: starEach es X.env:=by rfl) (hpl:(backTo pos (starEach es X.env)).any (·.1)=false:=by rfl) :
  PE X (.Call (.Name x p) (e :: es) [] pos) (tCall sp dvs E t):=by
 intro pins s σ H Q I h
 refine wpAny_Call_Name_kw (ZbR I hg hm ?_ hdb)
 refine PySem.W.callWith_K (h₀:=X.base) I.ok.mod.kin hk (thn (ha pos pins s σ H _ I h) fun us s1 ⟨vs,H1,I1,r,q⟩=>⟨I1.kIn,?_⟩) he hpl
 exact run_fn F hr hb hd hx I1 r q
end
section
variable {X:Cx} {CX:CXT} {k:Nat} {f C:Addr} {fd:FuncData} {ps ks:List Str} {sp:Sp} {E:XK} {x m:Str} {p pos apos kpos:Pos} {e o:Expr} {es:List Expr} {kws:List Keyword} {te ta:TE} {t tk:TA} {nm:Option Str}
variable {g:List Value→List Value→List Value} {gV:List V→List V→List V}
end
structure FnScope (N P:List Str) (sc:Scope):Prop where
 kind:sc.kind=.function
 co:sc.isCoroutine=false
 gen:sc.isGenerator=false
 nd:N.Nodup
 pre:N.take P.length=P
 par:∀ x∈P,sc.names.lookup x=some .local∨sc.names.lookup x=some .cell
 nofree:∀ y∈sc.names,y.2≠.free
theorem Za6 {kindOf:Str→Option NameKind} {x:Str}:∀ {binds:List (Str×Value)} {m:Str→Option Value},(∀ v,(x,v) ∉ binds)→bindL kindOf binds m x=m x
 | [],_,_=>rfl
 | (n,v) :: r,m,h=>by
  unfold bindL
  rw [Za6 fun w hw=>h w (List.mem_cons_of_mem _ hw)]
  split
  ·have:x≠n:=by rintro rfl;exact h v List.mem_cons_self
   simp [this]
  ·rfl
theorem Ya6 {kindOf:Str→Option NameKind} {x:Str}:∀ {binds:List (Str×Value)} {m:Str→Option Value},(∀ v,(x,v) ∉ binds)→bindC kindOf binds m x=m x
 | [],_,_=>rfl
 | (n,v) :: r,m,h=>by
  unfold bindC
  rw [Ya6 fun w hw=>h w (List.mem_cons_of_mem _ hw)]
  split
  ·rfl
  ·have:x≠n:=by rintro rfl;exact h v List.mem_cons_self
   simp [this]
theorem xa6 {kindOf:Str→Option NameKind} {x:Str} {v:Value}:∀ {P:List Str} {vs:List Value} {i:Nat} {m:Str→Option Value},P.Nodup→P[i]?=some x→vs[i]?=some v→kindOf x=some .local →
  bindL kindOf (P.zip vs) m x=some v
 | [],_,_,_,_,h,_,_=>by simp at h
 | _ :: _,[],_,_,_,_,h,_=>by simp at h
 | p :: P,w :: vs,0,m,nd,h1,h2,hk=>by
  simp at h1 h2;subst h1;subst h2
  show bindL kindOf ((p,w) :: P.zip vs) m p=_
  unfold bindL
  rw [Za6 fun v hv=>(List.nodup_cons.mp nd).1 (List.of_mem_zip hv).1,if_pos hk]
  simp
 | p :: P,w :: vs,i + 1,m,nd,h1,h2,hk=>by
  show bindL kindOf ((p,w) :: P.zip vs) m x=_
  unfold bindL
  exact xa6 (i:=i) (List.nodup_cons.mp nd).2 (by simpa using h1) (by simpa using h2) hk
theorem Xa6 {kindOf:Str→Option NameKind} {x:Str} {v:Value}:∀ {P:List Str} {vs:List Value} {i:Nat} {m:Str→Option Value},P.Nodup→P[i]?=some x→vs[i]?=some v→kindOf x≠some .local →
  bindC kindOf (P.zip vs) m x=some v
 | [],_,_,_,_,h,_,_=>by simp at h
 | _ :: _,[],_,_,_,_,h,_=>by simp at h
 | p :: P,w :: vs,0,m,nd,h1,h2,hk=>by
  simp at h1 h2;subst h1;subst h2
  show bindC kindOf ((p,w) :: P.zip vs) m p=_
  unfold bindC
  rw [Ya6 fun v hv=>(List.nodup_cons.mp nd).1 (List.of_mem_zip hv).1,if_neg hk]
  simp
 | p :: P,w :: vs,i + 1,m,nd,h1,h2,hk=>by
  show bindC kindOf ((p,w) :: P.zip vs) m x=_
  unfold bindC
  exact Xa6 (i:=i) (List.nodup_cons.mp nd).2 (by simpa using h1) (by simpa using h2) hk
noncomputable def start (N:List Str) (vs:List V):St:=vs.map some ++ List.replicate (N.length - vs.length) none
noncomputable def cxOf (CX:CXT) (P:Program) (w:World) (K:PySem.W.Frag) (mg:Str→Option Value) (base:Heap) (N:List Str) (qual:Str) (scope:Scope) (f:Addr) (cd:Value) (A:Around) (outer:List Env) (s:Shared) (H:Hp) (E:XK):Cx where
 prog:=P
 w:=w
 K:=K
 mg:=mg
 base:=base
 A:=A.deeper (envOfC qual scope s.heap.objs.size f cd)
 N:=N
 s₀:=s
 H₀:=H
 env:=envOfC qual scope s.heap.objs.size f cd
 outer:=outer
 stack:=envOfC qual scope s.heap.objs.size f cd :: outer
 ex:=[]
 calm:=true
 fn:=fun _=>true
 pn:=[]
 xe:=fun e s'=>wpAny (model P w) (A.deeper (envOfC qual scope s.heap.objs.size f cd)) («leaving» (envOfC qual scope s.heap.objs.size f cd) e) (fun _ s''=>CX outer H s E e s'') (fun e' s''=>CX outer H s E e' s'') s'
theorem Zbi {sc:Scope} {n:Nat} {x:Str} (h:sc.names.lookup x=some .cell):∃ c,(cellsFrom n sc.names []).lookup x=some c:=by
 have q:=PySem.W.cellsFrom_some sc.names n [] (.inl h)
 exact Option.isSome_iff_exists.mp q
theorem Ybs {CX:CXT} {P:Program} {w:World} {K:PySem.W.Frag} {mg:Str→Option Value} {base:Heap} {N ps:List Str} {qual:Str} {scope:Scope} {f:Addr} {cd:Value} {A:Around} {outer:List Env} {s s1:Shared} {H:Hp} {E:XK} {us:List Value} {vs:List V}
  (S:FnScope N ps scope) (hd:A.handled=none) (e0:Env0 P w K mg base A outer s H) (hl:vs.length=ps.length) (r:Vals vs us)
  (x:InCallC s s.heap.objs.size (bindL (envOfC qual scope s.heap.objs.size f cd).kindOf (ps.zip us) fun _=>none) (cellsFrom (s.heap.objs.size + 1) scope.names []) (bindC (envOfC qual scope s.heap.objs.size f cd).kindOf (ps.zip us) fun _=>none) s1) :
  Inv (cxOf CX P w K mg base N qual scope f cd A outer s H E) [] (start N vs) H s1:=by
 have hpl:ps.length≤N.length:=by have:=congrArg List.length S.pre;rw [List.length_take] at this;omega
 obtain ⟨h1,tk,rfl,hk⟩:=x.done
 have noA:∀ b:Addr,b ∉ (cxOf CX P w K mg base N qual scope f cd A outer s H E).ex:=fun b z=>absurd (show b∈([]:List Addr) from z) (by simp)
 refine ⟨⟨e0.mod,S.kind,rfl,rfl,Nat.le_refl _,fun y z c h1 h2=>?_,fun y hy=>?_,fun y c _ h=>?_,fun _=>hd,Around.frames_deeper e0.frames,.inr ⟨rfl,rfl⟩,fun b z=>absurd z (noA b),e0.bs,e0.bsz,fun b _ _=>noA b,fun b z=>absurd z (noA b),e0.funs,e0.frf⟩,
  rfl,e0.bare,Un.kept hk,⟨_,x.toInCall.ns,fun i y v h1 h2 h3=>?_⟩,fun y c h=>⟨_,x.cell y c h⟩,e0.hok.fresh (Nat.le_refl _),fun y c h=>?_,fun p hp=>absurd (show p∈([]:List (Addr×Obj)) from hp) (by simp),e0.hok.kept hk,?_⟩
 ·exact name_of_addr x.apart (PySem.mem_of_lookup h1) (PySem.mem_of_lookup h2)
 ·have hy:scope.names.lookup y=some .cell∨scope.names.lookup y=some .free:=hy
  rcases hy with hy | hy
  ·exact Zbi hy
  ·exact absurd rfl (S.nofree _ (PySem.mem_of_lookup hy))
 ·exact Nat.le_of_lt (x.above y c (PySem.mem_of_lookup h))
 ·have hi:i < vs.length:=by
   unfold start at h2
   by_cases hi:i < vs.length
   ·exact hi
   ·rw [List.getElem?_append_right (by simpa using hi)] at h2
    rw [List.getElem?_replicate] at h2
    split at h2 <;> cases h2
  have ha:vs[i]?=some v:=by
   unfold start at h2
   rw [List.getElem?_append_left (by simpa using hi),List.getElem?_map] at h2
   cases e:vs[i]? with
   | none=>rw [e] at h2;cases h2
   | some a=>rw [e] at h2;cases h2;rfl
  obtain ⟨u,hu,rv⟩:=r.get ha
  have hp:ps[i]?=some y:=by
   rw [← S.pre,List.getElem?_take_of_lt (by omega)];exact h1
  have ndP:ps.Nodup:=by rw [← S.pre];exact S.nd.sublist (List.take_sublist _ _)
  refine ⟨u,rv,?_⟩
  rcases S.par y (List.mem_of_getElem? hp) with k | k
  ·exact .inl ⟨k,xa6 ndP hp hu k⟩
  ·obtain ⟨c,e⟩:=Zbi (n:=s.heap.objs.size + 1) k
   refine .inr ⟨.inl k,c,e,?_⟩
   have q:=x.cell y c e
   rw [Xa6 ndP hp hu (by show scope.names.lookup y≠_;rw [k];decide)] at q
   exact q
 ·exact e0.hok.fresh (Nat.le_of_lt (x.above y c (PySem.mem_of_lookup h)))
 ·unfold start
  show _=N.length
  rw [List.length_append,List.length_map,List.length_replicate]
  omega
theorem fn_of {CX:CXT} {P:Program} {w:World} {K:PySem.W.Frag} {mg:Str→Option Value} {base:Heap} {k:Nat} {f:Addr} {name qual:Str} {params:Arguments} {body:List Stmt} {scope:Scope} {dV kV doc pm cdv ct oc:Value} {an od:Option Addr}
  {osl:Array (Option Value)} {N ps:List Str} {sp:Sp} (lk:K.lookup f=some ⟨oc,od,.func (PySem.W.fnOf name qual params body scope dV kV doc pm an cdv ct),osl⟩) (hcd:PySem.W.codeIn K cdv qual=true) (S:FnScope N ps scope)
  (len:∀ vs H Q E,sp vs H Q E→vs.length=ps.length)
  (hbody:∀ (A:Around) (outer:List Env) (s:Shared) (H:Hp) (vs:List V) (Q:VK) (E:XK),Room k (A.deeper (envOfC qual scope s.heap.objs.size f cdv))→sp vs H Q E →
   ∃ t,PSs (cxOf CX P w K mg base N qual scope f cdv A outer s H E) body t∧t { nx:=fun _ H'=>Q .non H',rt:=Q } (start N vs) H) :
  FnOk P w K mg base CX (k + 1) f (PySem.W.fnOf name qual params body scope dV kV doc pm an cdv ct) ps sp:=by
 refine ⟨len,fun A outer s H args us vs Q E hr e0 hb r hsp=>?_⟩
 have hl:=len _ _ _ _ hsp
 have KX:K.In s.heap:=e0.mod.kin.keeps fun b o e=>(e0.bs b o e).1
 have lim:s.heap.NoLimit:=e0.mod.nolimit.keeps fun b o e=>(e0.bs b o e).1
 have hkind:∀ y∈ps.zip us,scope.names.lookup y.1=some .local∨(scope.names.lookup y.1=some .cell∧((cellsFrom (s.heap.objs.size + 1) scope.names []).lookup y.1).isSome=true):=fun ⟨n,v⟩ hy=>by
  rcases S.par n (List.of_mem_zip hy).1 with q | q
  ·exact .inl q
  ·exact .inr ⟨q,PySem.W.cellsFrom_some _ _ _ (.inl q)⟩
 refine codeAny_call_function hr.depth (KX _ _ lk) rfl S.co S.gen rfl (PySem.W.codeRec_of KX hcd) (hb _ _ _ _ ?_)
 refine wpAny_newFunctionEnv_cells S.kind hkind fun env he s1 x=>?_
 subst he
 refine ⟨lim.keeps x.toInCall.keep,codeAny_func ?_⟩
 obtain ⟨t,ht,hq⟩:=hbody A outer s H vs Q E (hr.deeper _) hsp
 have I:Inv (cxOf CX P w K mg base N qual scope f cdv A outer s H E) [] (start N vs) H s1:=Ybs S hr.hd e0 hl r x
 refine wpAny_mono (ht [] s1 (start N vs) H _ I hq) (fun fl s' hs=>?_) fun e s' hs=>hs
 have fin:∀ {σ':St} {H':Hp} {v:V} {u:Value},Inv (cxOf CX P w K mg base N qual scope f cdv A outer s H E) [] σ' H' s'→RelV v u→Q v H'→CE outer P w H s Q u s' :=
  fun {σ' H' v u} J rv q=>⟨v,H',J.os,J.bare,J.base,J.hok,rv,q⟩
 cases fl with
 | ret u =>
  obtain ⟨v,σ',H',J,rv,q⟩:=hs
  exact fin J rv q
 | next =>
  obtain ⟨σ',H',J,q⟩:=hs
  exact fin (v:=V.non) (u:=Value.none) J rfl q
 | brk =>
  obtain ⟨_,_,_,q⟩:=hs
  exact False.elim q
 | cont =>
  obtain ⟨_,_,_,q⟩:=hs
  exact False.elim q
end L2
namespace L2
open PySem PySem.Spec PyProof.Rows
section
variable {X:Cx} {x:Str} {p pos:Pos} {e:Expr} {es:List Expr} {t:TA} {id T:String} {r:List V→Hp→VK→Prop}
noncomputable def tCB (r:List V→Hp→VK→Prop) (t:TA):TE:=fun σ H Q=>t σ H fun vs H1=>r vs H1 Q
theorem Xaf (hc:CallR X (.builtin id) r) (hg:Gl X x) (hm:X.mg x=none) (hv:bootBuiltins x=some (.builtin id)) (ha:PA X (e :: es) t) (hn:x≠"__name__" := by decide) (hdb:(x == ("__debug__" : Str))=false:=by decide)
  (he:starEach (e :: es) X.env=(false,eval e X.env) :: starEach es X.env:=by rfl) (hpl:(backTo pos (starEach es X.env)).any (·.1)=false:=by rfl):PE X (.Call (.Name x p) (e :: es) [] pos) (tCB r t):=by
 intro pins s σ H Q I h
 refine wpAny_Call_Name_kw (xaY I hg hm hv ?_ hn hdb)
 exact PyProof.Rows.callWith_builtin1 (thn (ha pos pins s σ H _ I h) fun us s1 ⟨vs,H1,I1,r1,q1⟩=>hc pins s1 σ H1 vs us Q I1 r1 q1) he hpl
theorem Xac (hc:CallR X (.type T) r) (hg:Gl X x) (hm:X.mg x=none) (hv:bootBuiltins x=some (.type T)) (ha:PA X (e :: es) t) (hn:x≠"__name__" := by decide) (hdb:(x == ("__debug__" : Str))=false:=by decide)
  (he:starEach (e :: es) X.env=(false,eval e X.env) :: starEach es X.env:=by rfl) (hpl:(backTo pos (starEach es X.env)).any (·.1)=false:=by rfl):PE X (.Call (.Name x p) (e :: es) [] pos) (tCB r t):=by
 intro pins s σ H Q I h
 refine wpAny_Call_Name_kw (xaY I hg hm hv ?_ hn hdb)
 exact PyProof.Rows.callWith_type1 (thn (ha pos pins s σ H _ I h) fun us s1 ⟨vs,H1,I1,r1,q1⟩=>hc pins s1 σ H1 vs us Q I1 r1 q1) he hpl
end
end L2
namespace HT
open PySem PyProof.Rows
theorem ybF (A:Around) (s:Shared) (a:Int) (t:Tok) (c:Int) (u:Tok):∃ e,SeqAt.EqAt A s (.int a t) (.int c u) e∧(e=true↔a=c) :=
 ⟨(a == c),SeqAt.EqAt.int_int a t c u,by simp⟩
section
open PySem.SeqAt
open PySem.AutoSeq1 (wpAny_loadPart')
open PySem.MeetsSeq PySem.MeetsSeq2 PySem.MeetsSeq3
end
section
variable {prog:Program} {w:World} {A:Around} {E:Value→Shared→Prop} {s:Shared}
theorem zbS {t b:Addr} {vs ws:List Value} {Q:Value→Shared→Prop} (ht:IsTup s.heap t vs.toArray) (hb:IsTup s.heap b ws.toArray) (hv:vs≠[])
  (h1:ws=[]→Q (.ref t) s) (h2:ws≠[]→Q (.ref s.heap.objs.size) { s with heap:=s.heap.push { cls:=.type "tuple",data:=.seq (vs ++ ws).toArray } })
  (hsz:vs.length + ws.length≤sizeLine):wpAny (model prog w) A (binaryOp .Add (.ref t) (.ref b)) Q E s:=by
 obtain ⟨⟨cls,dd,data,sl⟩,ho,hc,n,hd⟩:=id ht
 obtain ⟨⟨cls2,dd2,data2,sl2⟩,ho2,hc2,n2,hd2⟩:=id hb
 simp only at hc hd hc2 hd2
 subst hc hd hc2 hd2
 have e:vs.toArray ++ ws.toArray=(vs ++ ws).toArray:=by simp
 by_cases hw:ws=[]
 ·exact concat_meets ⟨_,ho,rfl⟩ ⟨_,ho2,rfl⟩ noFill_tuple_add seq_tuple_add PySem.F.slot_tuple_add PySem.F.entry_tuple_add (PySem.F.args_tuple_add_2 _ _)
   (tuple_addW1 t b vs.toArray ws.toArray n n2 dd dd2 sl sl2 (by simpa using hv) (by simp [hw])) ⟨ho,ho2,h1 hw⟩
 ·refine concat_meets ⟨_,ho,rfl⟩ ⟨_,ho2,rfl⟩ noFill_tuple_add seq_tuple_add PySem.F.slot_tuple_add PySem.F.entry_tuple_add (PySem.F.args_tuple_add_2 _ _)
   (tuple_addW2 t b vs.toArray ws.toArray n n2 dd dd2 sl sl2 (by simpa using hv) (by simpa using hw) (by rw [List.size_toArray,List.size_toArray];exact hsz)) ⟨ho,ho2,?_⟩
  rw [e]
  exact h2 hw
noncomputable def sIx (n d:Nat):Option Int→Nat
 | none=>d
 | some v=>if v < 0 then (v + (n:Int)).toNat else min v.toNat n
theorem ZbF (n d:Nat):sIx n d none=d:=rfl
theorem ybS (n d k:Nat):sIx n d (some (k:Int))=min k n:=by
 show (if (k:Int) < 0 then ((k:Int) + (n:Int)).toNat else min (k:Int).toNat n)=min k n
 rw [if_neg (by omega),Int.toNat_natCast]
end
end HT
namespace L2
open PySem PySem.Spec PyProof.Rows
abbrev TO:=St→Hp→(Option Int→Hp→Prop)→Prop
noncomputable def PO (X:Cx) (e:Option Expr) (t:TO):Prop :=
 ∀ (pins:List (Addr×Obj)) (s:Shared) (σ:St) (H:Hp) (Q:Option Int→Hp→Prop),Inv X pins σ H s→t σ H Q →
  wpAny (model X.prog X.w) X.A (evalPart e X.env) (fun u s'=>∃ o H',Inv X pins σ H' s'∧IsPart u o∧Q o H') X.xe s
noncomputable def tNoPart:TO:=fun _ H Q=>Q none H
noncomputable def tPart (t:TE):TO:=fun σ H Q=>t σ H fun x H1=>∃ i,x=.int i∧Q (some i) H1
theorem zaP {ns:List Int}:∀ {us:List Value},Vals (ns.map V.int) us→IntsAre us ns:=by
 induction ns with
 | nil=>intro us r;rw [List.map_nil] at r;cases r;exact .nil
 | cons n ns ih =>
  intro us r
  rw [List.map_cons] at r
  cases r with
  | cons r1 r2 =>
   obtain ⟨t,e⟩:=r1
   subst e
   exact .cons n t (ih r2)
section
variable {X:Cx} {e:Expr} {te:TE} {lo hi:Option Expr} {tl th:TO} {pos p2:Pos}
theorem Zbd:PO X none tNoPart:=by
 intro pins s σ H Q I h
 rw [evalPart_none]
 exact wpAny_pure ⟨none,H,I,.none,h⟩
theorem Ybd (h:PE X e te):PO X (some e) (tPart te):=by
 intro pins s σ H Q I hw
 rw [evalPart_some]
 refine thn (h pins s σ H _ I hw) fun u s1 ⟨x,H1,I1,r1,q1⟩=>?_
 obtain ⟨i,rfl,q⟩:=q1
 obtain ⟨t,rfl⟩:=r1
 exact ⟨some i,H1,I1,.int i t,q⟩
noncomputable def SlR (X:Cx) (r:V→Option Int→Option Int→Hp→VK→Prop):Prop :=
 ∀ (pins:List (Addr×Obj)) (s:Shared) (σ:St) (H:Hp) (x:V) (v vl vu:Value) (lo hi:Option Int) (sl:Addr) (Q:VK),Inv X pins σ H s→RelV x v→s.heap.IsSliceOf sl vl vu .none→IsPart vl lo→IsPart vu hi→r x lo hi H Q →
  ∃ T id,typeLookup (.type T) "__getitem__" = pure (some (.builtin id))∧s.TypeIs v T∧wpAny (model X.prog X.w) X.A (getItem v (.ref sl)) (EP X pins σ Q) X.xe s
noncomputable def tSl (r:V→Option Int→Option Int→Hp→VK→Prop) (te:TE) (tl th:TO):TE:=fun σ H Q=>te σ H fun x H1=>tl σ H1 fun l H2=>th σ H2 fun u H3=>r x l u H3 Q
theorem Za1 {r:V→Option Int→Option Int→Hp→VK→Prop} (hr:SlR X r) (he:PE X e te) (hl:PO X lo tl) (hu:PO X hi th):PE X (.Subscript e (.Slice lo hi none p2) pos) (tSl r te tl th):=by
 intro pins s σ H Q I h
 refine Subscript_ (thn (he pins s σ H _ I h) fun v s1 ⟨x,H1,I1,r1,q1⟩=>?_)
 refine wpAny_Slice (thn (hl pins s1 σ H1 _ I1 q1) fun vl s2 ⟨l,H2,I2,pl,q2⟩=>thn (hu pins s2 σ H2 _ I2 q2) fun vu s3 ⟨u,H3,I3,pu,q3⟩=>?_)
 rw [evalPart_none]
 refine wpAny_pure ?_
 have I4:Inv X pins σ H3 { s3 with heap:=s3.heap.push { cls:=.type "slice",data:=.fields #[vl,vu,.none] } }:=I3.kept (t':=s3.toks) fun b ob q=>Heap.get?_push_of_some _ q
 obtain ⟨T,id,hT,ht,hg⟩:=hr pins { s3 with heap:=s3.heap.push { cls:=.type "slice",data:=.fields #[vl,vu,.none] } } σ H3 x v vl vu l u s3.heap.objs.size Q I4 r1 (Heap.IsSliceOf.new ..) pl pu q3
 show wpAny (model X.prog X.w) X.A (subscriptTail e (.Slice lo hi none p2) v (.ref s3.heap.objs.size)) (EP X pins σ Q) X.xe { s3 with heap:=s3.heap.push { cls:=.type "slice",data:=.fields #[vl,vu,.none] } }
 exact tail_any (ops:=[.ref s3.heap.objs.size,v]) ht hT hg (by with_unfolding_all rfl)
noncomputable def cutV (xs:List V) (lo hi:Option Int):List V:=(xs.drop (HT.sIx xs.length 0 lo)).take (HT.sIx xs.length xs.length hi - HT.sIx xs.length 0 lo)
theorem xbd (xs:List V) (lo hi:Option Int):(cutV xs lo hi).length≤xs.length:=by
 unfold cutV
 rw [List.length_take,List.length_drop]
 omega
noncomputable def rCatT (K:PySem.W.Frag):R2:=fun x y H Q=>∃ a b xs ys,x=.ref a∧y=.ref b∧SqT K H a xs∧SqT K H b ys∧xs≠[]∧xs.length + ys.length≤sizeLine ∧
 (ys=[]→Q (.ref a) H)∧(ys≠[]→∀ p,H p=none→Q (.ref p) (upd H p (.tup (xs ++ ys))))
theorem Vals.nil_iff {xs:List V} {us:List Value} (r:Vals xs us):us=[]↔xs=[]:=by
 cases r with
 | nil=>simp
 | cons _ _=>simp
theorem ZbS:OpR X (binaryOp .Add) (rCatT X.K):=by
 intro pins s σ H x y v u Q I rx ry h
 obtain ⟨a,b,xs,ys,rfl,rfl,ha,hb,hx,hz,q1,q2⟩:=h
 cases rx
 cases ry
 obtain ⟨its,r1,p1,_⟩:=I.tuple ha
 obtain ⟨its2,r2,p2,_⟩:=I.tuple hb
 refine HT.zbS p1 p2 (fun z=>hx (r1.nil_iff.mp z)) (fun z=>⟨.ref a,H,I,rfl,q1 (r2.nil_iff.mp z)⟩) (fun z=>?_) (by rw [← r1.length,← r2.length];exact hz)
 refine ⟨.ref s.heap.objs.size,_,I.laid (t':=s.toks) (o:=.tup (xs ++ ys)) (fun b ob q=>Heap.get?_push_of_some _ q) (Nat.le_refl _) ?_,rfl,q2 (fun w=>z (r2.nil_iff.mpr w)) _ (I.hok.fresh (Nat.le_refl _))⟩
 exact ⟨by rw [List.length_append];exact hz,_,r1.append r2,PTup.new _ _⟩
end
end L2
namespace L2
open PySem PySem.Spec PyProof.Rows
noncomputable def ixN (n:Nat) (i:Int):Option Nat:=if 0≤i then (if i < n then some i.toNat else none) else if -(n:Int)≤i then some (i + n).toNat else none
noncomputable def atI {α:Type} (xs:List α) (i:Int):Option α:=(ixN xs.length i).bind fun j=>xs[j]?
theorem Xbd {n:Nat} {i:Int} {j:Nat} (h:ixN n i=some j):seqIndex? i n=some j∧j < n∧-(n:Int)≤i∧i < n:=by
 unfold ixN at h
 by_cases h0:0≤i
 ·rw [if_pos h0] at h
  by_cases h1:i < n
  ·rw [if_pos h1] at h
   have e:i.toNat=j:=Option.some.inj h
   exact ⟨by rw [seqIndex_of h0 h1,e],by omega,by omega,h1⟩
  ·rw [if_neg h1] at h;cases h
 ·rw [if_neg h0] at h
  by_cases h1:-(n:Int)≤i
  ·rw [if_pos h1] at h
   have e:(i + n).toNat=j:=Option.some.inj h
   exact ⟨by rw [seqIndex_neg (by omega) h1,e],by omega,h1,by omega⟩
  ·rw [if_neg h1] at h;cases h
theorem xbs {α:Type} {xs:List α} {i:Int} {v:α} (h:atI xs i=some v):∃ j,seqIndex? i xs.length=some j∧xs[j]?=some v∧j < xs.length∧-(xs.length:Int)≤i∧i < xs.length:=by
 unfold atI at h
 cases e:ixN xs.length i with
 | none=>rw [e] at h;cases h
 | some j =>
  rw [e] at h
  obtain ⟨h1,h2,h3,h4⟩:=Xbd e
  exact ⟨j,h1,h,h2,h3,h4⟩
theorem yaP {α:Type} {xs:List α} {j:Nat} {v:α} (h:xs[j]?=some v):atI xs (j:Int)=some v:=by
 have hj:j < xs.length:=(List.getElem?_eq_some_iff.mp h).1
 have e:ixN xs.length (j:Int)=some j:=by
  unfold ixN
  rw [if_pos (by omega),if_pos (by omega)];simp
 unfold atI;rw [e];exact h
noncomputable def PlainIx (b:Expr):Prop:=∀ o i,subscripted b false o i=operate [o,i] (getItem o i)
noncomputable def IxR (X:Cx) (r:R2):Prop :=
 ∀ (value slice:Expr) (pins:List (Addr×Obj)) (s:Shared) (σ:St) (H:Hp) (x y:V) (v u:Value) (Q:VK),Inv X pins σ H s→RelV x v→RelV y u→r x y H Q →
  subscripted slice false v u=operate [v,u] (getItem v u)→wpAny (model X.prog X.w) X.A (subscriptTail value slice v u) (EP X pins σ Q) X.xe s
noncomputable def MtR (X:Cx) (id:String) (r:V→List V→Hp→VK→Prop):Prop :=
 ∀ (pins:List (Addr×Obj)) (s:Shared) (σ:St) (H:Hp) (x:V) (xs:List V) (v:Value) (us:List Value) (Q:VK),Inv X pins σ H s→RelV x v→Vals xs us→r x xs H Q →
  wpAny (model X.prog X.w) X.A (call (.builtin id) (v :: us)) (EP X pins σ Q) X.xe s
section
variable {X:Cx} {a b:Expr} {ta tb:TE} {pos:Pos}
theorem IxR.or {r r':R2} (h:IxR X r) (h':IxR X r'):IxR X (fun x y H Q=>r x y H Q∨r' x y H Q):=by
 intro value slice pins s σ H x y v u Q I rx ry q hs
 rcases q with q | q
 ·exact h value slice pins s σ H x y v u Q I rx ry q hs
 ·exact h' value slice pins s σ H x y v u Q I rx ry q hs
theorem xah {r:R2} (hr:IxR X r) (ha:PE X a ta) (hb:PE X b tb) (hs:PlainIx b):PE X (.Subscript a b pos) (tOp r ta tb):=by
 intro pins s σ H Q I h
 exact Subscript_ (binT ha hb I h fun v u s2 x y H2 I2 rx ry q=>hr a b pins s2 σ H2 x y v u Q I2 rx ry q (hs _ _))
noncomputable def rIxL (K:PySem.W.Frag):R2:=fun x y H Q=>∃ p xs i v,x=.ref p∧y=.int i∧SqL K H p xs∧atI xs i=some v∧Q v H
noncomputable def rIxT (K:PySem.W.Frag):R2:=fun x y H Q=>∃ p xs i v,x=.ref p∧y=.int i∧SqT K H p xs∧atI xs i=some v∧Q v H
theorem xak:IxR X (rIxL X.K):=by
 intro value slice pins s σ H x y v u Q I rx ry h hs
 obtain ⟨p,xs,i,z,rfl,rfl,hq,he,q⟩:=h
 cases rx
 obtain ⟨t,rfl⟩:=ry
 obtain ⟨its,r,pl,hz⟩:=I.list hq
 obtain ⟨j,h1,h2,h3,h4,h5⟩:=xbs he
 obtain ⟨w,ew,rw'⟩:=r.get h2
 have hl:=r.length
 have hn:=line63
 have fin:EP X pins σ Q w s:=⟨z,H,I,rw',q⟩
 by_cases h0:0≤i
 ·have hj:i.toNat=j:=by
   rw [seqIndex_of h0 h5] at h1
   exact Option.some.inj h1
  exact item_listR pl.isList h0 (by omega) (by rw [hj];simpa using ew) fin hs
 ·have hj:(i + (its.toArray.size:Int)).toNat=j:=by
   rw [seqIndex_neg (by omega) h4] at h1
   rw [List.size_toArray,← hl]
   exact Option.some.inj h1
  exact subscriptTail_builtinR (x:=w) pl.isList.typeIs slot_list_getitem.lookup
   (wpAny_getItem_list_neg (Q:=fun r s'=>r=w∧EP X pins σ Q r s') pl.isList (by omega) (by rw [List.size_toArray] <;> omega) (by omega) (by rw [hj];simpa using ew) ⟨rfl,fin⟩) hs
theorem Yam:IxR X (rIxT X.K):=by
 intro value slice pins s σ H x y v u Q I rx ry h hs
 obtain ⟨p,xs,i,z,rfl,rfl,hq,he,q⟩:=h
 cases rx
 obtain ⟨t,rfl⟩:=ry
 obtain ⟨its,r,pl,hz⟩:=I.tuple hq
 obtain ⟨j,h1,h2,h3,h4,h5⟩:=xbs he
 obtain ⟨w,ew,rw'⟩:=r.get h2
 have hl:=r.length
 have hn:=line63
 have fin:EP X pins σ Q w s:=⟨z,H,I,rw',q⟩
 exact subscriptTail_builtinR (x:=w) pl.typeIs slot_tuple_getitem.lookup
  (getItem_tuple (j:=j) (Q:=fun r s'=>r=w∧EP X pins σ Q r s') pl (by omega) (by omega) (by rw [List.size_toArray,← hl];exact h1) (by simpa using ew) ⟨rfl,fin⟩) hs
theorem ybn (its:List Value) (n j:Nat) (u:Value):Obj.mapSeq (·.setIfInBounds j u) { cls:=.type "list",data:=.seq its.toArray n }={ cls:=.type "list",data:=.seq (its.set j u).toArray n }:=by
 simp [Obj.mapSeq]
theorem Inv.lst {pins:List (Addr×Obj)} {σ:St} {H:Hp} {s:Shared} {p:Addr} {xs:List V} (I:Inv X pins σ H s) (h:H p=some (.lst xs)) :
  ∃ (its:List Value) (n:Nat),Vals xs its∧s.heap.get? p=some { cls:=.type "list",data:=.seq its.toArray n }∧xs.length≤sizeLine:=by
 obtain ⟨z,its,n,r,e⟩:=I.hok p _ h
 exact ⟨its,n,r,e,z⟩
theorem Inv.lstUpd {pins:List (Addr×Obj)} {σ:St} {H:Hp} {s:Shared} {p:Addr} {xs ys:List V} {its its':List Value} {n n':Nat} {f:Obj→Obj} (I:Inv X pins σ H s) (h:H p=some (.lst xs))
  (ho:s.heap.get? p=some { cls:=.type "list",data:=.seq its.toArray n }) (hf:f { cls:=.type "list",data:=.seq its.toArray n }={ cls:=.type "list",data:=.seq its'.toArray n' }) (r:Vals ys its') (hz:ys.length≤sizeLine) (t:Nat) :
  Inv X pins σ (upd H p (.lst ys)) { s with heap:=s.heap.update p f,toks:=t }:=by
 have e:(s.heap.update p f).get? p=some { cls:=.type "list",data:=.seq its'.toArray n' }:=by
  rw [Heap.get?_update_self f ho (by rw [hf] <;> rfl),hf]
 refine I.write (x:=p) (e:=p) (by rw [h];trivial) (.inl rfl) (fun b u hb q=>(Heap.get?_update_other _ _ (Ne.symm hb)).trans q) ⟨_,e⟩ ?_
 exact ⟨hz,its',n',r,e⟩
noncomputable def rSetL:V→V→V→Hp→(Hp→Prop)→Prop:=fun o i v H Q=>∃ p xs k j,o=.ref p∧i=.int k∧H p=some (.lst xs)∧ixN xs.length k=some j∧Q (upd H p (.lst (xs.set j v)))
theorem YaM:PSet X rSetL:=by
 intro pins s σ H o i v ov iv u Q I ro ri rv h
 obtain ⟨p,xs,k,j,rfl,rfl,hp,hj,q⟩:=h
 cases ro
 obtain ⟨t,rfl⟩:=ri
 obtain ⟨its,n,r,ho,hz⟩:=I.lst hp
 obtain ⟨h1,h2,h3,h4⟩:=Xbd hj
 have hl:=r.length
 have hn:=line63
 have I':Inv X pins σ (upd H p (.lst (xs.set j v))) { s with heap:=s.heap.update p (Obj.mapSeq (·.setIfInBounds j u)) } :=
  I.lstUpd hp ho (ybn its n j u) (r.set rv j) (by rw [List.length_set];exact hz) s.toks
 by_cases h0:0≤k
 ·have hk:k.toNat=j:=by
   rw [seqIndex_of h0 h4] at h1
   exact Option.some.inj h1
  exact PySem.W.ki_setAt ho h0 (by omega) (by rw [List.size_toArray,← hl];exact h4) (by rw [hk];exact ⟨_,I',q⟩)
 ·have hk:(k + (its.toArray.size:Int)).toNat=j:=by
   rw [seqIndex_neg (by omega) h3] at h1
   rw [List.size_toArray,← hl]
   exact Option.some.inj h1
  exact PySem.W.ki_setBack ho (by omega) (by rw [List.size_toArray,← hl];exact h3) (by omega) (by rw [hk];exact ⟨_,I',q⟩)
theorem za7 (lo hi:Option Int) (n:Nat):(sliceBounds lo hi none n).1=((HT.sIx n 0 lo:Nat):Int)∧(sliceBounds lo hi none n).2.1=((HT.sIx n n hi:Nat):Int)∧(sliceBounds lo hi none n).2.2=1:=by
 refine ⟨?_,?_,rfl⟩
 ·cases lo with
  | none=>simp [sliceBounds,HT.sIx]
  | some i =>
   simp only [sliceBounds,HT.sIx,Option.getD_none,show (1:Int) > 0 by decide,if_true]
   by_cases h:i < 0
   ·simp only [h,if_true] <;> omega
   ·simp only [h,if_false] <;> omega
 ·cases hi with
  | none=>simp [sliceBounds,HT.sIx]
  | some i =>
   simp only [sliceBounds,HT.sIx,Option.getD_none,show (1:Int) > 0 by decide,if_true]
   by_cases h:i < 0
   ·simp only [h,if_true] <;> omega
   ·simp only [h,if_false] <;> omega
theorem Ya1 (its:List Value) (lo hi:Option Int):slicePick its.toArray lo hi none=((its.drop (HT.sIx its.length 0 lo)).take (HT.sIx its.length its.length hi - HT.sIx its.length 0 lo)).toArray:=by
 obtain ⟨h1,h2,h3⟩:=za7 lo hi its.toArray.size
 unfold slicePick
 rw [h1,h2,h3]
 simp only [sliceRange_one,pick_run,List.size_toArray] <;> rfl
noncomputable def rSlL (K:PySem.W.Frag):V→Option Int→Option Int→Hp→VK→Prop:=fun x lo hi H Q=>∃ a xs,x=.ref a∧SqL K H a xs∧∀ p,H p=none→Q (.ref p) (upd H p (.lst (cutV xs lo hi)))
theorem zbe:SlR X (rSlL X.K):=by
 intro pins s σ H x v vl vu lo hi sl Q I rx hs pl pu h
 obtain ⟨a,xs,rfl,hx,q⟩:=h
 cases rx
 obtain ⟨its,r,ht,hz⟩:=I.list hx
 have hlen:=r.length
 refine ⟨"list",_,slot_list_getitem.lookup,ht.isList.typeIs,?_⟩
 refine wpAny_getItem_list_slice ht.isList hs pl pu .none (by simp) ?_ (by rw [List.size_toArray] <;> omega)
 rw [Ya1,← hlen]
 refine ⟨.ref s.heap.objs.size,_,I.laid (t':=s.toks) (o:=.lst (cutV xs lo hi)) (fun b ob q=>Heap.get?_push_of_some _ q) (Nat.le_refl _) ?_,rfl,q _ (I.hok.fresh (Nat.le_refl _))⟩
 exact ⟨Nat.le_trans (xbd xs lo hi) hz,_,0,(r.drop (HT.sIx xs.length 0 lo)).take (HT.sIx xs.length xs.length hi - HT.sIx xs.length 0 lo),Heap.get?_push_size _ rfl⟩
noncomputable def flatV:V→Bool
 | .non=>true
 | .bl _=>true
 | .int _=>true
 | .str _=>true
 | _=>false
noncomputable def eqV:V→V→Bool
 | .non,.non=>true
 | .bl a,.bl b=>a == b
 | .bl a,.int b=>(if a then 1 else 0) == b
 | .int a,.bl b=>a == (if b then 1 else 0)
 | .int a,.int b=>a == b
 | .str a,.str b=>a == b
 | _,_=>false
theorem eqAt_V {A:Around} {s:Shared} {y x:V} {u v:Value} (ry:RelV y u) (rx:RelV x v) (fy:flatV y=true) (fx:flatV x=true):SeqAt.EqAt A s u v (eqV y x):=by
 cases y with
 | non =>
  cases ry
  cases x with
  | non=>cases rx;exact SeqAt.EqAt.same _
  | bl b=>cases rx;exact SeqAt.EqAt.none_bool b
  | int b=>obtain ⟨t,rfl⟩:=rx;exact SeqAt.EqAt.none_int b t
  | str b=>obtain ⟨t,rfl⟩:=rx;exact SeqAt.EqAt.none_str b t
  | _=>exact absurd (show false=true from fx) Bool.false_ne_true
 | bl a =>
  cases ry
  cases x with
  | non=>cases rx;exact SeqAt.EqAt.bool_none a
  | bl b=>cases rx;exact SeqAt.EqAt.bool_bool a b
  | int b=>obtain ⟨t,rfl⟩:=rx;exact SeqAt.EqAt.bool_int a b t
  | str b=>obtain ⟨t,rfl⟩:=rx;exact SeqAt.EqAt.bool_str a b t
  | _=>exact absurd (show false=true from fx) Bool.false_ne_true
 | int a =>
  obtain ⟨t',rfl⟩:=ry
  cases x with
  | non=>cases rx;exact SeqAt.EqAt.int_none a t'
  | bl b=>cases rx;exact SeqAt.EqAt.int_bool a t' b
  | int b=>obtain ⟨t,rfl⟩:=rx;exact SeqAt.EqAt.int_int a t' b t
  | str b=>obtain ⟨t,rfl⟩:=rx;exact SeqAt.EqAt.int_str a t' b t
  | _=>exact absurd (show false=true from fx) Bool.false_ne_true
 | str a =>
  obtain ⟨t',rfl⟩:=ry
  cases x with
  | non=>cases rx;exact SeqAt.EqAt.str_none a t'
  | bl b=>cases rx;exact SeqAt.EqAt.str_bool a t' b
  | int b=>obtain ⟨t,rfl⟩:=rx;exact SeqAt.EqAt.str_int a t' b t
  | str b=>obtain ⟨t,rfl⟩:=rx;exact SeqAt.EqAt.str_str a t' b t
  | _=>exact absurd (show false=true from fx) Bool.false_ne_true
 | _=>exact absurd (show false=true from fy) Bool.false_ne_true
noncomputable def eqU (x:V) (u:Value):Bool:=match u with
 | .none=>eqV .non x
 | .bool b=>eqV (.bl b) x
 | .int i _=>eqV (.int i) x
 | .str z _=>eqV (.str z) x
 | _=>false
theorem ybO {x y:V} {u:Value} (r:RelV y u) (f:flatV y=true):eqU x u=eqV y x:=by
 cases y with
 | non=>cases r;rfl
 | bl b=>cases r;rfl
 | int i=>obtain ⟨t,rfl⟩:=r;rfl
 | str z=>obtain ⟨t,rfl⟩:=r;rfl
 | _=>exact absurd (show false=true from f) Bool.false_ne_true
theorem ybe {x:V}:∀ {xs:List V} {us:List Value},Vals xs us→xs.all flatV=true→us.any (eqU x)=xs.any fun y=>eqV y x
 | _,_,.nil,_=>rfl
 | y :: xs,u :: us,.cons r t,f=>by
  rw [List.all_cons,Bool.and_eq_true] at f
  rw [List.any_cons,List.any_cons,ybO r f.1,ybe t f.2]
theorem xa1 {A:Around} {s:Shared} {x:V} {v:Value} (rx:RelV x v) (fx:flatV x=true):∀ {xs:List V} {us:List Value},Vals xs us→xs.all flatV=true→∀ u∈us,SeqAt.EqAt A s u v (eqU x u)
 | _,_,.nil,_=>fun u hu=>by cases hu
 | y :: xs,u :: us,.cons r t,f=>fun u' hu=>by
  rw [List.all_cons,Bool.and_eq_true] at f
  rcases List.mem_cons.mp hu with rfl | hu
  ·rw [ybO r f.1];exact eqAt_V r rx f.1 fx
  ·exact xa1 rx fx t f.2 u' hu
noncomputable def inV (x:V) (xs:List V):Bool:=xs.any fun y=>eqV y x
noncomputable def rIn (K:PySem.W.Frag) (neg:Bool):R2:=fun x y H Q=>∃ p xs,y=.ref p∧(SqL K H p xs∨SqT K H p xs)∧flatV x=true∧xs.all flatV=true∧Q (.bl (if neg then !inV x xs else inV x xs)) H
theorem YaC:OpR X (compareOp .NotIn) (rIn X.K true):=by
 intro pins s σ H x y v u Q I rx ry h
 obtain ⟨p,xs,rfl,hq,fx,fs,q⟩:=h
 cases ry
 rcases hq with hq | hq
 ·obtain ⟨its,r,pl,hz⟩:=I.list hq
  refine SeqAt.notIn_listAt (eqU x) pl.isList (fun w hw=>xa1 rx fx r fs w (by simpa using hw)) ⟨.bl _,H,I,rfl,?_⟩
  rw [show its.toArray.any (eqU x)=its.any (eqU x) by simp,ybe r fs]
  exact q
 ·obtain ⟨its,r,pl,hz⟩:=I.tuple hq
  refine SeqAt.notIn_tupleAt (eqU x) pl (fun w hw=>xa1 rx fx r fs w (by simpa using hw)) ⟨.bl _,H,I,rfl,?_⟩
  rw [show its.toArray.any (eqU x)=its.any (eqU x) by simp,ybe r fs]
  exact q
theorem xad:CallR X (.builtin "len") (fun xs H Q=>∃ p ys,xs=[.ref p]∧(SqL X.K H p ys∨SqT X.K H p ys)∧Q (.int ys.length) H):=by
 intro pins s σ H xs us Q I r h
 obtain ⟨p,ys,rfl,hq,q⟩:=h
 obtain ⟨u,rfl,rx⟩:=vals1 r
 cases rx
 have hn:=line63
 rcases hq with hq | hq
 ·obtain ⟨its,r',pl,hz⟩:=I.list hq
  have hlen:=r'.length
  exact Calls.call_len_list pl.isList (by simp only [List.size_toArray] <;> omega) ⟨.int ys.length,H,I.tok _,⟨s.toks + 1,by rw [List.size_toArray,hlen]⟩,q⟩
 ·obtain ⟨its,r',pl,hz⟩:=I.tuple hq
  have hlen:=r'.length
  exact len_tuple pl (by simp only [List.size_toArray] <;> omega) ⟨.int ys.length,H,I.tok _,⟨s.toks + 1,by rw [List.size_toArray,hlen]⟩,q⟩
theorem YaI:CallR X (.type "list") (fun xs H Q=>∃ p ys,xs=[.ref p]∧(SqL X.K H p ys∨SqT X.K H p ys)∧∀ l,H l=none→Q (.ref l) (upd H l (.lst ys))):=by
 intro pins s σ H xs us Q I r h
 obtain ⟨p,ys,rfl,hq,q⟩:=h
 obtain ⟨u,rfl,rx⟩:=vals1 r
 cases rx
 have fin:∀ (its:List Value),Vals ys its→ys.length≤sizeLine→∀ (h':Heap) (c':Nat),(∀ b o',s.heap.get? b=some o'→h'.get? b=some o') →
   h'.get? s.heap.objs.size=some { cls:=.type "list",dict:=none,data:=.seq its.toArray c',slots:=#[] }→EP X pins σ Q (.ref s.heap.objs.size) { s with heap:=h' }:=fun its r' hz h' c' kp e =>
  ⟨.ref s.heap.objs.size,_,I.laid (t':=s.toks) kp (Nat.le_refl _) (show ObjOk X.prog X.w _ h' _ (.lst ys) from ⟨hz,its,c',r',e⟩),rfl,q _ (I.hok.fresh (Nat.le_refl _))⟩
 rcases hq with hq | hq
 ·obtain ⟨its,r',pl,hz⟩:=I.list hq
  have hlen:=r'.length
  obtain ⟨o,ho,hc,n,hd⟩:=pl.isList
  exact call_list_seq p (.inl rfl) ho hc hd (fun h' c' kp e=>fin its r' hz h' c' kp e) (by simp only [List.size_toArray] <;> omega)
 ·obtain ⟨its,r',pl,hz⟩:=I.tuple hq
  have hlen:=r'.length
  obtain ⟨o,ho,hc,n,hd⟩:=pl
  exact call_list_seq p (.inr rfl) ho hc hd (fun h' c' kp e=>fin its r' hz h' c' kp e) (by simp only [List.size_toArray] <;> omega)
theorem Zaf:CallR X (.type "tuple") (fun xs H Q=>∃ p ys,xs=[.ref p]∧((SqL X.K H p ys∧∀ l,H l=none→Q (.ref l) (upd H l (.tup ys)))∨(SqT X.K H p ys∧Q (.ref p) H))):=by
 intro pins s σ H xs us Q I r h
 obtain ⟨p,ys,rfl,h⟩:=h
 obtain ⟨u,rfl,rx⟩:=vals1 r
 cases rx
 rcases h with ⟨hq,q⟩ | ⟨hq,q⟩
 ·obtain ⟨its,r',pl,hz⟩:=I.list hq
  have hlen:=r'.length
  refine call_tuple_list pl.isList (fun h' kp=>?_) (by simp only [List.size_toArray] <;> omega)
  have I1:Inv X pins σ H { s with heap:=h' }:=I.kept (t':=s.toks) kp
  have I2:Inv X pins σ (upd H h'.objs.size (.tup ys)) { s with heap:=h'.push { cls:=.type "tuple",data:=.seq its.toArray } } :=
   I1.laid (t':=s.toks) (fun b o e=>Heap.get?_push_of_some _ e) (Nat.le_refl _) (show ObjOk X.prog X.w _ _ _ (.tup ys) from ⟨hz,its,r',PTup.new _ _⟩)
  exact ⟨.ref h'.objs.size,_,I2,rfl,q _ (I1.hok.fresh (Nat.le_refl _))⟩
 ·obtain ⟨its,r',pl,hz⟩:=I.tuple hq
  exact call_tuple_same pl ⟨.ref p,H,I,rfl,q⟩
noncomputable def tyV (K:PySem.W.Frag) (T:String) (x:V) (H:Hp):Prop:=match x with
 | .str _=>T="str"
 | .int _=>T="int"
 | .ref p=>(T="list" ∧ ∃ xs,SqL K H p xs)∨(T="tuple" ∧ ∃ xs,SqT K H p xs) ∨
   (T="dict" ∧ ((∃ kvs,H p=some (.dK kvs))∨∃ kvs,H p=some (.dT kvs)))∨(T="set" ∧ ∃ S n,H p=some (.set S n))
 | _=>False
theorem tyV_is {pins:List (Addr×Obj)} {σ:St} {H:Hp} {s:Shared} {T:String} {x:V} {v:Value} (I:Inv X pins σ H s) (r:RelV x v) (ty:tyV X.K T x H) :
  s.TypeIs v T∧∀ a,v=.ref a→∃ ob,s.heap.get? a=some ob∧ob.dict=none:=by
 cases x with
 | str z =>
  obtain ⟨t,rfl⟩:=r
  cases (show T="str" from ty)
  exact ⟨typeIs_str s z t,fun _ e=>nomatch e⟩
 | int i =>
  obtain ⟨t,rfl⟩:=r
  cases (show T="int" from ty)
  exact ⟨typeIs_int s i t,fun _ e=>nomatch e⟩
 | ref p =>
  cases r
  rcases ty with ⟨rfl,xs,hq⟩ | ⟨rfl,xs,hq⟩ | ⟨rfl,hk⟩ | ⟨rfl,S,n,hk⟩
  ·obtain ⟨its,_,pl,_⟩:=I.list hq
   refine ⟨pl.isList.typeIs,fun a e=>?_⟩
   cases e
   obtain ⟨o,n,e,c,hd,_⟩:=pl
   exact ⟨o,e,hd⟩
  ·obtain ⟨its,_,⟨o,e,c,d,_⟩,_⟩:=I.tupleP hq
   refine ⟨⟨o,e,c⟩,fun a e2=>?_⟩
   cases e2
   exact ⟨o,e,d⟩
  ·have z:∃ o,s.heap.get? p=some o∧o.ExactDict:=by
    rcases hk with ⟨kvs,hk⟩ | ⟨kvs,hk⟩
    ·obtain ⟨_,_,_,_,o,_,_,e,ex,_⟩:=I.hok p _ hk
     exact ⟨o,e,ex⟩
    ·obtain ⟨_,_,_,_,o,_,_,e,ex,_⟩:=I.hok p _ hk
     exact ⟨o,e,ex⟩
   obtain ⟨o,e,ex⟩:=z
   refine ⟨⟨o,e,ex.1⟩,fun a e2=>?_⟩
   cases e2
   exact ⟨o,e,ex.2.1⟩
  ·obtain ⟨o,_,_,_,e,ex,_⟩:=I.hok p _ hk
   refine ⟨⟨o,e,ex.1⟩,fun a e2=>?_⟩
   cases e2
   exact ⟨o,e,ex.2.1⟩
 | _=>exact False.elim ty
noncomputable def tBM (K:PySem.W.Frag) (T:String) (r:V→List V→Hp→VK→Prop) (to:TE) (t:TA):TE:=fun σ H Q=>to σ H fun x H1=>tyV K T x H1∧t σ H1 fun xs H2=>r x xs H2 Q
variable {o e:Expr} {es:List Expr} {to:TE} {t:TA} {name:Str} {apos cpos:Pos} {T id:String} {r:V→List V→Hp→VK→Prop}
theorem xaX (pa:PlainAttrs T) (slot:Slot T name id) (hty:typeOf (.builtin id)=pure (.type "method_descriptor")) (hm:MtR X id r) (ho:PE X o to) (ha:PA X (e :: es) t)
  (hbase:attributeBase o name X.env (eval o X.env)=eval o X.env:=by rfl)
  (hfew:((backTo cpos (starEach (e :: es) X.env)).all (fun x=>!x.1) && (backToKw cpos (keywordEach [] X.env)).all (fun x=>x.1.isSome)
   && decide ((e :: es).length + ([]:List Keyword).length + (if ([]:List Keyword).isEmpty then 0 else 1) < 30))=true:=by rfl)
  (hline:(apos.endLine == cpos.line)=true:=by rfl) (hs:starEach (e :: es) X.env=(false,eval e X.env) :: starEach es X.env:=by rfl) (hplain:(backTo cpos (starEach es X.env)).any (·.1)=false:=by rfl) :
  PE X (.Call (.Attribute o name apos) (e :: es) [] cpos) (tBM X.K T r to t):=by
 intro pins s σ H Q I h
 refine wpAny_Call_method_late hbase hfew hline rfl (thn (ho pins s σ H _ I h) fun v s1 ⟨x,H1,I1,r1,ty,q1⟩=>?_)
 obtain ⟨h1,h2⟩:=tyV_is I1 r1 ty
 refine ⟨T,id,pa,slot,hty,h1,h2,?_⟩
 have hA:=ha cpos pins s1 σ H1 _ I1 q1
 rw [hs] at hA ⊢
 refine Calls.callWith_builtin (by show (false || (backTo cpos (starEach es X.env)).any (·.1))=false;rw [hplain] <;> rfl) (Calls.evalArgs_plain ?_)
 exact thn hA fun us s2 ⟨vs,H2,I2,r2,q2⟩=>hm pins s2 σ H2 x vs v us Q I2 r1 r2 q2
end
end L2
namespace L2
open PySem PySem.Spec PyProof.Rows
noncomputable def MtM (X:Cx) (id:String) (r:V→List V→Hp→VK→Prop):Prop :=
 ∀ (pins:List (Addr×Obj)) (s:Shared) (σ:St) (H:Hp) (x:V) (xs:List V) (v:Value) (us:List Value) (Q:VK),Inv X pins σ H s→RelV x v→Vals xs us→r x xs H Q →
  wpAny (model X.prog X.w) X.A (call (.builtin id) (v :: us)) (EP X pins σ Q) X.xe s
theorem Vals.one:∀ {x:V} {us:List Value},Vals [x] us→∃ u,us=[u]∧RelV x u
 | _,_,.cons r .nil=>⟨_,rfl,r⟩
theorem Vals.eraseIdx:∀ {xs:List V} {us:List Value} (i:Nat),Vals xs us→Vals (xs.eraseIdx i) (us.eraseIdx i)
 | _,_,_,.nil=>.nil
 | _,_,0,.cons _ t=>t
 | _,_,i + 1,.cons r t=>.cons r (Vals.eraseIdx i t)
theorem Vals.rep {xs:List V} {us:List Value} (h:Vals xs us):∀ k:Nat,Vals (List.replicate k xs).flatten (List.replicate k us).flatten
 | 0=>.nil
 | k + 1=>by
  rw [List.replicate_succ,List.replicate_succ,List.flatten_cons,List.flatten_cons]
  exact Vals.append h (Vals.rep h k)
theorem ya7 {α:Type}:∀ (l:List α) (i:Nat),(l.eraseIdx i).length≤l.length
 | [],_=>Nat.le_refl _
 | _ :: _,0=>Nat.le_succ _
 | _ :: r,i + 1=>Nat.succ_le_succ (ya7 r i)
theorem Za7 (its:List Value):∀ (k:Nat) (acc:List Value),
  List.foldl (fun x1 x2=>x1 ++ x2) acc.toArray (List.replicate k its.toArray)=(acc ++ (List.replicate k its).flatten).toArray
 | 0,acc=>by simp
 | k + 1,acc=>by
  have e:acc.toArray ++ its.toArray=(acc ++ its).toArray:=by simp
  have e2:(acc ++ its) ++ (List.replicate k its).flatten=acc ++ (List.replicate (k + 1) its).flatten:=by
   rw [List.replicate_succ,List.flatten_cons,List.append_assoc]
  rw [← e2,← Za7 its k (acc ++ its),← e,List.replicate_succ,List.foldl_cons]
section
variable {X:Cx} {pins:List (Addr×Obj)} {σ:St} {H:Hp} {s:Shared} {l b:Addr} {xs ys zs:List V}
theorem Inv.lset {its its':List Value} {n:Nat} {f:Array Value→Array Value} {t':Nat} (I:Inv X pins σ H s) (hH:H l=some (.lst xs))
  (e:s.heap.get? l=some { cls:=.type "list",data:=.seq its.toArray n }) (hf:f its.toArray=its'.toArray) (hv:Vals ys its') (hz:ys.length≤sizeLine) :
  Inv X pins σ (upd H l (.lst ys)) { s with heap:=s.heap.update l (Obj.mapSeq f),toks:=t' }:=by
 have q:=PySem.IsL.update e f
 rw [hf] at q
 refine I.write (x:=l) (e:=l) (by rw [hH];exact trivial) (.inl rfl) (fun b' u hb hu=>(Heap.get?_update_other s.heap (Obj.mapSeq f) (Ne.symm hb)).trans hu) ⟨_,q⟩ ?_
 exact ⟨hz,its',_,hv,q⟩
theorem Inv.lnew {its:List Value} {t':Nat} (I:Inv X pins σ H s) (hv:Vals ys its) (hz:ys.length≤sizeLine) :
  Inv X pins σ (upd H s.heap.objs.size (.lst ys)) { s with heap:=s.heap.push { cls:=.type "list",data:=.seq its.toArray },toks:=t' } :=
 I.laid (fun _ _ q=>Heap.get?_push_of_some _ q) (Nat.le_refl _) ⟨hz,its,0,hv,Heap.get?_push_size _ rfl⟩
theorem Inv.fresh (I:Inv X pins σ H s):H s.heap.objs.size=none:=I.hok.fresh (Nat.le_refl _)
theorem Inv.lstM (I:Inv X pins σ H s) (hH:H l=some (.lst xs)):xs.length≤sizeLine∧∃ (its:List Value) (n:Nat),Vals xs its∧xs.length=its.length∧s.heap.get? l=some { cls:=.type "list",data:=.seq its.toArray n }:=by
 obtain ⟨z,its,n,r,e⟩:=I.hok l _ hH
 exact ⟨z,its,n,r,r.length,e⟩
theorem notLongL {n:Nat} (h:n≤sizeLine):Builtin.List.listTooLong n=false:=by
 unfold Builtin.List.listTooLong
 exact decide_eq_false (by omega)
end
section
variable {X:Cx}
noncomputable def rAppend:V→List V→Hp→VK→Prop:=fun x vs H Q=>∃ l xs y,x=.ref l∧vs=[y]∧H l=some (.lst xs)∧xs.length < sizeLine∧Q .non (upd H l (.lst (xs ++ [y])))
theorem xaw:MtM X "list.append" rAppend:=by
 intro pins s σ H x vs v us Q I rx rv h
 obtain ⟨l,xs,y,rfl,rfl,hH,hz,q⟩:=h
 cases rx
 obtain ⟨u,rfl,ru⟩:=rv.one
 obtain ⟨z,its,n,r,hl,e⟩:=I.lstM hH
 refine call_meets F.slot_list_append ⟨_,e,rfl⟩ F.entry_list_append (F.args_list_append_2 _ _) (PySem.list_append l its.toArray n u (by rw [List.size_toArray];omega)) ⟨e,?_⟩
 refine ⟨.non,_,I.lset (its':=its ++ [u]) hH e (by simp) (r.append (.cons ru .nil)) ?_,rfl,q⟩
 rw [List.length_append,List.length_singleton]
 omega
noncomputable def rPopAt:V→List V→Hp→VK→Prop:=fun x vs H Q=>∃ l xs i k y,x=.ref l∧vs=[.int i]∧H l=some (.lst xs)∧-(2 ^ 63)≤i∧i < 2 ^ 63∧seqIndex? i xs.length=some k∧xs[k]?=some y∧Q y (upd H l (.lst (xs.eraseIdx k)))
theorem YbF:MtM X "list.pop" rPopAt:=by
 intro pins s σ H x vs v us Q I rx rv h
 obtain ⟨l,xs,i,k,y,rfl,rfl,hH,h1,h2,hk,hy,q⟩:=h
 cases rx
 obtain ⟨u,rfl,ru⟩:=rv.one
 obtain ⟨t,rfl⟩:=ru
 obtain ⟨z,its,n,r,hl,e⟩:=I.lstM hH
 obtain ⟨w,hw,rw'⟩:=r.get hy
 refine call_meets F.slot_list_pop ⟨_,e,rfl⟩ F.entry_list_pop (F.args_list_pop_2 _ _)
  (MeetsSeq.list_pop_at l its.toArray n i t k w (fitsIndex_both h1 h2) (by rw [List.size_toArray,← hl];exact hk) (by rw [← Array.getElem?_toList];exact hw) (by rw [List.size_toArray];omega)) ⟨e,?_⟩
 refine ⟨y,_,I.lset (its':=its.eraseIdx k) hH e ?_ (r.eraseIdx k) ?_,rw',q⟩
 ·show its.toArray.eraseIdxIfInBounds k=(its.eraseIdx k).toArray
  rw [List.eraseIdxIfInBounds_toArray]
 ·have:=ya7 xs k
  omega
noncomputable def rCat:R2:=fun x y H Q=>∃ l b xs zs,x=.ref l∧y=.ref b∧H l=some (.lst xs)∧H b=some (.lst zs)∧xs.length + zs.length≤sizeLine∧∀ p,H p=none→Q (.ref p) (upd H p (.lst (xs ++ zs)))
theorem yaR:OpR X (binaryOp .Add) rCat:=by
 intro pins s σ H x y v u Q I rx ry h
 obtain ⟨l,b,xs,zs,rfl,rfl,hH,hB,hz,q⟩:=h
 cases rx
 cases ry
 obtain ⟨z,its,n,r,hl,e⟩:=I.lstM hH
 obtain ⟨z2,its2,n2,r2,hl2,e2⟩:=I.lstM hB
 refine PySem.P.add_list e e2 ?_ (by rw [List.size_toArray,List.size_toArray];omega)
 have ea:its.toArray ++ its2.toArray=(its ++ its2).toArray:=by simp
 rw [ea]
 exact ⟨.ref _,_,I.lnew (t':=s.toks) (r.append r2) (by rw [List.length_append];omega),rfl,q _ I.fresh⟩
noncomputable def rRep:R2:=fun x y H Q=>∃ l k xs,x=.ref l∧y=.int k∧H l=some (.lst xs)∧-(2 ^ 63)≤k∧k < 2 ^ 63∧xs.length * k.toNat≤sizeLine ∧
 ∀ p,H p=none→Q (.ref p) (upd H p (.lst (List.replicate k.toNat xs).flatten))
theorem YbS {α:Type} (xs:List α) (k:Nat):(List.replicate k xs).flatten.length=k * xs.length:=by
 induction k with
 | zero=>simp
 | succ k ih=>rw [List.replicate_succ,List.flatten_cons,List.length_append,ih,Nat.succ_mul,Nat.add_comm]
theorem op_rep:OpR X (binaryOp .Mult) rRep:=by
 intro pins s σ H x y v u Q I rx ry h
 obtain ⟨l,k,xs,rfl,rfl,hH,h1,h2,hz,q⟩:=h
 cases rx
 obtain ⟨t,rfl⟩:=ry
 obtain ⟨z,its,n,r,hl,e⟩:=I.lstM hH
 have hlen:its.toArray.size * k.toNat≤sizeLine:=by rw [List.size_toArray,← hl];exact hz
 have hcap:¬ its.toArray.size * k.toNat > (2 ^ 63 - 1) / 8:=by
  have:(sizeLine:Nat)≤(2 ^ 63 - 1) / 8:=by decide
  omega
 have hfit:¬ (!Builtin.List.listFitsIndex k)=true:=by
  rw [fitsIndex_both h1 h2]
  exact Bool.false_ne_true
 have hlong:¬ Builtin.List.listTooLong (its.toArray.size * k.toNat)=true:=by
  rw [notLongL hlen]
  exact Bool.false_ne_true
 have hnew:List.foldl (fun x1 x2=>x1 ++ x2) #[] (List.replicate (if its.toArray.isEmpty=true then 0 else k.toNat) its.toArray)=(List.replicate k.toNat its).flatten.toArray:=by
  have f0:∀ m:Nat,List.foldl (fun x1 x2=>x1 ++ x2) #[] (List.replicate m its.toArray)=(List.replicate m its).flatten.toArray:=fun m=>by
   have:=Za7 its m []
   rw [List.nil_append] at this
   exact this
  rw [f0]
  cases its with
  | nil=>simp
  | cons a r'=>rw [if_neg (by simp)]
 refine wpAny_binaryOp_repeat_ref (T:="list") (U:="int") (by decide) ⟨_,e,rfl⟩ (fun s'=>typeIs_int s' k t) noFill_list_mul F.fills_int_mul F.slot_int_rmul repeat_list F.slot_int_index.lookup
  (call_meets F.slot_int_rmul (typeIs_int s k t) F.entry_int_rmul (F.args_int_rmul_2 _ _) (int___rmul___int_list k t l its.toArray n)
   ⟨e,rfl,⟨_,e,rfl⟩,call_meets F.slot_list_mul ⟨_,e,rfl⟩ F.entry_list_mul (F.args_list_mul_2 _ _) (AutoListH.list___mul___list_int_3 l its.toArray n k t hfit hcap hlong) ⟨e,?_⟩⟩)
 rw [hnew]
 exact ⟨.ref _,_,I.lnew (t':=s.toks) (r.rep k.toNat) (by rw [YbS,Nat.mul_comm];exact hz),rfl,q _ I.fresh⟩
end
section
variable {prog:Program} {w:World} {A:Around} {E:Value→Shared→Prop} {s:Shared}
end
section
variable {X:Cx}
end
end L2
namespace L2
open PySem PySem.Spec PyProof.Rows
section
variable {κ:Type} [DecidableEq κ]
noncomputable def valV (kvs:List (κ×V)) (k:κ):Option V:=(kvs.find? fun kv=>decide (kv.1=k)).map (·.2)
noncomputable def putK (kvs:List (κ×V)) (k:κ) (v:V):List (κ×V) :=
 if (kvs.any fun kv=>decide (kv.1=k))=true then kvs.map (fun kv=>if kv.1=k then (kv.1,v) else kv) else kvs ++ [(k,v)]
theorem Ybi {p:κ×V} {r:List (κ×V)} {k:κ} (e:p.1=k):valV (p :: r) k=some p.2:=by simp [valV,List.find?_cons,e]
theorem xbi {p:κ×V} {r:List (κ×V)} {k:κ} (e:¬ p.1=k):valV (p :: r) k=valV r k:=by simp [valV,List.find?_cons,e]
theorem yaU (kvs:List (κ×V)) (k:κ) (v:V):(putK kvs k v).length≤kvs.length + 1:=by
 unfold putK
 split
 ·rw [List.length_map];omega
 ·rw [List.length_append,List.length_cons,List.length_nil];omega
theorem KV.val {kvs:List (κ×V)} {vs:List (κ×Value)} (r:KV kvs vs) (k:κ):RelO (valV kvs k) (valueAt vs k):=by
 unfold KV at r
 induction r with
 | nil=>exact True.intro
 | @cons p q ps qs h t ih =>
  obtain ⟨h1,h2⟩:=h
  by_cases e:p.1=k
  ·have e':q.1=k:=h1.symm.trans e
   have b:valueAt (q :: qs) k=some q.2:=by simp [valueAt,List.find?_cons,e']
   rw [Ybi e,b];exact h2
  ·have e':¬ q.1=k:=fun z=>e (h1.trans z)
   have b:valueAt (q :: qs) k=valueAt qs k:=by simp [valueAt,List.find?_cons,e']
   rw [xbi e,b];exact ih
theorem KV.any {kvs:List (κ×V)} {vs:List (κ×Value)} (r:KV kvs vs) (k:κ):(kvs.any fun kv=>decide (kv.1=k))=vs.any fun kv=>decide (kv.1=k):=by
 unfold KV at r
 induction r with
 | nil=>rfl
 | cons h t ih=>rw [List.any_cons,List.any_cons,ih,h.1]
theorem KV.repl {kvs:List (κ×V)} {vs:List (κ×Value)} (r:KV kvs vs) (k:κ) {y:V} {u:Value} (ry:RelV y u) :
  KV (kvs.map fun kv=>if kv.1=k then (kv.1,y) else kv) (vs.map fun kv=>if kv.1=k then (kv.1,u) else kv):=by
 unfold KV at r ⊢
 induction r with
 | nil=>exact .nil
 | @cons p q ps qs h t ih =>
  rw [List.map_cons,List.map_cons]
  refine .cons ?_ ih
  obtain ⟨h1,h2⟩:=h
  by_cases e:p.1=k
  ·rw [if_pos e,if_pos (h1.symm.trans e)];exact ⟨h1,ry⟩
  ·rw [if_neg e,if_neg (fun z=>e (h1.trans z))];exact ⟨h1,h2⟩
theorem KV.put {kvs:List (κ×V)} {vs:List (κ×Value)} (r:KV kvs vs) (k:κ) {y:V} {u:Value} (ry:RelV y u):KV (putK kvs k y) (stored vs k u):=by
 unfold putK stored
 rw [r.any k]
 by_cases e:(vs.any fun kv=>decide (kv.1=k))=true
 ·rw [if_pos e,if_pos e];exact r.repl k ry
 ·rw [if_neg e,if_neg e];exact Paired.snoc r ⟨rfl,ry⟩
theorem KV.length {kvs:List (κ×V)} {vs:List (κ×Value)} (r:KV kvs vs):kvs.length=vs.length:=Paired.length r
end
theorem xbF {P:Program} {w:World} {k:Key} {u:Value} (r:RelV (kV k) u):(mixKind P w).is k u=true:=by
 cases k with
 | inl i=>obtain ⟨t,e⟩:=(show ∃ t,u=Value.int i t from r);subst e;exact Xbc P w i t
 | inr x=>obtain ⟨t,e⟩:=(show ∃ t,u=Value.str x t from r);subst e;exact zbd P w x t
theorem Ya7 {P:Program} {w:World}:∀ {ks:List Key} {us:List Value},Vals (ks.map kV) us→ItemsAre (mixKind P w) ks us
 | [],_,r=>by rw [List.map_nil] at r;cases r;exact .nil
 | k :: ks,_,r=>by
  rw [List.map_cons] at r
  cases r with
  | cons h t=>exact .cons (xbF h) (Ya7 t)
abbrev KT (H:Hp):List (List Key×V)→List (List Key×Addr×Value)→Prop:=Paired fun p q=>p.1=q.1∧H q.2.1=some (.tup (p.1.map kV))∧RelV p.2 q.2.2
theorem KT.val {H:Hp} {kvs:List (List Key×V)} {xs:List (List Key×Addr×Value)} (r:KT H kvs xs) (k:List Key):RelO (valV kvs k) ((atKey xs k).map (·.2)):=by
 induction r with
 | nil=>exact True.intro
 | @cons p q ps qs h t ih =>
  obtain ⟨h1,_,h2⟩:=h
  by_cases e:p.1=k
  ·have e':q.1=k:=h1.symm.trans e
   have b:atKey (q :: qs) k=some q.2:=by simp [atKey,List.find?_cons,e']
   rw [Ybi e,b];exact h2
  ·have e':¬ q.1=k:=fun z=>e (h1.trans z)
   have b:atKey (q :: qs) k=atKey qs k:=by simp [atKey,List.find?_cons,e']
   rw [xbi e,b];exact ih
section
variable {P:Program} {w:World} {H:Hp} {h:Heap} {a:Addr}
theorem rd_of {u:HO} (ok:HOk P w H h) (e:Rd H a u):ObjOk P w H h a u:=e.ok ok
theorem XbF {kvs:List (Key×V)} (ok:HOk P w H h) (e:Rd H a (.dK kvs)):kvs.length≤sizeLine∧(a == sysModules)=false∧∃ vs,KV kvs vs∧h.DictOf (mixKind P w) a vs :=
 show ObjOk P w H h a (.dK kvs) from rd_of ok e
theorem xbS {kvs:List (Key×V)} (ok:HOk P w H h) (e:H a=some (.dK kvs)):kvs.length≤sizeLine∧(a == sysModules)=false∧∃ vs,KV kvs vs∧h.DictOf (mixKind P w) a vs:=XbF ok (.inl e)
theorem yaZ {ks:List Key} (ok:HOk P w H h) (e:H a=some (.tup (ks.map kV))):(tupleKind (mixKind P w)).is h ks a:=by
 obtain ⟨_,its,r,o,h1,h2,_,n,h3⟩:=(show ObjOk P w H h a (.tup (ks.map kV)) from ok a _ e)
 exact ⟨o,its.toArray,n,h1,h2,h3,by simpa using Ya7 r⟩
theorem XbS {kvs:List (List Key×V)} (ok:HOk P w H h) (e:Rd H a (.dT kvs)):kvs.length≤sizeLine∧(a == sysModules)=false ∧
  ∃ xs,KT H kvs xs∧h.DictOfH (tupleKind (mixKind P w)) a xs:=by
 obtain ⟨z,y,xs,r,o,es,ep,h1,h2,h3,h4,h5⟩:=(show ObjOk P w H h a (.dT kvs) from rd_of ok e)
 refine ⟨z,y,xs,r,o,es,ep,h1,h2,h3,h4,fun x hx=>?_,h5⟩
 have all:∀ {l:List (List Key×V)} {m:List (List Key×Addr×Value)},KT H l m→∀ x∈m,(tupleKind (mixKind P w)).is h x.1 x.2.1:=by
  intro l m q
  induction q with
  | nil=>intro x hx;exact nomatch hx
  | @cons p q ps qs hq t ih =>
   intro x hx
   rcases List.mem_cons.mp hx with e | hx
   ·subst e
    exact yaZ ok (by rw [← hq.1];exact hq.2.1)
   ·exact ih x hx
 exact all r x hx
end
noncomputable def DGet (H:Hp) (a:Addr) (y:V) (r:Option V):Prop :=
 (∃ kvs k,Rd H a (.dK kvs)∧y=kV k∧r=valV kvs k)∨∃ kvs k b,Rd H a (.dT kvs)∧y=.ref b∧H b=some (.tup (k.map kV))∧r=valV kvs k
theorem DGet.k {H:Hp} {a:Addr} {kvs:List (Key×V)} {k:Key} (e:H a=some (.dK kvs)):DGet H a (kV k) (valV kvs k):=.inl ⟨kvs,k,.inl e,rfl,rfl⟩
section
variable {X:Cx} {pins:List (Addr×Obj)} {σ:St} {H:Hp} {s:Shared} {a:Addr} {y v:V} {u r:Value} {o:Option V} {A:Around} {E:Value→Shared→Prop}
theorem Inv.big (I:Inv X pins σ H s):sysModules < s.heap.objs.size:=by
 have h:mainGlobals < s.heap.objs.size:=(I.mod.glob.keeps I.bk).lt
 exact Nat.lt_trans (by decide) h
theorem Xbs {Q:Value→Shared→Prop} (hu:A.units + 1 < cLine) (I:Inv X pins σ H s) (g:DGet H a y (some v)) (ry:RelV y u) (h:∀ w' s',Inv X pins σ H s'→RelV v w'→Q w' s') :
  wpAny (model X.prog X.w) A (getItem (.ref a) u) Q E s:=by
 rcases g with ⟨kvs,k,e,ey,l⟩ | ⟨kvs,k,b,e,ey,eb,l⟩
 ·subst ey
  obtain ⟨z,hd,vs,rel,dd⟩:=XbF I.hok e
  obtain ⟨w',hw,rw'⟩:=RelO.some_of (v:=v) (o:=valueAt vs k) (by rw [l];exact rel.val k)
  exact wpAny_getItem_of (xbF ry) dd.mapOf hw (h w' _ (I.tok _) rw')
 ·subst ey
  cases (show u=Value.ref b from ry)
  obtain ⟨z,hd,xs,rel,dd⟩:=XbS I.hok e
  obtain ⟨w',hw,rw'⟩:=RelO.some_of (v:=v) (o:=(atKey xs k).map (·.2)) (by rw [l];exact rel.val k)
  obtain ⟨p,hp,hp2⟩:=Option.map_eq_some_iff.mp hw
  refine wpAny_getItem_heap (tupleKind_room_in1 hu) (yaZ I.hok eb) dd hp ?_
  rw [hp2]
  exact h w' _ (I.tok _) rw'
theorem zbt {h':Heap} {t':Nat} {ob:HO} (I:Inv X pins σ H s) (mu:Mut (H a)) (hs:Heap.SameBut a s.heap h') (he:∃ q,h'.get? a=some q) (new:ObjOk X.prog X.w (upd H a ob) h' a ob) :
  Inv X pins σ (upd H a ob) { s with heap:=h',toks:=t' } :=
 I.write (x:=a) (e:=a) mu (.inl rfl) (fun b q hb z=>(hs.2 b hb).trans z) he new
theorem ZbO {P:Program} {w:World} {H':Hp} {h':Heap} {kvs:List (Key×V)} {vs:List (Key×Value)} (z:kvs.length≤sizeLine) (hd:(a == sysModules)=false) (rel:KV kvs vs) (dd:h'.DictOf (mixKind P w) a vs) :
  ObjOk P w H' h' a (.dK kvs):=⟨z,hd,vs,rel,dd⟩
end
section
variable {X:Cx} {pins:List (Addr×Obj)} {σ:St} {H:Hp} {s:Shared} {a:Addr} {kvs:List (Key×V)} {k:Key} {u:Value} {A:Around} {E:Value→Shared→Prop}
end
noncomputable def NoSl (i:Expr):Prop:=∀ ov iv,subscripted i false ov iv=operate [ov,iv] (getItem ov iv)
theorem zbT {prog:Program} {w:World} {A:Around} {E:Value→Shared→Prop} {s:Shared} {env:Env} {value slice:Expr} {pos:Pos} {T id:String} {Q:Value→Shared→Prop}
  (hl:typeLookup (.type T) "__getitem__" = pure (some (.builtin id))) (hs:NoSl slice)
  (h:wpAny (model prog w) A (eval value env) (fun o s₁=>wpAny (model prog w) A (eval slice env) (fun i s₂=>s₂.TypeIs o T∧wpAny (model prog w) A (getItem o i) Q E s₂) E s₁) E s) :
  wpAny (model prog w) A (eval (.Subscript value slice pos) env) Q E s:=by
 refine Subscript_ (wpAny_mono h (fun o s₁ h₁=>wpAny_mono h₁ (fun i s₂ h₂=>?_) fun _ _ x=>x) fun _ _ x=>x)
 obtain ⟨hT,h₂⟩:=h₂
 unfold subscriptTail
 refine wpAny_bind ?_
 rw [getitemInPython_of_ne hT.not_modules]
 refine wpAny_bind (wpAny_specialOf hT hl ?_)
 have fin:wpAny (model prog w) A (subscripted slice false o i) (fun r s₃=>wpAny (model prog w) A (letTemporaryGo value o r >>= fun _=>pure r) Q E s₃) E s₂:=by
  rw [hs o i]
  exact wpAny_operating (wpAny_mono h₂ (fun r s₃ h₃=>wpAny_bind (wpAny_letTemporaryGo (wpAny_pure h₃))) fun _ _ x=>x)
 first
  | exact wpAny_pure (wpAny_bind fin)
  | exact wpAny_bind (wpAny_pure (wpAny_bind fin))
  | exact wpAny_bind fin
theorem Zbe {X:Cx} {pins:List (Addr×Obj)} {σ:St} {H:Hp} {s:Shared} {a:Addr} {y:V} {o:Option V} (I:Inv X pins σ H s) (g:DGet H a y o):s.TypeIs (.ref a) "dict" := by
 rcases g with ⟨kvs,k,e,_,_⟩ | ⟨kvs,k,b,e,_,_,_⟩
 ·obtain ⟨_,_,vs,_,dd⟩:=XbF I.hok e
  exact dd.typeIs
 ·obtain ⟨_,_,xs,_,dd⟩:=XbS I.hok e
  exact dd.typeIs
noncomputable def tDGet (td ty:TE):TE:=fun σ H Q=>td σ H fun x H1=>ty σ H1 fun y H2=>∃ a v,x=.ref a∧DGet H2 a y (some v)∧Q v H2
section
variable {X:Cx} {o i e value:Expr} {pos pos' tpos:Pos} {td ty tv:TE}
theorem ybt (hu:X.A.units + 1 < cLine) (ho:PE X o td) (hi:PE X i ty) (hs:NoSl i):PE X (.Subscript o i pos) (tDGet td ty):=by
 intro pins s σ H Q I h
 refine zbT PySem.F.slot_dict_getitem.lookup hs (thn (ho pins s σ H _ I h) fun u s1 ⟨x,H1,I1,rx,q1⟩=>thn (hi pins s1 σ H1 _ I1 q1) fun iv s2 ⟨y,H2,I2,ry,a,v,ex,g,q2⟩=>?_)
 subst ex
 obtain rfl:u=Value.ref a:=rx
 exact ⟨Zbe I2 g,Xbs hu I2 g ry fun w' s3 I3 rw'=>⟨v,H2,I3,rw',q2⟩⟩
end
theorem zbG {P:Program} {w:World} {H:Hp} (h:Heap) (hb:sysModules < h.objs.size):ObjOk P w H (h.push { cls:=.type "dict",data:=.dict #[] }) h.objs.size (.dK []) :=
 ⟨Nat.zero_le _,beq_eq_false_iff_ne.mpr (Ne.symm (Nat.ne_of_lt hb)),[],.nil,Heap.DictOf.new h⟩
section
variable {X:Cx} {pos:Pos}
end
noncomputable def tPairs:List (TE×TE)→St→Hp→(List (V×V)→Hp→Prop)→Prop
 | [],_,H,Q=>Q [] H
 | (tk,tv) :: r,σ,H,Q=>tk σ H fun x H1=>tv σ H1 fun y H2=>tPairs r σ H2 fun ps H3=>Q ((x,y) :: ps) H3
abbrev VV:List (V×V)→List (Value×Value)→Prop:=Paired fun p q=>RelV p.1 q.1∧RelV p.2 q.2
noncomputable def PPs (X:Cx) (pos:Pos) (keys:List (Option Expr)) (values:List Expr) (trs:List (TE×TE)):Prop :=
 ∀ (pins:List (Addr×Obj)) (s:Shared) (σ:St) (H:Hp) (Q:List (V×V)→Hp→Prop),Inv X pins σ H s→tPairs trs σ H Q →
  wpAny (model X.prog X.w) X.A (evalPairs (pairTrees keys values X.env pos)) (fun vs s'=>∃ ps H',Inv X pins σ H' s'∧VV ps vs∧Q ps H') X.xe s
theorem ybT {X:Cx} {pos:Pos}:PPs X pos [] [] []:=fun pins s σ H Q I h=>pairTrees_nil_walk ⟨[],H,I,.nil,h⟩
theorem ybG {X:Cx} {pos:Pos} {k v:Expr} {ks:List (Option Expr)} {vs:List Expr} {tk tv:TE} {trs:List (TE×TE)} (hk:PE X k tk) (hv:PE X v tv) (hr:PPs X pos ks vs trs) :
  PPs X pos (some k :: ks) (v :: vs) ((tk,tv) :: trs):=fun pins s σ H Q I h =>
 pairTrees_cons_walk (thn (hk pins s σ H _ I h) fun u s1 ⟨x,H1,I1,rx,q1⟩=>thn (hv pins s1 σ H1 _ I1 q1) fun w2 s2 ⟨y,H2,I2,ry,q2⟩ =>
  thn (hr pins s2 σ H2 _ I2 q2) fun ws s3 ⟨ps,H3,I3,rel,q3⟩=>⟨(x,y) :: ps,H3,I3,.cons ⟨rx,ry⟩ rel,q3⟩)
noncomputable def mergeK (kvs more:List (Key×V)):List (Key×V):=more.foldl (fun acc kv=>putK acc kv.1 kv.2) kvs
theorem KV.merge:∀ {more:List (Key×V)} {rs:List (Key×Value)} {kvs:List (Key×V)} {vs:List (Key×Value)},KV more rs→KV kvs vs→KV (mergeK kvs more) (merged vs rs):=by
 intro more rs kvs vs r
 unfold KV at r
 induction r generalizing kvs vs with
 | nil=>intro q;exact q
 | @cons p q ps qs h t ih =>
  intro r0
  have e:KV (putK kvs p.1 p.2) (stored vs q.1 q.2):=by
   have:=r0.put p.1 h.2
   rw [← h.1];exact this
  exact ih e
theorem xaM:∀ (more kvs:List (Key×V)),(mergeK kvs more).length≤kvs.length + more.length
 | [],kvs=>by show kvs.length≤kvs.length + 0;omega
 | p :: r,kvs=>by
  have h1:=xaM r (putK kvs p.1 p.2)
  have h2:=yaU kvs p.1 p.2
  show (mergeK (putK kvs p.1 p.2) r).length≤_
  rw [List.length_cons];omega
theorem ZaZ {P:Program} {w:World}:∀ {kvs:List (Key×V)} {ws:List (Value×Value)},VV (kvs.map fun kv=>(kV kv.1,kv.2)) ws→∃ rs,Carries (mixKind P w) ws rs∧KV kvs rs
 | [],_,r=>by rw [List.map_nil] at r;cases r;exact ⟨[],True.intro,.nil⟩
 | p :: kvs,_,r=>by
  rw [List.map_cons] at r
  cases r with
  | @cons a b as bs h t =>
   obtain ⟨rs,c,q⟩:=ZaZ (P:=P) (w:=w) t
   obtain ⟨b1,b2⟩:=b
   exact ⟨(p.1,b2) :: rs,⟨xbF h.1,rfl,c⟩,.cons ⟨rfl,h.2⟩ q⟩
noncomputable def tDisp (trs:List (TE×TE)):TE:=fun σ H Q=>∀ p,H p=none→tPairs trs σ (upd H p (.dK [])) fun ps H2=>H2 p=some (.dK [])∧∃ kvs:List (Key×V),ps=kvs.map (fun kv=>(kV kv.1,kv.2))∧kvs.length≤15∧Q (.ref p) (upd H2 p (.dK (mergeK [] kvs)))
theorem ZbT {X:Cx} {pos:Pos} {keys:List (Option Expr)} {values:List Expr} {trs:List (TE×TE)} (h:PPs X pos keys values trs) (hall:keys.all (·.isSome)=true) (hl:keys.length=values.length) (h0:keys≠[])
  (h15:keys.length≤15):PE X (.Dict keys values pos) (tDisp trs):=by
 intro pins s σ H Q I q
 have hn:=I.hok.fresh (Nat.le_refl s.heap.objs.size)
 have I1:=I.laid (a:=s.heap.objs.size) (o:=.dK []) (h':=s.heap.push { cls:=.type "dict",data:=.dict #[] }) (t':=s.toks) (fun _ _ q=>Heap.get?_push_of_some _ q) (Nat.le_refl _) (zbG s.heap I.big)
 refine wpAny_Dict_walk (knd:=mixKind X.prog X.w) hall hl h0 h15 (thn (h pins _ σ _ _ I1 (q _ hn)) fun ws s2 ⟨ps,H2,I2,rel,e,kvs,ep,lk,q2⟩=>?_)
 subst ep
 obtain ⟨rs,c,rk⟩:=ZaZ (P:=X.prog) (w:=X.w) rel
 obtain ⟨z,hd,vs0,r0,dd⟩:=xbS I2.hok e
 cases r0
 refine ⟨rs,c,dd,fun h' dd' hs=>⟨.ref s.heap.objs.size,_,?_,rfl,q2⟩⟩
 have hz:(mergeK [] kvs).length≤sizeLine:=by
  have h1:=xaM kvs []
  rw [List.length_nil] at h1
  rw [sizeLine_eq];omega
 have he:∃ q,h'.get? s.heap.objs.size=some q:=let ⟨q,_,_,hq,_⟩:=dd';⟨q,hq⟩
 exact zbt I2 (by rw [e];exact True.intro) hs he (ZbO hz hd (rk.merge .nil) dd')
structure M2 (X:Cx) (o:Expr) (m:Str) (apos:Pos) (e f:Expr) (cpos:Pos):Prop where
 base:attributeBase o m X.env (eval o X.env)=eval o X.env
 few:((backTo cpos (starEach [e,f] X.env)).all (fun x=>!x.1) && (backToKw cpos (keywordEach [] X.env)).all (fun x=>x.1.isSome)
  && decide (([e,f]:List Expr).length + ([]:List Keyword).length + (if ([]:List Keyword).isEmpty then 0 else 1) < 30))=true
 line:(apos.endLine == cpos.line)=true
 trees:backTo cpos (starEach [e,f] X.env)=[(false,eval e X.env),(false,eval f X.env)]
noncomputable def IsD (H:Hp) (a:Addr):Prop:=(∃ kvs,Rd H a (.dK kvs))∨∃ kvs,Rd H a (.dT kvs)
theorem YbO {X:Cx} {pins:List (Addr×Obj)} {σ:St} {H:Hp} {s:Shared} {a:Addr} (I:Inv X pins σ H s) (d:IsD H a) :
  s.TypeIs (.ref a) "dict" ∧ (∀ b,Value.ref a=.ref b→∃ ob,s.heap.get? b=some ob∧ob.dict=none)∧(a == sysModules)=false:=by
 rcases d with ⟨kvs,e⟩ | ⟨kvs,e⟩
 ·obtain ⟨_,hd,vs,_,dd⟩:=XbF I.hok e
  refine ⟨dd.typeIs,fun b q=>?_,hd⟩
  cases q
  obtain ⟨ob,_,_,h1,h2,_⟩:=dd
  exact ⟨ob,h1,h2.2.1⟩
 ·obtain ⟨_,hd,xs,_,dd⟩:=XbS I.hok e
  refine ⟨dd.typeIs,fun b q=>?_,hd⟩
  cases q
  obtain ⟨ob,_,_,h1,h2,_⟩:=dd
  exact ⟨ob,h1,h2.2.1⟩
section
variable {X:Cx} {pins:List (Addr×Obj)} {σ:St} {H:Hp} {s:Shared} {a:Addr} {y d:V} {u r:Value} {o:Option V} {A:Around} {E:Value→Shared→Prop}
end
section
variable {X:Cx} {o e f:Expr} {apos cpos:Pos} {td ty tx:TE}
end
section
variable {X:Cx} {pins:List (Addr×Obj)} {σ:St} {H:Hp} {s:Shared} {a:Addr} {kvs:List (Key×V)} {A:Around} {E:Value→Shared→Prop}
end
section
variable {X:Cx} {pins:List (Addr×Obj)} {σ:St} {H:Hp} {s:Shared} {a:Addr} {y:V} {u:Value} {A:Around} {E:Value→Shared→Prop}
end
end L2
namespace Att
open PySem PySem.W PySem.Calls PyProof.Rows
theorem ZaU {P:Params} {h:Heap}:∀ (ns:List Int) (vs:List Value),WellAll P h vs (ns.map WData.int)→IntsAre vs ns:=by
 intro ns
 induction ns with
 | nil =>
  intro vs w
  rw [List.map_nil] at w
  cases w
  exact .nil
 | cons n ns ih =>
  intro vs w
  rw [List.map_cons] at w
  cases w with
  | cons a b =>
   cases a
   exact .cons _ _ (ih _ b)
theorem Zbt {l:OpenLaw} {n:Nat} (hn:l.most=some n) {P:Params} {h:Heap} {args:List WData} {vals:List Value}
  (hpre:l.row.toRowW.claim.pre args=true) (hwl:WellAll P h vals args) :
  ∃ a vs ns,vals=[Value.ref a]∧args=[WData.list (ns.map WData.int)]∧h.get? a=some { cls:=.type "list",data:=.seq vs.toArray }∧IntsAre vs ns∧ns.length≤n:=by
 have hsh:WShape.hasAll [] args [.list .int]=true:=(pre_splitW hpre).1
 have hc:l.pre.holds [] { args:=args }=true:=(pre_splitW hpre).2
 obtain ⟨d,r,rfl,h1,h2⟩:=hasAllW_cons hsh
 obtain rfl:=hasAllW_nil h2
 obtain ⟨xs,rfl,h3⟩:=hasW_list h1
 obtain ⟨ns,rfl⟩:=items_int h3
 have hlen:ns.length≤n:=by
  unfold OpenLaw.pre at hc
  have h4:(WTm.not (.lt (.lit (.int (n:Int))) (.len (.arg 0)))).holds [] { args:=[.list (ns.map .int)] }=true:=by
   have h4:=(holds_andW hc).1
   rw [hn] at h4
   exact h4
  have h5:=condW_of h4 (w_not (w_lt w_lit (w_len_list (w_arg rfl))))
  rw [List.length_map] at h5
  refine Nat.le_of_not_lt fun q=>?_
  have q':(n:Int) < ((ns.length:Nat):Int):=by omega
  first
   | (rw [decide_eq_true q'] at h5;exact absurd h5 (by decide))
   | (simp at h5;omega)
 cases hwl with
 | cons w1 w2 =>
  cases w2
  cases w1 with
  | list ho hall=>exact ⟨_,_,ns,rfl,rfl,ho,ZaU ns _ hall,hlen⟩
theorem Ybt (l:OpenLaw) (args:List WData):l.row.toRowW.claim.post args (.bool true) args=true :=
 postW_of (r:=l.row.toRowW) (X:=(true == true))
  (show WShape.has [] (.bool true) .bool=true by first | rfl | decide | simp [WShape.has,WShape.arms,WShape.armsAll])
  (show (WTm.eq .res (.lit (.bool true))).value [] { args:=args,res:=some (.bool true),after:=args }=some (.bool (true == true)) from w_eq_bool (w_res rfl) w_lit) rfl
theorem Ybe {l:OpenLaw} {n:Nat} {q:Program} {loose:List Str} {XP:(Str→Option Value)→Heap→Prop} {YP:World→Heap→Prop} {d:DefRec}
  (hn:l.most=some n) (hdf:d.params.defaults=[])
  (call:∀ (w:World) (s₀ s₁:Shared) (mg mb:Str→Option Value) (fa:Addr) (o:Obj) (pm cd doc:Value) (a:Addr) (vs:List Value) (ns:List Int),
   Ground q loose [] XP w s₀ mg mb s₁.heap→YP w s₁.heap →
   s₁.heap.get? fa=some o→o.data=.func (docDef d.name d.params d.body d.scope pm cd doc)→s₁.heap.CodeRec cd d.name→mg d.name=some (.ref fa) →
   s₁.heap.get? a=some { cls:=.type "list",data:=.seq vs.toArray }→IntsAre vs ns→ns.length≤n→s₁.gens=#[] →
   codeAny (model l.prog w) callerA (.call (.ref fa) ⟨[.ref a],[]⟩) (fun r s'=>r=.ok (.ret (.bool true))∧OldK s₁.heap s'.heap∧s'.os=s₁.os∧AllBare s'.gens) s₁) :
  WalkO q loose XP YP l.row.toRowW d [] (fun f vs=>PySem.call f vs):=by
 intro w s₀ s₁ mg mb G Y fa o pm cd doc dV kV ho hd hcd hD hmg hg args vals as hpre hlay hrd hwl hlo
 obtain rfl:dV=.none:=Dflts.none hD hdf
 obtain rfl:kV=.none:=Dflts.noKw hD
 obtain ⟨a,vs,ns,rfl,rfl,hobj,hints,hlen⟩:=Zbt hn hpre hwl
 refine enter_call (codeAny_mono (call w s₀ s₁ mg mb fa o pm cd doc a vs ns G Y ho (fd_plain hd) hcd hmg hobj hints hlen hg) fun r s' hq=>?_)
 obtain ⟨rfl,h2,h3,h4⟩:=hq
 exact ⟨.inl ⟨.bool true,.bool true,[],rfl,fun _=>rfl,.bool true,Ybt l _,fun _=>⟨List.Pairwise.nil,fun _ hm=>(nomatch hm)⟩⟩,h2,h3,h4⟩
section
variable {prog:Program} {w:World} {A:Around} {E:Value→Shared→Prop} {s:Shared} {K:Frag}
end
end Att
namespace L2
open PySem PySem.Spec PyProof.Rows
theorem YaU:∀ {vs:List Value} {ns:List Int},IntsAre vs ns→Vals (ns.map V.int) vs
 | _,_,.nil=>.nil
 | _,_,.cons n t h=>.cons ⟨t,rfl⟩ (YaU h)
noncomputable def Only (H:Hp):Prop:=∀ b,H b=none∨∃ o xs,H b=some (.frz o (.lst xs))
theorem ZbG {P:Program} {w:World} {K:PySem.W.Frag} {mg mb:Str→Option Value} {CX:CXT} {k:Nat} {fa a:Addr} {fd:FuncData} {x:Str} {sp:Sp} {s₁:Shared} {vs:List Value} {ns:List Int}
  (KX:K.In s₁.heap) (hns:s₁.heap.Ns mainGlobals mg) (hb:s₁.heap.Ns builtinsNs mb) (hbb:∀ x:Str,x≠"__name__" → mb x=bootBuiltins x) (hlim:s₁.heap.NoLimit) (hg:s₁.gens=#[])
  (ha:s₁.heap.get? a=some { cls:=.type "list",data:=.seq vs.toArray }) (hi:IntsAre vs ns) (hl:ns.length≤sizeLine) (hr:Room k callerA)
  (F:∀ base:Heap,K.In base→base.Ns mainGlobals mg→FnOk P w K mg base CX k fa fd [x] sp) (hbind:∀ (s:Shared) (u:Value),BindsTo s fd ⟨[u],[]⟩ [(x,u)])
  (hsp:∀ H:Hp,Only H→SqL K H a (ns.map V.int)→sp [.ref a] H (fun v _=>v=.bl true) fun _ _ _=>False)
  (hCX:∀ H e s',CX [] H s₁ (fun _ _ _=>False) e s'→False) :
  codeAny (model P w) callerA (.call (.ref fa) ⟨[.ref a],[]⟩) (fun r s'=>r=.ok (.ret (.bool true))∧OldK s₁.heap s'.heap∧s'.os=s₁.os∧AllBare s'.gens) s₁:=by
 have rv:=YaU hi
 have lenV:=hi.length
 have core:∀ H:Hp,Only H→SqL K H a (ns.map V.int)→HOk P w H s₁.heap→(∀ b,H b≠none→b=a)→(H a≠none→K.lookup a=none) →
   codeAny (model P w) callerA (.call (.ref fa) ⟨[.ref a],[]⟩) (fun r s'=>r=.ok (.ret (.bool true))∧OldK s₁.heap s'.heap∧s'.os=s₁.os∧AllBare s'.gens) s₁:=by
  intro H hO hS hok hA hK
  have base_of:∀ {b:Addr} {o:Obj},s₁.heap.get? b=some o→H b=none→(hidT s₁.heap H).get? b=some o:=fun e n=>YbE e n
  have noA:∀ {b:Addr} {o:Obj} {es:Array DictEntry} {ep:Nat},s₁.heap.get? b=some o→o.data=.dict es ep→H b=none:=fun {b o es ep} e d=>by
   cases q:H b with
   | none=>rfl
   | some u =>
    have e':b=a:=hA b (by rw [q];simp)
    subst e'
    rw [ha] at e;cases e
    have d':Data.seq vs.toArray _=Data.dict es ep:=d
    cases d'
  have nsK:∀ {b:Addr} {m:Str→Option Value},s₁.heap.Ns b m→(hidT s₁.heap H).Ns b m:=fun {b m} ⟨o,es,ep,e,d,r⟩=>⟨o,es,ep,base_of e (noA e d),d,r⟩
  have hKb:K.In (hidT s₁.heap H):=fun b o e=>base_of (KX b o e) (by
   cases q:H b with
   | none=>rfl
   | some u =>
    have e':b=a:=hA b (by rw [q];simp)
    subst e'
    rw [hK (by rw [q];simp)] at e;cases e)
  have hM:Mod K mg (hidT s₁.heap H):=⟨hKb,nsK hns,⟨mb,nsK hb,hbb⟩,let ⟨mc,h1,h2⟩:=hlim;⟨mc,nsK h1,h2⟩⟩
  have e0:Env0 P w K mg (hidT s₁.heap H) callerA [] s₁ H:=⟨rfl,hM,fun b o e=>ybR e,Nat.le_of_eq (Ybq _ _),trivial,fun b hb=>absurd (show b∈([]:List Addr) from hb) (by simp),hok,.of_eq hg⟩
  refine codeAny_mono ((F _ hKb (nsK hns)).run callerA [] s₁ H ⟨[.ref a],[]⟩ [.ref a] [.ref a] _ _ hr e0 (hbind s₁ (.ref a)) (.cons rfl .nil) (hsp H hO hS)) fun r s' h=>?_
  cases r with
  | error e=>exact (hCX H e s' h).elim
  | ok fl =>
   cases fl with
   | next=>exact False.elim h
   | brk=>exact False.elim h
   | cont=>exact False.elim h
   | ret u =>
    obtain ⟨v,H',os,bare,un,hok',r',q⟩:=h
    have q':v=.bl true:=q
    subst q'
    obtain rfl:u=Value.bool true:=r'
    refine ⟨rfl,OldK.of_keep fun b o e=>?_,os,bare⟩
    cases q:H b with
    | none=>exact un.keep b o e q (by intro z;exact absurd (show b∈([]:List Addr) from z) (by simp)) (by simp)
    | some u =>
     rcases hO b with z | ⟨ob,xs,z⟩
     ·rw [q] at z;cases z
     ·have z2:=un.frzs b ob _ z
      obtain ⟨e1,_⟩:=hok b _ z
      obtain ⟨e2,_⟩:=hok' b _ z2
      rw [e] at e1;cases e1
      exact e2
 cases hk:K.lookup a with
 | some o =>
  have e:=KX a o hk
  rw [ha] at e
  cases e
  refine core (fun _=>none) (fun _=>.inl rfl) (.inr ⟨_,vs.toArray,_,hk,rfl,rfl,rfl,by rw [List.size_toArray,lenV];exact hl,by simpa using rv⟩) (fun b u z=>by have z':(none:Option HO)=some u:=z;cases z') (fun b z=>absurd rfl z) fun z=>absurd rfl z
 | none =>
  refine core (fun b=>if b=a then some (.frz { cls:=.type "list",data:=.seq vs.toArray } (.lst (ns.map V.int))) else none) (fun b=>?_) (.inl (.inr ⟨{ cls:=.type "list",data:=.seq vs.toArray },if_pos rfl⟩)) (fun b u z=>?_) (fun b z=>?_) fun _=>hk
  ·by_cases hb:b=a
   ·exact .inr ⟨_,_,if_pos hb⟩
   ·exact .inl (if_neg hb)
  ·by_cases hb:b=a
   ·have z':=(if_pos hb).symm.trans z
    cases z'
    subst hb
    exact ⟨ha,by rw [List.length_map];exact hl,vs,_,rv,ha⟩
   ·have z':=(if_neg hb).symm.trans z
    cases z'
  ·by_cases hb:b=a
   ·exact hb
   ·exact absurd (if_neg hb) z
end L2
namespace L2
open PySem PySem.Spec PyProof.Rows
abbrev KOf {K:PySem.W.Frag} {h:Heap} (_:K.In h):PySem.W.Frag:=K
theorem YbT {l:PySem.W.OpenLaw} {n k:Nat} {q:Program} {loose:List Str} {XP:(Str→Option Value)→Heap→Prop} {YP:World→Heap→Prop} {d:DefRec} {K:Params→PySem.W.Frag} {CX:World→CXT} {sp:World→Sp} {x:Str}
  (hn:l.most=some n) (hn2:n≤sizeLine) (hdf:d.params.defaults=[]) (hr:Room k callerA)
  (hY:∀ (w:World) (h:Heap),YP w h→(K w.params).In h)
  (F:∀ (w:World) (mg:Str→Option Value) (fa:Addr) (h:Heap),(K w.params).In h→h.Ns mainGlobals mg→mg d.name=some (.ref fa) →
   ∃ fd:FuncData,(∀ (s:Shared) (u:Value),BindsTo s fd ⟨[u],[]⟩ [(x,u)]) ∧
    ∀ base:Heap,(K w.params).In base→base.Ns mainGlobals mg→FnOk l.prog w (K w.params) mg base (CX w) k fa fd [x] (sp w))
  (hsp:∀ (w:World) (H:Hp) (a:Addr) (ns:List Int),ns.length≤n→Only H→SqL (K w.params) H a (ns.map V.int)→sp w [.ref a] H (fun v _=>v=.bl true) fun _ _ _=>False)
  (hCX:∀ (w:World) (H:Hp) (s:Shared) (e:Value) (s':Shared),CX w [] H s (fun _ _ _=>False) e s'→False) :
  PySem.W.WalkO q loose XP YP l.row.toRowW d [] (fun f vs=>PySem.call f vs):=by
 refine Att.Ybe hn hdf fun w s₀ s₁ mg mb fa o pm cd doc a vs ns G Y ho hd hcd hmg hobj hints hlen hg=>?_
 have KX:=hY w _ Y
 obtain ⟨fd,hb,hF⟩:=F w mg fa _ KX G.T.g hmg
 exact ZbG KX G.T.g G.T.b G.T.builtins G.T.nolimit hg hobj hints (Nat.le_trans hlen hn2) hr hF hb (fun H hO hS=>hsp w H a ns hlen hO hS) fun H e s'=>hCX w H s₁ e s'
theorem YbG {l:PySem.W.OpenLaw} {n k:Nat} {q:Program} {loose:List Str} {XP:(Str→Option Value)→Heap→Prop} {YP:World→Heap→Prop} {d:DefRec} {K:Params→PySem.W.Frag} {CX:CXT} {sp:PySem.W.Frag→Sp} {x:Str}
  (hn:l.most=some n) (hn2:n≤sizeLine) (hdf:d.params.defaults=[]) (hr:Room k callerA)
  (hY:∀ (w:World) (h:Heap),YP w h→(K w.params).In h)
  (F:∀ (w:World) (mg:Str→Option Value) (fa:Addr) (h:Heap),(K w.params).In h→h.Ns mainGlobals mg→mg d.name=some (.ref fa) →
   ∃ fd:FuncData,(∀ (s:Shared) (u:Value),BindsTo s fd ⟨[u],[]⟩ [(x,u)]) ∧
    ∀ base:Heap,(K w.params).In base→base.Ns mainGlobals mg→FnOk l.prog w (K w.params) mg base CX k fa fd [x] (sp (K w.params)))
  (hsp:∀ (K:PySem.W.Frag) (H:Hp) (a:Addr) (ns:List Int),ns.length≤n→Only H→SqL K H a (ns.map V.int)→sp K [.ref a] H (fun v _=>v=.bl true) fun _ _ _=>False)
  (hCX:∀ (H:Hp) (s:Shared) (e:Value) (s':Shared),CX [] H s (fun _ _ _=>False) e s'→False) :
  PySem.W.WalkO q loose XP YP l.row.toRowW d [] (fun f vs=>PySem.call f vs) :=
 YbT (K:=K) (CX:=fun _=>CX) (sp:=fun w=>sp (K w.params)) hn hn2 hdf hr hY F (fun w H a ns h1 h2 h3=>hsp (K w.params) H a ns h1 h2 h3) fun _ H s e s'=>hCX H s e s'
end L2
namespace L2
open PySem PySem.Spec PyProof.Rows
noncomputable def defArgs (s:Stmt):Arguments:=match s with
 | .FunctionDef _ a _ _ _ _ _ _ _ _=>a
 | _=>{ posonlyargs:=[],args:=[],vararg:=none,kwonlyargs:=[],kw_defaults:=[],kwarg:=none,defaults:=[] }
noncomputable def defBody (s:Stmt):List Stmt:=match s with
 | .FunctionDef _ _ b _ _ _ _ _ _ _=>b
 | _=>[]
noncomputable def defScope (s:Stmt):Scope:=match s with
 | .FunctionDef _ _ _ _ _ _ sc _ _ _=>sc
 | _=>{ kind:=.function,names:=[],isGenerator:=false,isCoroutine:=false }
abbrev CX0:CXT:=fun _ _ _ _ _ _=>False
abbrev E0:XK:=fun _ _ _=>False
theorem pass0 {X:Cx}:Passes CX0 X E0:=fun _ _ _ _ _ _ _ h=>h.elim
structure Fun (K:PySem.W.Frag) (x qual:Str) (st:Stmt) (f:Addr) (fd:FuncData):Prop where
 ex:∃ (oc:Value) (od:Option Addr) (kV doc pm:Value) (an:Option Addr) (cdv ct:Value) (osl:Array (Option Value)),
  fd=PySem.W.fnOf x qual (defArgs st) (defBody st) (defScope st) .none kV doc pm an cdv ct∧K.lookup f=some ⟨oc,od,.func fd,osl⟩∧PySem.W.codeIn K cdv qual=true
 kp:PySem.W.keepIn K (.ref f)=true
section
variable {P:Program} {w:World} {K:PySem.W.Frag} {mg:Str→Option Value} {base:Heap}
theorem Fun.ok {x qual:Str} {st:Stmt} {f:Addr} {fd:FuncData} {N ps:List Str} {k:Nat} {sp:Sp} (F:Fun K x qual st f fd) (S:FnScope N ps (defScope st)) (len:∀ vs H Q E,sp vs H Q E→vs.length=ps.length)
  (hbody:∀ (cdv:Value) (A:Around) (outer:List Env) (s:Shared) (H:Hp) (vs:List V) (Q:VK) (E:XK),Room k (A.deeper (envOfC qual (defScope st) s.heap.objs.size f cdv))→sp vs H Q E →
   ∃ t,PSs (cxOf CX0 P w K mg base N qual (defScope st) f cdv A outer s H E).nox (defBody st) t∧t { nx:=fun _ H'=>Q .non H',rt:=Q } (start N vs) H):FnOk P w K mg base CX0 (k + 1) f fd ps sp:=by
 obtain ⟨oc,od,kV,doc,pm,an,cdv,ct,osl,rfl,lk,hcd⟩:=F.ex
 refine fn_of lk hcd S len fun A outer s H vs Q E hr hsp=>?_
 obtain ⟨t,h,q⟩:=hbody cdv A outer s H vs Q E hr hsp
 exact ⟨t,h.nox,q⟩
theorem fun_mk {x qual:Str} {st:Stmt} {f:Addr} {oc:Value} {od an:Option Addr} {osl:Array (Option Value)} {kV doc pm cdv ct:Value} (l:K.lookup f=some ⟨oc,od,.func (PySem.W.fnOf x qual (defArgs st) (defBody st) (defScope st) .none kV doc pm an cdv ct),osl⟩)
  (c:PySem.W.codeIn K cdv qual=true) (k:PySem.W.keepIn K (.ref f)=true):Fun K x qual st f (PySem.W.fnOf x qual (defArgs st) (defBody st) (defScope st) .none kV doc pm an cdv ct):=⟨⟨oc,od,kV,doc,pm,an,cdv,ct,osl,rfl,l,c⟩,k⟩
end
theorem zaC {A:Around} {k:Nat} (hr:Room k A):A.units + 1 < cLine:=Nat.lt_of_le_of_lt (Nat.add_le_add_left (by decide:1≤64) _) hr.units
section
variable {X:Cx}
theorem pv (i:Nat) {x:Str} {pos:Pos} (hN:X.N[i]?=some x:=by rfl) (hv:Vis X.env.scope x:=by first | exact Or.inl rfl | exact Or.inr (Or.inl rfl) | exact Or.inr (Or.inr rfl)) (hd:(x == ("__debug__" : Str))=false:=by decide)
  (hcd:(x == ("__classdict__" : Str))=false:=by decide):PE X (.Name x pos) (tVar i):=pe_var hN hv hd hcd
end
theorem iteF {A B:Prop} (h:B):if false=true then A else B:=by
 rw [if_neg Bool.false_ne_true]
 exact h
theorem iteT {A B:Prop} (h:A):if true=true then A else B:=by
 rw [if_pos rfl]
 exact h
noncomputable def Same (H H':Hp):Prop:=∀ b o,H b=some o→H' b=some o
theorem Same.refl (H:Hp):Same H H:=fun _ _ h=>h
section
variable {X:Cx}
end
section
variable {κ:Type} [DecidableEq κ]
end
end L2
namespace L2
open PySem PySem.Spec PyProof.Rows
theorem Yap:bootBuiltins "len" = some (.builtin "len"):=by decide +kernel
theorem yas:bootBuiltins "list" = some (.type "list"):=by decide +kernel
theorem Xak:bootBuiltins "tuple" = some (.type "tuple"):=by decide +kernel
theorem Zas:bootBuiltins "range" = some (.type "range"):=by decide +kernel
theorem bt_max:bootBuiltins "max" = some (.builtin "max"):=by decide +kernel
theorem xbO:bootBuiltins "min" = some (.builtin "min"):=by decide +kernel
theorem xbt:bootBuiltins "sorted" = some (.builtin "sorted"):=by decide +kernel
theorem Xbt:bootBuiltins "repr" = some (.builtin "repr"):=by decide +kernel
theorem bt_all:bootBuiltins "all" = some (.builtin "all"):=by decide +kernel
theorem bt_zip:bootBuiltins "zip" = some (.type "zip"):=by decide +kernel
structure Kp (ch:List Addr) (H H':Hp):Prop where
 keep:∀ b o,H b=some o→b ∉ ch→H' b=some o
 tup:∀ b xs,H b=some (.tup xs)→H' b=some (.tup xs)
 frz:∀ b o u,H b=some (.frz o u)→H' b=some (.frz o u)
section
variable {ch:List Addr} {H H1 H2:Hp} {a l p:Addr} {o:HO} {xs ys:List V} {K:PySem.W.Frag}
theorem Kp.refl:Kp ch H H:=⟨fun _ _ h _=>h,fun _ _ h=>h,fun _ _ _ h=>h⟩
theorem Kp.of_same (h:Same H H1):Kp ch H H1:=⟨fun b o e _=>h b o e,fun b xs e=>h b _ e,fun b o u e=>h b _ e⟩
theorem Kp.put (h:Kp ch H H1) (ha:a∈ch) (e:H1 a=some (.lst xs)):Kp ch H (upd H1 a o) :=
 ⟨fun b u q n=>by rw [yai (fun z=>n (by rw [z];exact ha))];exact h.keep b u q n,
   fun b u q=>by
  have r:=h.tup b u q
  rw [yai (ne_of r e (by intro z;cases z))];exact r,
   fun b u v q=>by
  have r:=h.frz b u v q
  rw [yai (ne_of r e (by intro z;cases z))];exact r⟩
theorem Kp.sqT (h:Kp ch H H1) (q:SqT K H a xs):SqT K H1 a xs:=by
 rcases q with (q | ⟨o,q⟩) | q
 ·exact .inl (.inl (h.tup a xs q))
 ·exact .inl (.inr ⟨o,h.frz a o _ q⟩)
 ·exact .inr q
noncomputable def SqF (K:PySem.W.Frag) (H:Hp) (a:Addr) (xs:List V):Prop :=
 (∃ o,H a=some (.frz o (.lst xs))) ∨
  ∃ (o:Obj) (its:Array Value) (n:Nat),K.lookup a=some o∧o.cls=.type "list" ∧ o.dict=none∧o.data=.seq its n∧its.size≤sizeLine∧Vals xs its.toList
theorem SqF.sq (h:SqF K H a xs):SqL K H a xs:=h.elim (fun ⟨o,e⟩=>.inl (.inr ⟨o,e⟩)) .inr
theorem SqL.script (hO:Only H) (q:SqL K H a xs):SqF K H a xs:=by
 rcases q with (q | ⟨o,q⟩) | q
 ·rcases hO a with e | ⟨o,ys,e⟩
  ·rw [e] at q;cases q
  ·rw [e] at q;cases q
 ·exact .inl ⟨o,q⟩
 ·exact .inr q
theorem Same.up (h:H p=none):Same H (upd H p o):=fun b u e=>by rw [yai (Xaz e h)];exact e
end
noncomputable def GotT (K:PySem.W.Frag) (H:Hp) (xs:List V) (Q:VK):Prop:=∀ p H',SqT K H' p xs→Same H H'→Q (.ref p) H'
section
variable {X:Cx}
theorem GotT.new {K:PySem.W.Frag} {H:Hp} {xs:List V} {Q:VK} (h:GotT K H xs Q):∀ p,H p=none→Q (.ref p) (upd H p (.tup xs)):=fun p hp=>h p _ (SqT.of xao) (Same.up hp)
theorem GotT.it {K:PySem.W.Frag} {H:Hp} {xs:List V} {Q:VK} {a:Addr} (h:GotT K H xs Q) (q:SqT K H a xs):Q (.ref a) H:=h a H q (Same.refl H)
noncomputable def rCatTA (K:PySem.W.Frag):R2:=fun x y H Q=>∃ a b xs ys,x=.ref a∧y=.ref b∧SqT K H a xs∧SqT K H b ys∧xs.length + ys.length≤sizeLine∧GotT K H (xs ++ ys) Q
theorem xbG:OpR X (binaryOp .Add) (rCatTA X.K):=by
 intro pins s σ H x y v u Q I rx ry h
 obtain ⟨a,b,xs,ys,rfl,rfl,ha,hb,hz,q⟩:=h
 by_cases hx:xs=[]
 ·subst hx
  cases rx
  cases ry
  obtain ⟨its,r1,p1,_⟩:=I.tuple ha
  obtain ⟨its2,r2,p2,_⟩:=I.tuple hb
  have e:its=[]:=r1.nil_iff.mpr rfl
  subst e
  obtain ⟨⟨cls,dd,data,sl⟩,ho,hc,n,hd⟩:=id p1
  obtain ⟨⟨cls2,dd2,data2,sl2⟩,ho2,hc2,n2,hd2⟩:=id p2
  simp only at hc hd hc2 hd2
  subst hc hd hc2 hd2
  exact concat_meets ⟨_,ho,rfl⟩ ⟨_,ho2,rfl⟩ noFill_tuple_add seq_tuple_add PySem.F.slot_tuple_add PySem.F.entry_tuple_add (PySem.F.args_tuple_add_2 _ _)
   (tuple_addW0 a b #[] its2.toArray n n2 dd dd2 sl sl2 (by simp)) ⟨ho,ho2,⟨.ref b,H,I,rfl,q.it (by simpa using hb)⟩⟩
 ·exact ZbS pins s σ H _ _ v u Q I rx ry ⟨a,b,xs,ys,rfl,rfl,ha,hb,hx,hz,fun e=>q.it (by subst e;simpa using ha),fun _=>q.new⟩
noncomputable def rangeV (lo:Int) (n:Nat):List V:=(List.range n).map fun (k:Nat)=>V.int (lo + k)
theorem Xa1 (lo:Int) (n:Nat):(rangeV lo n).length=n:=by simp [rangeV]
theorem ZaA:CallR X (.type "range") (fun xs H Q=>∃ j:Int,xs=[.int j]∧∀ p,H p=none→Q (.ref p) (upd H p (.rng 0 j))):=by
 intro pins s σ H xs us Q I r h
 obtain ⟨j,rfl,q⟩:=h
 obtain ⟨u,rfl,t,rfl⟩:=vals1 r
 refine call_range_1 ⟨.ref s.heap.objs.size,_,I.laid (o:=.rng 0 j) (fun b o e=>Heap.get?_push_of_some _ e) (Nat.le_refl _) ?_,rfl,q _ (I.hok.fresh (Nat.le_refl _))⟩
 exact ⟨_,_,_,Heap.get?_push_size _ rfl⟩
theorem Xau:CallR X (.type "range") (fun xs H Q=>∃ i j:Int,xs=[.int i,.int j]∧∀ p,H p=none→Q (.ref p) (upd H p (.rng i j))):=by
 intro pins s σ H xs us Q I r h
 obtain ⟨i,j,rfl,q⟩:=h
 obtain ⟨u,u',rfl,⟨t,rfl⟩,t',rfl⟩:=vals2 r
 refine call_range_2 ⟨.ref s.heap.objs.size,_,I.laid (o:=.rng i j) (fun b o e=>Heap.get?_push_of_some _ e) (Nat.le_refl _) ?_,rfl,q _ (I.hok.fresh (Nat.le_refl _))⟩
 exact ⟨_,_,_,Heap.get?_push_size _ rfl⟩
theorem YaZ:∀ (n:Nat) (lo:Int) (us:List Value),us.length=n→(∀ (j:Nat) (v:Value),us[j]?=some v→∃ t,v=.int (lo + j * 1) t)→Vals (rangeV lo n) us
 | 0,lo,[],_,_=>.nil
 | 0,lo,_ :: _,h,_=>by simp at h
 | n + 1,lo,[],h,_=>by simp at h
 | n + 1,lo,u :: us,h,hv=>by
  have e:rangeV lo (n + 1)=V.int lo :: rangeV (lo + 1) n:=by
   unfold rangeV
   rw [List.range_succ_eq_map,List.map_cons,List.map_map]
   congr 1
   ·simp
   ·apply List.map_congr_left
    intro i _
    simp only [Function.comp]
    congr 1
    push_cast
    omega
  rw [e]
  obtain ⟨t,ht⟩:=hv 0 u rfl
  refine .cons ⟨t,by rw [ht];simp⟩ (YaZ n (lo + 1) us (by simpa using h) fun j v hj=>?_)
  obtain ⟨t',ht'⟩:=hv (j + 1) v hj
  refine ⟨t',ht'.trans ?_⟩
  congr 1
  omega
theorem xag (hc:X.calm=true):CallR X (.type "list") (fun xs H Q=>∃ p lo hi,xs=[.ref p]∧H p=some (.rng lo hi)∧(-(2 ^ 62)≤lo∧lo < 2 ^ 62∧-(2 ^ 62)≤hi∧hi < 2 ^ 62)∧(hi - lo).toNat≤2 ^ 24 ∧
  ∀ l,H l=none→Q (.ref l) (upd H l (.lst (rangeV lo (hi - lo).toNat)))):=by
 intro pins s σ H xs us Q I r h
 obtain ⟨p,lo,hi,rfl,hp,⟨b1,b2,b3,b4⟩,hz,q⟩:=h
 obtain ⟨u,rfl,ru⟩:=vals1 r
 cases ru
 obtain ⟨t,t',t'',e⟩:=(show ObjOk X.prog X.w H s.heap p (.rng lo hi) from I.hok p _ hp)
 refine call_list_range (a:=lo) (b:=hi) (c:=1) (n:=(hi - lo).toNat) (I.ok.hd hc) (show IsRange s.heap p lo hi 1 t t' t'' from e) (small_one b1 b2 b3 b4) (by rw [rangeSize_one];split <;> omega) hz fun h' tk acc c kp hD hI=>?_
 refine ⟨.ref s.heap.objs.size,_,I.laid (t':=tk) (o:=.lst (rangeV lo (hi - lo).toNat)) kp (Nat.le_refl _) ?_,rfl,q _ (I.hok.fresh (Nat.le_refl _))⟩
 refine ⟨by rw [Xa1];exact Nat.le_trans hz (by decide),acc.toList,c,YaZ _ _ _ (by rw [Array.length_toList];exact hI.1) fun j v hj=>hI.2 j v (by rw [← hj,Array.getElem?_toList]),by simpa using hD⟩
end
mutual
inductive Rep (K:PySem.W.Frag) (H:Hp):V→PyData→Prop
 | non:Rep K H .non .none
 | bl (b:Bool):Rep K H (.bl b) (.bool b)
 | int (i:Int):Rep K H (.int i) (.int i)
 | str (x:Str):Rep K H (.str x) (.str x)
 | tup {a:Addr} {xs:List V} {ds:List PyData}:SqT K H a xs→Reps K H xs ds→Rep K H (.ref a) (.tuple ds)
 | lst {a:Addr} {xs:List V} {ds:List PyData}:SqL K H a xs→Reps K H xs ds→Rep K H (.ref a) (.list ds)
inductive Reps (K:PySem.W.Frag) (H:Hp):List V→List PyData→Prop
 | nil:Reps K H [] []
 | cons {v:V} {vs:List V} {d:PyData} {ds:List PyData}:Rep K H v d→Reps K H vs ds→Reps K H (v :: vs) (d :: ds)
end
section
variable {X:Cx} {pins:List (Addr×Obj)} {σ:St} {H:Hp} {s:Shared}
mutual
theorem Rep.reads (I:Inv X pins σ H s):∀ {v:V} {d:PyData} {u:Value},Rep X.K H v d→RelV v u→∃ as,Reads s.heap u d as
 | _,_,_,.non,r=>by cases r;exact ⟨_,.none⟩
 | _,_,_,.bl b,r=>by cases r;exact ⟨_,.bool b⟩
 | _,_,_,.int i,r=>by obtain ⟨t,rfl⟩:=r;exact ⟨_,.int i t⟩
 | _,_,_,.str x,r=>by obtain ⟨t,rfl⟩:=r;exact ⟨_,.str x t⟩
 | _,_,_,.tup q rs,r=>by
  cases r
  obtain ⟨its,rv,⟨o,e,c,n,hd⟩,_⟩:=I.tuple q
  obtain ⟨as,ra⟩:=Reps.reads I rs rv
  exact ⟨_,.tuple e c hd (by simpa using ra)⟩
 | _,_,_,.lst q rs,r=>by
  cases r
  obtain ⟨its,rv,pl,_⟩:=I.list q
  obtain ⟨o,e,c,n,hd⟩:=pl.isList
  obtain ⟨as,ra⟩:=Reps.reads I rs rv
  exact ⟨_,.list e c hd (by simpa using ra)⟩
theorem Reps.reads (I:Inv X pins σ H s):∀ {vs:List V} {ds:List PyData} {us:List Value},Reps X.K H vs ds→Vals vs us→∃ as,ReadsAll s.heap us ds as
 | _,_,_,.nil,r=>by cases r;exact ⟨_,.nil⟩
 | _,_,_,.cons h t,r=>by
  cases r with
  | cons r1 r2 =>
   obtain ⟨as,h1⟩:=Rep.reads I h r1
   obtain ⟨bs,h2⟩:=Reps.reads I t r2
   exact ⟨_,.cons h1 h2⟩
end
noncomputable def rEqD (K:PySem.W.Frag) (neg:Bool):R2:=fun x y H Q=>∃ d e,Rep K H x d∧Rep K H y e∧PyData.canLay0 d=true∧PyData.canLay0 e=true∧min d.depth e.depth≤60∧Q (.bl (if neg then !PyData.eqv d e else PyData.eqv d e)) H
theorem zbu (hu:X.A.units + 64 < cLine):OpR X (compareOp .Eq) (rEqD X.K false):=by
 intro pins s σ H x y v u Q I rx ry h
 obtain ⟨d,e,hd,he,c1,c2,dp,q⟩:=h
 obtain ⟨as,ra⟩:=hd.reads I rx
 obtain ⟨bs,rb⟩:=he.reads I ry
 exact SeqAt.eqOverData X.prog X.w X.A X.xe s v u d e as bs _ ra rb c1 c2 (by omega) ⟨.bl _,H,I,rfl,q⟩
theorem Xbi (hu:X.A.units + 64 < cLine):OpR X (compareOp .NotEq) (rEqD X.K true):=by
 intro pins s σ H x y v u Q I rx ry h
 obtain ⟨d,e,hd,he,c1,c2,dp,q⟩:=h
 obtain ⟨as,ra⟩:=hd.reads I rx
 obtain ⟨bs,rb⟩:=he.reads I ry
 exact SeqAt.neOverData X.prog X.w X.A X.xe s v u d e as bs _ ra rb c1 c2 (by omega) ⟨.bl _,H,I,rfl,q⟩
end
section
variable {K:PySem.W.Frag} {H:Hp}
noncomputable def intsD (ns:List Int):List PyData:=ns.map PyData.int
theorem Reps.ints:∀ (ns:List Int),Reps K H (ns.map V.int) (intsD ns)
 | []=>.nil
 | n :: r=>.cons (.int n) (Reps.ints r)
theorem Yar:∀ (ns:List Int),PyData.canLayAll0 (intsD ns)=true
 | []=>rfl
 | n :: r=>by show (true && PyData.canLayAll0 (intsD r))=true;rw [Yar r];rfl
theorem zaA:∀ (ns:List Int),PyData.depthAll (intsD ns)=0
 | []=>rfl
 | n :: r=>by show max 0 (PyData.depthAll (intsD r))=0;rw [zaA r];rfl
theorem XaM:∀ (ns ms:List Int),PyData.eqvAll (intsD ns) (intsD ms)=decide (ns=ms)
 | [],[]=>rfl
 | [],_ :: _=>rfl
 | _ :: _,[]=>rfl
 | n :: ns,m :: ms=>by
  show ((n == m) && PyData.eqvAll (intsD ns) (intsD ms))=decide (n :: ns=m :: ms)
  rw [XaM ns ms]
  by_cases h:n=m
  ·subst h;simp
  ·simp [h]
end
end L2
namespace L2
open PySem PySem.Spec PyProof.Rows
structure Def (K:PySem.W.Frag) (mg:Str→Option Value) (x:Str) (st:Stmt) (ps:List Str) (f:Addr) (fd:FuncData):Prop where
 F:Fun K x x st f fd
 be:∀ us:List Value,us.length=ps.length→bindArgs fd ⟨us,[]⟩=pure (ps.zip us)
 m:mg x=some (.ref f)
theorem Def.b {K:PySem.W.Frag} {mg:Str→Option Value} {x:Str} {st:Stmt} {ps:List Str} {f:Addr} {fd:FuncData} (D:Def K mg x st ps f fd):Binds K fd ps []:=.all D.be
theorem xap {K:PySem.W.Frag} {h:Heap} {mg:Str→Option Value} (X:K.In h) (G:h.Ns mainGlobals mg) {x:Str} {st:Stmt} {ps:List Str} {f:Addr} {oc:Value} {od an:Option Addr} {osl:Array (Option Value)} {kV doc pm cdv ct:Value}
  (hb:∀ (kV doc pm:Value) (an:Option Addr) (cdv ct:Value) (us:List Value),us.length=ps.length→bindArgs (PySem.W.fnOf x x (defArgs st) (defBody st) (defScope st) .none kV doc pm an cdv ct) ⟨us,[]⟩=pure (ps.zip us))
  (a:PySem.W.nsIn K mainGlobals x=some (some (.ref f))) (l:K.lookup f=some ⟨oc,od,.func (PySem.W.fnOf x x (defArgs st) (defBody st) (defScope st) .none kV doc pm an cdv ct),osl⟩)
  (c:PySem.W.codeIn K cdv x=true) (k:PySem.W.keepIn K (.ref f)=true):∃ f fd,Def K mg x st ps f fd :=
 ⟨f,_,fun_mk l c k,hb kV doc pm an cdv ct,PySem.W.mg_of X G a⟩
theorem Def.bindsTo {K:PySem.W.Frag} {mg:Str→Option Value} {x p:Str} {st:Stmt} {f:Addr} {fd:FuncData} (D:Def K mg x st [p] f fd) (s:Shared) (u:Value):BindsTo s fd ⟨[u],[]⟩ [(p,u)]:=.of_eq (D.be [u] rfl)
theorem YaA {K:PySem.W.Frag} {h:Heap} {mg:Str→Option Value} (X:K.In h) (G:h.Ns mainGlobals mg) {x:Str} (z:PySem.W.nsIn K mainGlobals x=some none):mg x=none:=PySem.W.mg_none_of X G z
theorem za2 {n j:Nat} (h:j < n):ixN n (j:Int)=some j:=by
 unfold ixN
 rw [if_pos (by omega),if_pos (by omega)]
 simp
theorem atI_lt {α:Type} {xs:List α} {i:Int} (h0:0≤i) (h1:i < xs.length):∃ v,atI xs i=some v∧v∈xs:=by
 have hi:i.toNat < xs.length:=by omega
 refine ⟨xs[i.toNat],?_,List.getElem_mem hi⟩
 have:=yaP (xs:=xs) (j:=i.toNat) (v:=xs[i.toNat]) (by simp [hi])
 rwa [Int.toNat_of_nonneg h0] at this
theorem dT {c:Prop} [Decidable c] (h:decide c=true):c:=of_decide_eq_true h
end L2
namespace L2
open PySem PySem.Spec PyProof.Rows
section
variable {prog:Program} {w:World} {A:Around} {E:Value→Shared→Prop} {s:Shared}
end
section
variable {X:Cx} {e:Expr} {te:TE} {pos p0 p1 p2:Pos} {j:Nat}
end
end L2
namespace L2
open PySem PySem.Spec PyProof.Rows
section
variable {K:PySem.W.Frag} {f:Addr} {H0:Hp} {σ:St} {i:Nat} {t u ta tb:TE} {R R':V→Hp→Prop} {P P' P2:Int→Prop} {L M:Nat}
end
end L2
namespace L2
open PySem PySem.Spec PyProof.Rows
theorem Yas:∀ (names:List (Str×NameKind)) (n:Nat) (acc:List (Str×Addr)),cellsFrom n names acc=cellsFrom n names [] ++ acc
 | [],_,_=>rfl
 | (x,k) :: r,n,acc=>by
  show (if k == .cell then cellsFrom (n + 1) r ((x,n) :: acc) else cellsFrom n r acc)=(if k == .cell then cellsFrom (n + 1) r [(x,n)] else cellsFrom n r []) ++ acc
  by_cases hk:(k == NameKind.cell)=true
  ·rw [if_pos hk,if_pos hk,Yas r (n + 1) ((x,n) :: acc),Yas r (n + 1) [(x,n)],List.append_assoc];rfl
  ·rw [if_neg hk,if_neg hk];exact Yas r n acc
theorem XaF {x:Str} {c:Addr}:∀ (names:List (Str×NameKind)) (n:Nat),(x,c)∈cellsFrom n names []→(x,NameKind.cell)∈names∧n≤c
 | [],_,h=>nomatch h
 | (y,k) :: r,n,h=>by
  have h':(x,c)∈(if k == .cell then cellsFrom (n + 1) r [(y,n)] else cellsFrom n r []):=h
  by_cases hk:(k == NameKind.cell)=true
  ·rw [if_pos hk,Yas] at h'
   rcases List.mem_append.mp h' with h' | h'
   ·obtain ⟨h1,h2⟩:=XaF r (n + 1) h'
    exact ⟨List.mem_cons_of_mem _ h1,by omega⟩
   ·have e:(x,c)=(y,n):=by simpa using h'
    cases e
    have e2:k=NameKind.cell:=by simpa using hk
    subst e2
    exact ⟨List.mem_cons_self,Nat.le_refl _⟩
  ·rw [if_neg hk] at h'
   obtain ⟨h1,h2⟩:=XaF r n h'
   exact ⟨List.mem_cons_of_mem _ h1,h2⟩
theorem xaI {env:Env} (f:Str×NameKind→List (Str×Addr)→Sem (ForInStep (List (Str×Addr))))
  (hf:∀ name kind cs,f (name,kind) cs=if kind == .free then (do let c ← cellOf env name;pure (.yield ((name,c) :: cs))) else pure (.yield cs)) :
  ∀ (names:List (Str×NameKind)) (acc:List (Str×Addr)),(∀ y∈names,y.2=NameKind.free→∃ c,env.cells.lookup y.1=some c) →
   ∃ cl,(forIn names acc f:Sem (List (Str×Addr)))=pure cl∧(∀ n c,(n,c)∈cl→(n,c)∈acc∨(env.cells.lookup n=some c∧(n,NameKind.free)∈names))∧(∀ p∈acc,p∈cl)∧∀ n,(n,NameKind.free)∈names→∃ c,(n,c)∈cl
 | [],acc,_=>⟨acc,by rw [List.forIn_nil],fun n c h=>.inl h,fun p h=>h,fun n h=>nomatch h⟩
 | (x,k) :: r,acc,h=>by
  have hr:∀ y∈r,y.2=NameKind.free→∃ c,env.cells.lookup y.1=some c:=fun y hy=>h y (List.mem_cons_of_mem _ hy)
  by_cases hk:k=NameKind.free
  ·subst hk
   obtain ⟨c,hc⟩:=h (x,.free) List.mem_cons_self rfl
   have e:cellOf env x=pure c:=by unfold cellOf;rw [hc]
   obtain ⟨cl,e1,h1,h2,h3⟩:=xaI f hf r ((x,c) :: acc) hr
   refine ⟨cl,?_,fun n d hd=>?_,fun p hp=>h2 p (List.mem_cons_of_mem _ hp),fun n hn=>?_⟩
   ·rw [List.forIn_cons,hf,if_pos (by rfl),e]
    exact e1
   ·rcases h1 n d hd with q | ⟨q,q'⟩
    ·rcases List.mem_cons.mp q with q | q
     ·cases q;exact .inr ⟨hc,List.mem_cons_self⟩
     ·exact .inl q
    ·exact .inr ⟨q,List.mem_cons_of_mem _ q'⟩
   ·rcases List.mem_cons.mp hn with q | q
    ·cases q;exact ⟨c,h2 _ List.mem_cons_self⟩
    ·exact h3 n q
  ·obtain ⟨cl,e1,h1,h2,h3⟩:=xaI f hf r acc hr
   have hb:¬ ((k == NameKind.free)=true):=by simpa using hk
   refine ⟨cl,?_,fun n d hd=>?_,h2,fun n hn=>?_⟩
   ·rw [List.forIn_cons,hf,if_neg hb]
    exact e1
   ·rcases h1 n d hd with q | ⟨q,q'⟩
    ·exact .inl q
    ·exact .inr ⟨q,List.mem_cons_of_mem _ q'⟩
   ·rcases List.mem_cons.mp hn with q | q
    ·cases q;exact absurd rfl hk
    ·exact h3 n q
theorem xaZ {scope:Scope} {env:Env} (h:∀ y∈scope.names,y.2=NameKind.free→∃ c,env.cells.lookup y.1=some c) :
  ∃ cl,closureFor scope env=pure cl∧(∀ n c,(n,c)∈cl→env.cells.lookup n=some c∧(n,NameKind.free)∈scope.names)∧∀ n,(n,NameKind.free)∈scope.names→∃ c,(n,c)∈cl:=by
 have key:∀ (f:Str×NameKind→List (Str×Addr)→Sem (ForInStep (List (Str×Addr)))),(∀ name kind cs,f (name,kind) cs=if kind == .free then (do let c ← cellOf env name;pure (.yield ((name,c) :: cs))) else pure (.yield cs)) →
   ∃ cl,((forIn scope.names [] f:Sem (List (Str×Addr))) >>= fun r=>pure r)=pure cl∧(∀ n c,(n,c)∈cl→env.cells.lookup n=some c∧(n,NameKind.free)∈scope.names)∧∀ n,(n,NameKind.free)∈scope.names→∃ c,(n,c)∈cl:=fun f hf=>by
  obtain ⟨cl,e,h1,_,h3⟩:=xaI f hf scope.names [] h
  refine ⟨cl,?_,fun n c hc=>(h1 n c hc).elim (fun z=>nomatch z) id,h3⟩
  rw [e]
  rfl
 simp only [closureFor]
 exact key _ fun name kind cs=>by cases hk:kind == NameKind.free <;> simp [hk]
theorem ltN {a b:Addr} (h:a < b):@LT.lt Nat _ a b:=h
theorem neL {a b:Addr} (h:@LT.lt Nat _ a b):a≠b:=Nat.ne_of_lt h
theorem neG {a b:Addr} (h:@LT.lt Nat _ b a):a≠b:=Nat.ne_of_gt h
theorem xbe {M:Model} {A:Around} {E:Value→Shared→Prop} {s:Shared} {scope:Scope} {g:Addr} {cl:List (Str×Addr)} {q:Str} {env:Env} {Q:Env→Shared→Prop}
  (h:∀ h',h'.Ns s.heap.objs.size (fun _=>none)→(∀ b o,s.heap.get? b=some o→h'.get? b=some o)→CellsOk h' (s.heap.objs.size + 1) (cellsFrom (s.heap.objs.size + 1) scope.names []) →
   Q { scope:=scope,locals:=s.heap.objs.size,globals:=g,cells:=cellsFrom (s.heap.objs.size + 1) scope.names cl,qual:=q,func:=none,code:=env.code,frame:=env.frame,builtins:=env.builtins } { s with heap:=h' }) :
  wpAny M A (newFunctionEnv scope g cl [] q none .none (some env)) Q E s:=by
 simp only [newFunctionEnv,Option.isSome_some,if_true]
 refine wpAny_bind (wpAny_alloc ?_)
 refine wpAny_bind (wpAny_layCells _ (fun name kind cells=>by cases hkc:kind == NameKind.cell <;> simp [hkc]) _ _ _ _ ?_)
 have ok:=cellsFrom_ok scope.names (s.heap.push { cls:=.type "dict",data:=.dict #[] }) (s.heap.objs.size + 1) [] ⟨fun _ _ hm=>(nomatch hm),List.Pairwise.nil⟩ (by rw [Heap.size_push];exact Nat.le_refl _)
 rw [Heap.size_push] at ok
 rw [show ({ s with heap:=s.heap.push { cls:=.type "dict",data:=.dict #[] } }:Shared).heap.objs.size=s.heap.objs.size + 1 from Heap.size_push ..]
 refine wpAny_bind ?_
 rw [List.forIn_nil]
 refine wpAny_pure (wpAny_pure ?_)
 exact h _ ((Heap.Ns.new s.heap (.type "dict")).keeps (pushCells_keeps _ _)) (fun b o e=>pushCells_keeps _ _ b o (Heap.get?_push_of_some _ e)) ok
noncomputable def cxComp (X:Cx) (N:List Str) (scope:Scope) (cells:List (Str×Addr)) (C:Addr) (fp:List Addr) (s:Shared) (H:Hp):Cx where
 prog:=X.prog
 w:=X.w
 K:=X.K
 mg:=X.mg
 base:=X.base
 A:=X.A
 N:=N
 s₀:=s
 H₀:=H
 env:=compEnvC scope cells C X.env
 outer:=X.stack
 stack:=X.stack
 ex:=fp
 fn:=fun x=>decide (scope.names.lookup x=some .cell)
 calm:=X.calm
 pn:=[]
 xe:=fun _ _=>False
noncomputable def relabelS (scope sc:Scope):Scope :=
 { scope with names:=scope.names.map fun (n,k)=>if (k == .free && sc.kind == .function && sc.names.lookup n == some .cell) then (n,.cell) else (n,k) }
structure CompS (sc scope:Scope) (own fr:List Str):Prop where
 kind:scope.kind=.function
 nd:(own ++ fr).Nodup
 ndn:(scope.names.map (·.1)).Nodup
 free:∀ y∈scope.names,y.2=.free→sc.names.lookup y.1=some .cell∨sc.names.lookup y.1=some .free
 frl:∀ x∈fr,scope.names.lookup x=some .free
structure CompSc (X:Cx) (scope:Scope) (own fr:List Str) (js:List Nat):Prop where
 c:CompS X.env.scope scope own fr
 ix:js.map (fun j=>X.N[j]?)=fr.map some
theorem CompSc.kind {X:Cx} {scope:Scope} {own fr:List Str} {js:List Nat} (S:CompSc X scope own fr js):scope.kind=.function:=S.c.kind
theorem CompSc.ndn {X:Cx} {scope:Scope} {own fr:List Str} {js:List Nat} (S:CompSc X scope own fr js):(scope.names.map (·.1)).Nodup:=S.c.ndn
theorem CompSc.frl {X:Cx} {scope:Scope} {own fr:List Str} {js:List Nat} (S:CompSc X scope own fr js):∀ x∈fr,scope.names.lookup x=some .free:=S.c.frl
theorem CompSc.free {X:Cx} {scope:Scope} {own fr:List Str} {js:List Nat} (S:CompSc X scope own fr js):∀ y∈scope.names,y.2=.free→X.env.kindOf y.1=some .cell∨X.env.kindOf y.1=some .free:=S.c.free
theorem xas {α:Type}:∀ {l:List (Str×α)} {n:Str} {c:α},(l.map (·.1)).Nodup→(n,c)∈l→l.lookup n=some c
 | (k,v) :: r,n,c,nd,h=>by
  obtain ⟨h1,h2⟩:=List.nodup_cons.mp nd
  rw [List.lookup_cons]
  rcases List.mem_cons.mp h with e | h
  ·cases e;simp
  ·have:(n == k)=false:=beq_eq_false_iff_ne.mpr fun e=>h1 (by rw [← e];exact List.mem_map.mpr ⟨(n,c),h,rfl⟩)
   rw [this]
   exact xas h2 h
theorem ZaR (scope:Scope) (env:Env) (x:Str):(relabel scope env).names.lookup x=none∧scope.names.lookup x=none ∨
  ∃ k,scope.names.lookup x=some k∧(relabel scope env).names.lookup x=some (if (k == .free && env.scope.kind == .function && env.kindOf x == some .cell) then .cell else k):=by
 have key:∀ names:List (Str×NameKind),(names.map fun (n,k)=>if (k == NameKind.free && env.scope.kind == .function && env.kindOf n == some .cell) then (n,NameKind.cell) else (n,k)).lookup x=none∧names.lookup x=none ∨
   ∃ k,names.lookup x=some k∧(names.map fun (n,k)=>if (k == NameKind.free && env.scope.kind == .function && env.kindOf n == some .cell) then (n,NameKind.cell) else (n,k)).lookup x=some (if (k == .free && env.scope.kind == .function && env.kindOf x == some .cell) then .cell else k):=by
  intro names
  induction names with
  | nil=>exact .inl ⟨rfl,rfl⟩
  | cons p r ih =>
   obtain ⟨n,k⟩:=p
   rw [List.map_cons]
   cases hx:x == n with
   | true =>
    have e:x=n:=by simpa using hx
    subst e
    refine .inr ⟨k,by simp [List.lookup_cons],?_⟩
    by_cases hc:(k == NameKind.free && env.scope.kind == .function && env.kindOf x == some .cell)=true
    ·simp only [if_pos hc];simp [List.lookup_cons]
    ·simp only [if_neg hc];simp [List.lookup_cons]
   | false =>
    have e1:∀ q:NameKind,(((n,q) :: (r.map fun (n,k)=>if (k == NameKind.free && env.scope.kind == .function && env.kindOf n == some .cell) then (n,NameKind.cell) else (n,k))).lookup x)=((r.map fun (n,k)=>if (k == NameKind.free && env.scope.kind == .function && env.kindOf n == some .cell) then (n,NameKind.cell) else (n,k)).lookup x):=fun q=>by rw [List.lookup_cons,hx]
    have e2:((n,k) :: r).lookup x=r.lookup x:=by rw [List.lookup_cons,hx]
    rw [e2]
    by_cases hc:(k == NameKind.free && env.scope.kind == .function && env.kindOf n == some .cell)=true
    ·simp only [if_pos hc];rw [e1];exact ih
    ·simp only [if_neg hc];rw [e1];exact ih
 exact key scope.names
noncomputable def compSt (n:Nat) (js:List Nat) (σ:St):St:=List.replicate n none ++ js.map fun j=>σ.getD j none
theorem Inv.track {X:Cx} {pins:List (Addr×Obj)} {σ:St} {H:Hp} {s:Shared} {a:Addr} {o:HO} (I:Inv X pins σ H s) (f:FpOk X pins H a) (new:ObjOk X.prog X.w (upd H a o) s.heap a o):Inv X pins σ (upd H a o) s:=by
 obtain ⟨f0,f1,f2,f3,f4,f5⟩:=f
 have ne:∀ b u,H b=some u→b≠a:=fun b u e z=>by rw [z,f0] at e;cases e
 refine I.step (h':=s.heap) (H':=upd H a o) (g':=s.gens) (d':=s.drawn) (t':=s.toks) (ch:=[a]) (fun b hb=>?_) (fun b u _ _ _ e _=>e) (fun b u _ _ _ e _=>⟨u.slots,e⟩) (fun b u hb e n=>?_) (fun b u _ e=>⟨u,e⟩)
  (fun b xs e=>by rw [yai (ne b _ e)];exact e) (fun b u xs e=>by rw [yai (ne b _ e)];exact e) (fun b ps e=>⟨#[],by rw [yai (ne b _ e),e];simp⟩) (fun m hm=>hm) (fun b u e=>?_) I.bare
 ·have e:b=a:=by simpa using hb
  subst e
  exact ⟨f3,f1,f4,f5⟩
 ·rw [yai (fun z=>hb (by simp [z]))];exact n
 ·by_cases hb:b=a
  ·subst hb;rw [xao] at e;cases e;exact new
  ·rw [yai hb] at e
   exact (I.hok b u e).stay (fun c v _ q=>q) (fun c q=>by rw [yai (ne c _ q)];exact q) fun c xs q=>by rw [yai (ne c _ q)];exact q
noncomputable def PF (X:Cx) (ifs:List Expr) (t:TT):Prop :=
 ∀ (pins:List (Addr×Obj)) (s:Shared) (σ:St) (H:Hp) (Q:Bool→Hp→Prop),Inv X pins σ H s→t σ H Q →
  wpAny (model X.prog X.w) X.A (forIn ifs true fun c r=>if r=true then do let ok ← isTrue c X.env (eval c X.env);pure (ForInStep.yield ok) else pure (ForInStep.yield r)) (TP X pins σ Q) X.xe s
theorem XaH {X:Cx}:PF X [] (fun _ H Q=>Q true H):=fun _ _ _ H _ I h=>wpAny_tests_nil ⟨H,I,h⟩
theorem XbO {X:Cx} {c:Expr} {t:TT} (h:PT X c t):PF X [c] t:=fun pins s σ H Q I hw=>wpAny_tests_one (h pins s σ H Q I hw)
theorem Xbe {prog:Program} {w:World} {A:Around} {R:Result→Shared→Prop} {s:Shared} {elt target iter:Expr} {ifs:List Expr} {scope:Scope} {pos:Pos} {it acc:Value} {env:Env} (I:Nat→Shared→Prop)
  (turn:∀ n s,I n s→wpAny (model prog w) A (pyNext it) (fun r s₁=>match r with
   | none=>R (.ok .next) s₁
   | some v=>wpAny (model prog w) A (letOwnedTupleGo target it v) (fun _ s₁'=>wpAny (model prog w) A (assign target env v) (fun _ s₂ =>
     wpAny (model prog w) A (forIn ifs true fun c r=>if r=true then do let ok ← isTrue c env (eval c env);pure (ForInStep.yield ok) else pure (ForInStep.yield r)) (fun ok s₃ =>
      if ok=true then wpAny (model prog w) A (eval elt env) (fun x s₄ =>
       wpAny (model prog w) A (call (.builtin "list.append") [acc,x]) (fun _ s₅=>∃ m,m < n∧I m s₅) (fun _ _=>False) s₄) (fun _ _=>False) s₃
      else ∃ m,m < n∧I m s₃) (fun _ _=>False) s₂) (fun _ _=>False) s₁') (fun _ _=>False) s₁) (fun _ _=>False) s)
  (n:Nat) (h:I n s) :
  codeAny (model prog w) A (.compLoop (.ListComp elt [⟨target,iter,ifs,0⟩] scope pos) 0 it acc env) R s:=by
 refine codeAny_loop rfl I (fun n s hI=>?_) n h
 show wpAny _ A ((compTurn (.ListComp elt [⟨target,iter,ifs,0⟩] scope pos) 0 it acc env).onRaise (fun x=>do noteFrame x env;theTreesLotGoes x)) _ _ s
 refine wpAny_noted ?_
 rw [compTurn_list]
 refine wpAny_bind (wpAny_standAt (wpAny_bind (wpAny_mono (turn n s hI) (fun r s₁ h₁=>?_) fun _ _ h'=>h'.elim)))
 cases r with
 | none=>exact wpAny_pure h₁
 | some v =>
  refine wpAny_bind (wpAny_mono h₁ (fun _ s₁' h₁'=>?_) fun _ _ h'=>h'.elim)
  refine wpAny_bind (wpAny_mono h₁' (fun _ s₂ h₂=>wpAny_bind (wpAny_mono h₂ (fun ok s₃ h₃=>?_) fun _ _ h'=>h'.elim)) fun _ _ h'=>h'.elim)
  cases ok with
  | false=>exact wpAny_pure ⟨rfl,h₃⟩
  | true =>
   exact wpAny_bind (wpAny_bind (wpAny_mono h₃ (fun x s₄ h₄=>wpAny_bind (wpAny_mono h₄ (fun _ s₅ h₅=>wpAny_pure (wpAny_pure ⟨rfl,h₅⟩)) fun _ _ h'=>h'.elim)) fun _ _ h'=>h'.elim))
noncomputable def CompGo (J:It) (n:Nat) (js:List Nat) (g:TG) (tc:TT) (te:TE) (σ:St) (H1:Hp) (Q:VK):Prop :=
 ∃ W:Nat→Nat→List V→St→Hp→Prop,(∃ m,W 0 m [] (compSt n js σ) H1)∧∀ i m ys σ' H',W i m ys σ' H' →
  ys.length < sizeLine∧((J.stop i H'∧∀ p,H' p=none→Q (.ref p) (upd H' p (.lst ys))) ∨
   (J.go i H'∧∀ x H2,J.yld i H' x H2→g x σ' H2 fun σ2 H3=>tc σ2 H3 fun b H4=>if b=true then te σ2 H4 fun y H5=>∃ m',m' < m∧W (i + 1) m' (ys ++ [y]) σ2 H5 else ∃ m',m' < m∧W (i + 1) m' ys σ2 H4))
noncomputable def tComp (wi:TI) (n:Nat) (js:List Nat) (g:TG) (tc:TT) (te:TE):TE:=fun σ H Q=>wi σ H fun J H1=>CompGo J n js g tc te σ H1 Q
section
variable {X:Cx} {pins:List (Addr×Obj)} {σ:St} {tg iter elt:Expr} {ifs:List Expr} {scope:Scope} {pos:Pos} {own fr:List Str} {js:List Nat} {g:TG} {tc:TT} {te:TE} {wi:TI}
theorem XaZ {H2:Hp} {s2:Shared} {it:Addr} {fp:List Addr} {tn:Nat→Heap→Prop} {J:It} {Q:VK} {E:Value→Shared→Prop} {cl:List (Str×Addr)} {RR:Value→Addr→Result→Shared→Prop}
  (hc:X.calm=true) (S:CompSc X scope own fr js) (hg:∀ cells C fp s H,PG (cxComp X (own ++ fr) scope cells C fp s H) tg g) (hf:∀ cells C fp s H,PF (cxComp X (own ++ fr) scope cells C fp s H) ifs tc) (he:∀ cells C fp s H,PE (cxComp X (own ++ fr) scope cells C fp s H) elt te)
  (I2:Inv X pins σ H2 s2) (T:Turn X.prog X.w X.K tg J fp it tn) (st2:tn 0 s2.heap) (f2:∀ b∈fp,FpOk X pins H2 b)
  (hcl1:∀ n c,(n,c)∈cl→X.env.cells.lookup n=some c∧(n,NameKind.free)∈scope.names) (hcl2:∀ n,(n,NameKind.free)∈scope.names→∃ c,(n,c)∈cl)
  (W:Nat→Nat→List V→St→Hp→Prop) (m0:Nat) (w0:W 0 m0 [] (compSt own.length js σ) H2)
  (turn:∀ i m ys σ' H',W i m ys σ' H'→ys.length < sizeLine∧((J.stop i H'∧∀ p,H' p=none→Q (.ref p) (upd H' p (.lst ys))) ∨
   (J.go i H'∧∀ x H2,J.yld i H' x H2→g x σ' H2 fun σ2 H3=>tc σ2 H3 fun b H4=>if b=true then te σ2 H4 fun y H5=>∃ m',m' < m∧W (i + 1) m' (ys ++ [y]) σ2 H5 else ∃ m',m' < m∧W (i + 1) m' ys σ2 H4)))
  (fin:∀ (acc C:Addr) (H':Hp) (s':Shared) (v:V),v=.ref acc→Inv X pins σ H' s'→FpOk X pins H' C→(∃ m,s'.heap.Ns C m)→Q v H'→RR (.ref acc) C (.ok .next) s') :
  wpAny (model X.prog X.w) X.A (newList []) (fun acc s3=>wpAny (model X.prog X.w) X.A (newFunctionEnv scope X.env.globals cl [] X.env.qual none .none (some X.env)) (fun cenv s4 =>
   codeAny (model X.prog X.w) X.A (.compStart (.ListComp elt [⟨tg,iter,ifs,0⟩] scope pos) 0 (.ref it) acc { cenv with scope:=relabel scope X.env }) (RR acc cenv.locals) s4) E s3) E s2:=by
 refine wpAny_newObj_type ?_
 refine xbe fun h4 hns hk4 hcells=>?_
 have hA:s2.heap.objs.size < (s2.heap.push { cls:=.type "list",data:=.seq ([]:List Value).toArray }).objs.size:=by rw [Heap.size_push];exact Nat.lt_succ_self _
 generalize hC:(s2.heap.push { cls:=.type "list",data:=.seq ([]:List Value).toArray }).objs.size=C at hns hcells hA ⊢
 generalize hac:s2.heap.objs.size=acc at hA ⊢
 have hAC:acc≠C:=Nat.ne_of_lt hA
 have old:∀ b o,s2.heap.get? b=some o→h4.get? b=some o:=fun b o e=>hk4 b o (Heap.get?_push_of_some _ e)
 have hacc:h4.get? acc=some { cls:=.type "list",data:=.seq ([]:List Value).toArray }:=hk4 _ _ (by rw [← hac];exact Heap.get?_push_size _ rfl)
 have inA:∀ x c,(x,c)∈cellsFrom (C + 1) scope.names []→h4.IsCell c none∧C + 1≤c∧scope.names.lookup x=some .cell:=fun x c h=>⟨(hcells.empty x c h).1,(hcells.empty x c h).2,xas S.ndn (XaF _ _ h).1⟩
 have lk:∀ x c,(cellsFrom (C + 1) scope.names cl).lookup x=some c→(h4.IsCell c none∧C + 1≤c∧(x,c)∈cellsFrom (C + 1) scope.names [])∨(X.env.cells.lookup x=some c∧scope.names.lookup x=some .free):=fun x c h=>by
  rw [Yas] at h
  rcases List.mem_append.mp (PySem.mem_of_lookup h) with q | q
  ·exact .inl ⟨(inA x c q).1,(inA x c q).2.1,q⟩
  ·exact .inr ⟨(hcl1 x c q).1,xas S.ndn (hcl1 x c q).2⟩
 have lt2:∀ x c,X.env.cells.lookup x=some c→c < s2.heap.objs.size:=fun x c h=>by
  obtain ⟨v,z⟩:=I2.cell x c h
  exact z.lt
 have cellC:∀ x c,(cellsFrom (C + 1) scope.names cl).lookup x=some c→c≠C∧c≠acc∧H2 c=none∧∀ b∈fp,c≠b:=fun x c h=>by
  rcases lk x c h with ⟨_,h1,_⟩ | ⟨h1,_⟩
  ·refine ⟨neG (by omega),neG (by omega),I2.hok.fresh (by omega),fun b hb z=>?_⟩
   obtain ⟨o,e,_⟩:=T.obj 0 _ st2 b hb
   have:=ltN (Heap.lt_size e)
   rw [← z] at this
   omega
  ·have:=ltN (lt2 x c h1)
   exact ⟨neL (by omega),neL (by omega),I2.freeC x c h1,fun b hb=>(f2 b hb).2.2.2.2.1 x c h1⟩
 have frlk:∀ x,scope.names.lookup x=some .free→∃ c,X.env.cells.lookup x=some c∧(cellsFrom (C + 1) scope.names cl).lookup x=some c:=fun x h=>by
  obtain ⟨c,hcm⟩:=hcl2 x (PySem.mem_of_lookup h)
  have hc1:=(hcl1 x c hcm).1
  have hs:((cellsFrom (C + 1) scope.names cl).lookup x).isSome=true:=by
   refine PySem.W.cellsFrom_some scope.names (C + 1) cl (.inr ?_)
   cases q:cl.lookup x with
   | some d=>rfl
   | none =>
    exfalso
    have:∀ {l:List (Str×Addr)},(x,c)∈l→l.lookup x≠none:=by
     intro l
     induction l with
     | nil=>intro h;exact nomatch h
     | cons p r ih =>
      intro h z
      obtain ⟨k,v⟩:=p
      rw [List.lookup_cons] at z
      cases hb:x == k with
      | true=>rw [hb] at z;cases z
      | false =>
       rw [hb] at z
       rcases List.mem_cons.mp h with e | h
       ·cases e;simp at hb
       ·exact ih h z
    exact this hcm q
  obtain ⟨d,hd⟩:=Option.isSome_iff_exists.mp hs
  rcases lk x d hd with ⟨_,_,h2⟩ | ⟨h1,_⟩
  ·have:=(inA x d h2).2.2
   rw [h] at this;cases this
  ·rw [hc1] at h1;cases h1
   exact ⟨c,hc1,hd⟩
 have fpd:∀ b∈fp,b≠C∧b≠acc:=fun b hb=>by
  obtain ⟨o,e,_⟩:=T.obj 0 _ st2 b hb
  have:=ltN (Heap.lt_size e)
  exact ⟨neL (by omega),neL (by omega)⟩
 have kfn:(relabel scope X.env).kind=.function:=S.kind
 have ok:(cxComp X (own ++ fr) scope (cellsFrom (C + 1) scope.names cl) C fp s2 H2).Ok:=by
  refine ⟨I2.ok.mod,kfn,I2.ok.glob,I2.ok.blt,?_,fun x y c h1 h2=>?_,fun x hx=>?_,fun x c hx h=>?_,I2.ok.hd,I2.ok.frames,.inl rfl,fun b hb=>⟨(fpd b hb).1,fun x c h=>(cellC x c h).2.2.2 b hb⟩,I2.bs,Nat.le_trans I2.ok.bsz I2.sz,fun b o e hb=>?_,fun b hb z=>?_,I2.stack,I2.stkFree⟩
  ·show s2.heap.objs.size≤C
   omega
  ·rcases lk x c h1 with ⟨_,q1,q2⟩ | ⟨q1,_⟩
   ·rcases lk y c h2 with ⟨_,r1,r2⟩ | ⟨r1,_⟩
    ·exact name_of_addr hcells.apart q2 r2
    ·have:=ltN (lt2 y c r1);omega
   ·rcases lk y c h2 with ⟨_,r1,r2⟩ | ⟨r1,_⟩
    ·have:=ltN (lt2 x c q1);omega
    ·exact I2.ok.inj x y c q1 r1
  ·have hx':(relabel scope X.env).names.lookup x=some .cell∨(relabel scope X.env).names.lookup x=some .free:=hx
   rcases ZaR scope X.env x with ⟨e,_⟩ | ⟨k,e1,e2⟩
   ·rcases hx' with z | z <;> (rw [e] at z;cases z)
   ·by_cases hk:k=.free
    ·subst hk
     obtain ⟨c,_,h⟩:=frlk x e1
     exact ⟨c,h⟩
    ·have hk':k=.cell:=by
      have hb:(k == NameKind.free)=false:=beq_eq_false_iff_ne.mpr hk
      rw [hb] at e2
      simp only [Bool.false_and,Bool.false_eq_true,if_false] at e2
      rcases hx' with z | z
      ·rw [e2] at z;exact Option.some.inj z
      ·rw [e2] at z;exact absurd (Option.some.inj z) hk
     subst hk'
     exact Option.isSome_iff_exists.mp (PySem.W.cellsFrom_some scope.names (C + 1) cl (.inl e1))
  ·have hx':scope.names.lookup x=some .cell:=of_decide_eq_true hx
   show s2.heap.objs.size≤c
   rcases lk x c h with ⟨_,q,_⟩ | ⟨_,q⟩
   ·omega
   ·rw [hx'] at q;cases q
  ·rcases (f2 b hb).2.2.2.1 with z | z
   ·exact I2.ok.noex b o e z
   ·have h1:@LT.lt Nat _ b X.base.objs.size:=Heap.lt_size e
    have h2:=I2.ok.bsz
    omega
  ·rcases List.mem_cons.mp (I2.stkSub b z) with e | e
   ·exact (f2 b hb).2.1 e
   ·exact (f2 b hb).2.2.1 e
 have I4:Inv (cxComp X (own ++ fr) scope (cellsFrom (C + 1) scope.names cl) C fp s2 H2) [(acc,{ cls:=.type "list",data:=.seq ([]:List Value).toArray })] (compSt own.length js σ) H2 { s2 with heap:=h4 }:=by
  refine ⟨ok,rfl,I2.bare,Un.kept old,⟨_,hns,fun i x v e1 e2 e3=>?_⟩,fun x c h=>?_,I2.hok.fresh (by show s2.heap.objs.size≤C;omega),fun x c h=>(cellC x c h).2.2.1,fun p hp=>?_,I2.hok.kept old,?_⟩
  ·have e1':(own ++ fr)[i]?=some x:=e1
   unfold compSt at e2
   by_cases hi:i < own.length
   ·rw [List.getElem?_append_left (by simpa using hi),List.getElem?_replicate] at e2
    split at e2 <;> cases e2
   ·rw [List.getElem?_append_right (by simpa using hi),List.length_replicate,List.getElem?_map] at e2
    rw [List.getElem?_append_right (by omega)] at e1'
    cases hj:js[i - own.length]? with
    | none=>rw [hj] at e2;cases e2
    | some j =>
     rw [hj] at e2
     have e2':σ.getD j none=some v:=Option.some.inj e2
     have hN:X.N[j]?=some x:=by
      have q:=congrArg (fun l=>l[i - own.length]?) S.ix
      simp only [List.getElem?_map,hj,e1',Option.map_some] at q
      exact Option.some.inj q
     have hσ:σ[j]?=some (some v):=by
      rw [List.getD_eq_getElem?_getD] at e2'
      cases q:σ[j]? with
      | none=>rw [q] at e2';cases e2'
      | some o=>rw [q] at e2';exact congrArg some e2'
     have hfr:scope.names.lookup x=some .free:=S.frl x (List.mem_of_getElem? e1')
     have hk:=S.free _ (PySem.mem_of_lookup hfr) rfl
     obtain ⟨m,_,hl⟩:=I2.loc
     obtain ⟨u,ru,lo⟩:=hl j x v hN hσ (by rcases hk with k | k;exact .inr (.inl k);exact .inr (.inr k))
     refine ⟨u,ru,.inr ⟨?_,?_⟩⟩
     ·rcases ZaR scope X.env x with ⟨_,e⟩ | ⟨k,q1,q2⟩
      ·rw [hfr] at e;cases e
      ·rw [hfr] at q1;cases q1
       have q2':(compEnvC scope (cellsFrom (C + 1) scope.names cl) C X.env).kindOf x=some (if (NameKind.free == .free && X.env.scope.kind == .function && X.env.kindOf x == some .cell)=true then .cell else .free):=q2
       rw [show (cxComp X (own ++ fr) scope (cellsFrom (C + 1) scope.names cl) C fp s2 H2).env.kindOf x=_ from q2']
       split
       ·exact .inl rfl
       ·exact .inr rfl
     ·rcases lo with ⟨k,_⟩ | ⟨_,c,hc1,hc2⟩
      ·rcases hk with k' | k' <;> (rw [k] at k';cases k')
      ·obtain ⟨d,hd1,hd2⟩:=frlk x hfr
       rw [hc1] at hd1;cases hd1
       exact ⟨c,hd2,hc2.keeps old⟩
  ·rcases lk x c h with ⟨q,_,_⟩ | ⟨q,_⟩
   ·exact ⟨_,q⟩
   ·obtain ⟨v,z⟩:=I2.cell x c q
    exact ⟨v,z.keeps old⟩
  ·have e:p=(acc,{ cls:=.type "list",data:=.seq ([]:List Value).toArray }):=by simpa [cxComp] using hp
   subst e
   refine ⟨hacc,I2.hok.fresh (by omega),hAC,fun z=>?_,fun v z=>nomatch z⟩
   rcases List.mem_cons.mp (I2.stkSub acc z) with e | e
   ·have:=ltN I2.lt
    rw [← e] at this
    omega
   ·exact I2.nofs (by omega) e
  ·show (compSt own.length js σ).length=(own ++ fr).length
   have q:=congrArg List.length S.ix
   simp only [List.length_map] at q
   unfold compSt
   rw [List.length_append,List.length_replicate,List.length_map,List.length_append,q]
 have fpC:∀ {H':Hp} {ob:Obj},(∀ b∈fp,H' b=none)→∀ b∈fp,FpOk (cxComp X (own ++ fr) scope (cellsFrom (C + 1) scope.names cl) C fp s2 H2) [(acc,ob)] H' b:=fun {H' ob} hn b hb =>
  ⟨hn b hb,(fpd b hb).1,fun z=>by
   rcases List.mem_cons.mp (I2.stkSub b z) with e | e
   ·exact (f2 b hb).2.1 e
   ·exact (f2 b hb).2.2.1 e,.inl hb,fun x c h=>(cellC x c h).2.2.2 b hb,fun p hp=>by
   have e:p=(acc,ob):=by simpa [cxComp] using hp
   subst e
   exact fun z=>(fpd b hb).2 z.symm⟩
 have loop:codeAny (model X.prog X.w) X.A (.compLoop (.ListComp elt [⟨tg,iter,ifs,0⟩] scope pos) 0 (.ref it) (.ref acc) (compEnvC scope (cellsFrom (C + 1) scope.names cl) C X.env)) (RR (.ref acc) C) { s2 with heap:=h4 }:=by
  refine Xbe (fun m s'=>∃ (i:Nat) (ys:List V) (its:List Value) (n:Nat) (σ':St) (H':Hp),Inv (cxComp X (own ++ fr) scope (cellsFrom (C + 1) scope.names cl) C fp s2 H2) [(acc,{ cls:=.type "list",data:=.seq its.toArray n })] σ' H' s'∧Vals ys its∧tn i s'.heap∧(∀ b∈fp,H' b=none)∧W i m ys σ' H') ?_ m0
   ⟨0,[],[],0,_,H2,I4,.nil,T.keep _ _ _ st2 fun b _ o e=>old b o e,fun b hb=>(f2 b hb).1,w0⟩
  rintro n s5 ⟨i,ys,its,en,σ5,H5,I5,rv,st5,fr5,w5⟩
  obtain ⟨hz,alt⟩:=turn i n ys σ5 H5 w5
  rcases alt with ⟨stop,qn⟩ | ⟨go,step⟩
  ·refine thn (T.done (cxComp X (own ++ fr) scope (cellsFrom (C + 1) scope.names cl) C fp s2 H2) rfl rfl rfl hc i _ s5 σ5 H5 _ I5 (fpC fr5) st5 stop) fun r s6 ⟨hr,I6⟩=>?_
   subst hr
   show RR (.ref acc) C (.ok .next) s6
   have u:Un (frs X.stack) fp H2 H5 s2.heap s6.heap:=I6.base
   have J6:Inv X pins σ H5 s6:=I2.call' I6.os u I6.hok I6.bare fun b hb=>⟨(f2 b hb).2.2.2.1,(f2 b hb).2.1,(f2 b hb).2.2.2.2.1,(f2 b hb).2.2.2.2.2⟩
   have pacc:=I6.pin (acc,_) (List.mem_append_right _ List.mem_cons_self)
   have facc:FpOk X pins H5 acc:=I2.fpOk (by omega) pacc.2.1
   have fC:FpOk X pins H5 C:=I2.fpOk (by omega) I6.free
   have K6:Inv X pins σ (upd H5 acc (.lst ys)) s6:=J6.track facc ⟨Nat.le_of_lt hz,its,en,rv,pacc.1⟩
   obtain ⟨m,hm,_⟩:=I6.loc
   exact fin acc C _ s6 (.ref acc) rfl K6 ⟨by rw [yai hAC.symm];exact fC.1,fC.2⟩ ⟨m,hm⟩ (qn acc pacc.2.1)
  ·refine thn (T.item (cxComp X (own ++ fr) scope (cellsFrom (C + 1) scope.names cl) C fp s2 H2) rfl rfl rfl hc i _ s5 σ5 H5 _ I5 (fpC fr5) st5 go) fun r s6 ⟨u,hr,h6⟩=>?_
   subst hr
   refine thn h6 fun _ s7 ⟨x,H7,I7,r7,y7,st7,fr7⟩=>?_
   have I7':=I7.pinned (fpC fr7) (T.obj _ _ st7)
   refine thn (hg _ _ _ _ _ _ s7 σ5 H7 x u _ I7' r7 (step x H7 y7)) fun _ s8 ⟨σ8,H8,I8,q8⟩=>?_
   refine thn (hf _ _ _ _ _ _ s8 σ8 H8 _ I8 q8) fun b s9 ⟨H9,I9,q9⟩=>?_
   have tnk:∀ {s':Shared} {σ':St} {H':Hp},Inv (cxComp X (own ++ fr) scope (cellsFrom (C + 1) scope.names cl) C fp s2 H2) ([(acc,{ cls:=.type "list",data:=.seq its.toArray en })] ++ pinsAt fp s7.heap) σ' H' s'→tn (i + 1) s'.heap∧∀ b∈fp,H' b=none:=fun {s' σ' H'} I' =>
    ⟨T.keep _ _ _ st7 fun b hb o e=>(I'.pin (b,o) (List.mem_append_right _ (List.mem_append_right _ (zaK hb e)))).1,fun b hb=>by
     obtain ⟨o,e,d⟩:=T.obj _ _ st7 b hb
     exact (I'.pin (b,o) (List.mem_append_right _ (List.mem_append_right _ (zaK hb e)))).2.1⟩
   cases b with
   | false =>
    obtain ⟨m',hm,w9⟩:=q9
    exact ⟨m',hm,i + 1,ys,its,en,σ8,H9,I9.unpinned,rv,(tnk I9).1,(tnk I9).2,w9⟩
   | true =>
    refine thn (he _ _ _ _ _ _ s9 σ8 H9 _ I9 q9) fun y s10 ⟨yv,H10,I10,r10,m',hm,w10⟩=>?_
    have pacc:=I10.pin (acc,_) (List.mem_append_right _ (List.mem_append_left _ List.mem_cons_self))
    have hlen:=rv.length
    refine wpAny_list_append_plain (items:=its.toArray) ⟨en,pacc.1⟩ (fun h11 ⟨en',hl11⟩ hs11=>?_) (by simp only [List.size_toArray];omega)
    have cA:∀ x c,(cellsFrom (C + 1) scope.names cl).lookup x=some c→c≠acc:=fun x c h=>(cellC x c h).2.1
    have Ia:Inv (cxComp X (own ++ fr) scope (cellsFrom (C + 1) scope.names cl) C fp s2 H2) [] σ8 H10 s10:=I10.pins_of fun p hp=>nomatch hp
    have Ib:Inv (cxComp X (own ++ fr) scope (cellsFrom (C + 1) scope.names cl) C fp s2 H2) [] σ8 H10 { s10 with heap:=h11 }:=Ia.turned (it:=acc) (t':=s10.toks) (fun b o hb e=>(hs11.2 b hb).trans e) pacc.2.1 hAC (.inr (by show s2.heap.objs.size≤acc;omega)) cA fun p hp=>nomatch (show p∈([]:List (Addr×Obj)) from by simpa [cxComp] using hp)
    refine ⟨m',hm,i + 1,ys ++ [yv],its ++ [y],en',σ8,H10,Ib.pins_of fun p hp=>?_,rv.append (.cons r10 .nil),T.keep _ _ _ (tnk I10).1 fun b hb o e=>(hs11.2 b (fpd b hb).2).trans e,(tnk I10).2,w10⟩
    have e:p=(acc,{ cls:=.type "list",data:=.seq (its ++ [y]).toArray en' }):=by simpa using hp
    subst e
    exact ⟨by simpa using hl11,pacc.2.1,pacc.2.2.1,pacc.2.2.2.1,fun v z=>nomatch z⟩
 exact codeAny_compStart_list loop (T.self X.A 0 _ _ _ (T.keep _ _ _ st2 fun b _ o e=>old b o e) loop)
theorem zay (hc:X.calm=true) (S:CompSc X scope own fr js) (hi:PI X tg iter wi) (hg:∀ cells C fp s H,PG (cxComp X (own ++ fr) scope cells C fp s H) tg g) (hf:∀ cells C fp s H,PF (cxComp X (own ++ fr) scope cells C fp s H) ifs tc) (he:∀ cells C fp s H,PE (cxComp X (own ++ fr) scope cells C fp s H) elt te)
  (hs:∀ x,foldedSetIterable iter X.env x=pure x:=by intro _;rfl):PE X (.ListComp elt [⟨tg,iter,ifs,0⟩] scope pos) (tComp wi own.length js g tc te):=by
 intro pins s σ H Q I h
 obtain ⟨cl,hcl,hcl1,hcl2⟩:=xaZ (scope:=scope) (env:=X.env) fun y hy hk=>I.ok.has y.1 (S.free y hy hk)
 rw [eval_ListComp]
 refine wpAny_comprehension_free (use:=none) rfl hs hcl S.kind (fun y hy hk=>by rw [← hk];exact xas S.ndn hy) (thn (hi pins s σ H _ I h) fun v s1 h1=>thn h1 fun itv s2 h2=>?_)
 obtain ⟨it,fp,tn,J,H2,e,I2,T,st2,f2,W,⟨m0,w0⟩,turn⟩:=h2
 subst e
 refine XaZ (RR:=fun acc C=>compPost (model X.prog X.w) X.A X.xe none (EP X pins σ Q) acc C) hc S hg hf he I2 T st2 f2 hcl1 hcl2 W m0 w0 turn ?_
 intro acc C H' s' v hv I' fC ⟨m,hm⟩ q
 subst hv
 obtain ⟨f0,f1,f2',f3,f4,f5⟩:=fC
 exact ⟨m,hm,fun h'' hs''=>⟨.ref acc,H',I'.turned (it:=C) (t':=s'.toks) (fun b o hb e=>(hs''.2 b hb).trans e) f0 f1 f3 f4 f5,rfl,q⟩⟩
theorem ybu {i:Nat} {x:Str} {pos' spos:Pos} (hc:X.calm=true) (hN:X.N.Nodup) (hx:X.N[i]?=some x) (hl:X.env.scope.names.lookup x=some .local) (S:CompSc X scope own fr js) (hi:PI X tg iter wi) (hg:∀ cells C fp s H,PG (cxComp X (own ++ fr) scope cells C fp s H) tg g) (hf:∀ cells C fp s H,PF (cxComp X (own ++ fr) scope cells C fp s H) ifs tc) (he:∀ cells C fp s H,PE (cxComp X (own ++ fr) scope cells C fp s H) elt te)
  (hsw:swapsWith (.ListComp elt [⟨tg,iter,ifs,0⟩] scope pos) (some (.Name x pos')) spos.line X.env=pure true:=by rfl)
  (hs:∀ x,foldedSetIterable iter X.env x=pure x:=by intro _;rfl):PS X (.Assign [.Name x pos'] (.ListComp elt [⟨tg,iter,ifs,0⟩] scope pos) spos) (tAsg (tComp wi own.length js g tc te) (gName i)):=by
 intro pins s σ H D I h
 obtain ⟨cl,hcl,hcl1,hcl2⟩:=xaZ (scope:=scope) (env:=X.env) fun y hy hk=>I.ok.has y.1 (S.free y hy hk)
 rw [exec_Assign_Name_used _ _ _ _ hsw]
 refine wpAny_bind (wpAny_standAt (wpAny_bind ?_))
 show wpAny _ X.A (do let _ ← comprehension (.ListComp elt [⟨tg,iter,ifs,0⟩] scope pos) scope X.env _ (newList []) false (eval iter X.env) (some (assign (.Name x pos') X.env))) _ _ s
 refine wpAny_bind (wpAny_mono (wpAny_comprehension_free (use:=some (assign (.Name x pos') X.env)) (Q:=fun _ s'=>SP X pins D .next s') rfl hs hcl S.kind (fun y hy hk=>by rw [← hk];exact xas S.ndn hy)
  (thn (hi pins s σ H _ I h) fun v s1 h1=>thn h1 fun itv s2 h2=>?_)) (fun _ s' hq=>wpAny_pure (wpAny_pure hq)) fun _ _ e=>e)
 obtain ⟨it,fp,tn,J,H2,e,I2,T,st2,f2,W,⟨m0,w0⟩,turn⟩:=h2
 subst e
 refine XaZ (Q:=fun v H'=>gName i v σ H' D.nx) (RR:=fun acc C=>compPost (model X.prog X.w) X.A X.xe (some (assign (.Name x pos') X.env)) (fun _ s'=>SP X pins D .next s') acc C) hc S hg hf he I2 T st2 f2 hcl1 hcl2 W m0 w0 turn ?_
 intro acc C H' s' v hv I' fC ⟨m,hm⟩ q
 subst hv
 obtain ⟨f0,f1,f2',f3,f4,f5⟩:=fC
 show wpAny _ X.A (assign (.Name x pos') X.env (.ref acc)) _ _ _
 refine wpAny_assign_Name (za6 I' hN hx (.inl hl) (show RelV (.ref acc) (.ref acc) from rfl) (fun s'' I'' ⟨a,hs1,ha⟩=>?_) (.inr hl))
 have haC:a≠C:=by
  rcases ha with e | e
  ·rw [e];exact f1.symm
  ·exact f4 _ _ e
 exact ⟨m,hm.sameBut hs1 haC.symm,fun h'' hs''=>⟨_,H',I''.turned (it:=C) (t':=s''.toks) (fun b o hb e=>(hs''.2 b hb).trans e) f0 f1 f3 f4 f5,q⟩⟩
end
end L2
namespace L2
open PySem PySem.Spec PyProof.Rows
section
variable {X:Cx}
theorem za0 {k:Nat} (hr:Room k X.A):CallR X (.builtin "repr") (fun xs H Q=>∃ (x:V) (d:PyData),xs=[x]∧Rep X.K H x d∧d.showable=true∧d.canLay0=true∧d.shown.length≤sizeLine∧d.depth≤60∧Q (.str d.shown) H):=by
 intro pins s σ H xs us Q I r h
 obtain ⟨x,d,rfl,rp,sh,cl,sz,dp,q⟩:=h
 obtain ⟨u,rfl,ru⟩:=vals1 r
 obtain ⟨as,rd⟩:=rp.reads I ru
 have hu:=hr.units
 have big:∀ a,u=.ref a→wpAny (model X.prog X.w) X.A (call (.builtin "repr") [u]) (EP X pins σ Q) X.xe s:=fun a e=>by
  subst e
  exact repr_of_reads' rd sh (PyData.noDict_hsm (PyData.hasDict_of_canLay _ cl)) hr.gd (by omega) (fun _ _ e=>e) (fun h' u tk kp=>⟨.str _,H,I.kept kp,⟨_,rfl⟩,q⟩) sz
 cases rp with
 | non =>
  cases ru
  have e:PyData.shown .none="None" := by simp only [PyData.shown]
  rw [e] at q
  exact P.repr_of_none ⟨.str _,H,I.tok _,⟨_,rfl⟩,q⟩
 | bl b =>
  cases ru
  have e:PyData.shown (.bool b)=(if b=true then Str.ofString "True" else Str.ofString "False"):=by simp only [PyData.shown]
  rw [e] at q
  exact P.repr_of_bool ⟨.str _,H,I.tok _,⟨_,rfl⟩,q⟩
 | int i =>
  obtain ⟨t,rfl⟩:=ru
  have e:PyData.shown (.int i)=toString i:=by simp only [PyData.shown]
  rw [e] at q
  have sh':i.natAbs.log2 < 1920:=by simpa only [PyData.showable,decide_eq_true_eq] using sh
  exact P.repr_of_int sh' ⟨.str _,H,I.tok _,⟨_,rfl⟩,q⟩
 | str x =>
  obtain ⟨t,rfl⟩:=ru
  have e:PyData.shown (.str x)=reprText x:=by simp only [PyData.shown]
  rw [e] at q sz
  exact P.repr_of_str ⟨.str _,H,I.tok _,⟨_,rfl⟩,q⟩ sz
 | tup _ _=>cases ru;exact big _ rfl
 | lst _ _=>cases ru;exact big _ rfl
theorem zbj:∀ {bs:List Bool} {us:List Value} {i:Nat} {v:Value},Vals (bs.map V.bl) us→us[i]?=some v→∃ b,bs[i]?=some b∧v=.bool b
 | [],_,i,v,r,h=>by cases r;simp at h
 | b :: bs,_,0,v,r,h=>by
  cases r with
  | cons r1 r2 =>
   cases (show _=Value.bool b from r1)
   simp at h
   exact ⟨b,rfl,h.symm⟩
 | b :: bs,_,i + 1,v,r,h=>by
  cases r with
  | cons r1 r2 =>
   obtain ⟨c,e1,e2⟩:=zbj (i:=i) r2 (by simpa using h)
   exact ⟨c,by simpa using e1,e2⟩
theorem Zbu (hc:X.calm=true):CallR X (.builtin "all") (fun xs H Q=>∃ (p:Addr) (bs:List Bool),xs=[.ref p]∧SqL X.K H p (bs.map V.bl)∧Q (.bl (bs.all id)) H):=by
 intro pins s σ H xs us Q I r h
 obtain ⟨p,bs,rfl,hq,q⟩:=h
 obtain ⟨u,rfl,ru⟩:=vals1 r
 cases ru
 obtain ⟨its,rv,pl,_⟩:=I.list hq
 have hl:=pl.isList
 have hlt:p < s.heap.objs.size:=by obtain ⟨_,e,_⟩:=hl;exact Heap.lt_size e
 have hlen:=rv.length
 rw [List.length_map] at hlen
 have hh:X.A.in1.handled=none:=I.ok.hd hc
 refine call_all_walk (wpAny_pyIter_list hl ?_)
 refine ⟨s.heap.objs.size,[s.heap.objs.size,p],[s.heap.objs.size],its.toArray.size,_,_,fun i=>(bs[i]?).getD true,rfl,Walks.list (A:=X.A.in1) hh _ p (Nat.ne_of_lt hlt) its.toArray,
  ⟨⟨_,Heap.get?_push_size _ rfl,rfl,rfl⟩,hl.push _⟩,fun i v s' Q' E' hP hQ=>?_,fun h' tk hk=>?_⟩
 ·obtain ⟨b,e,rfl⟩:=zbj rv (by simpa using hP)
  simp only [e,Option.getD_some] at hQ
  exact wpAny_truthy_bool hQ
 ·have e:((List.range its.toArray.size).all fun i=>(bs[i]?).getD true)=bs.all id:=by
   rw [List.size_toArray,← hlen];exact PyProof.Rows.LSm.range_all bs
  rw [e]
  exact ⟨.bl _,H,I.kept (PyProof.Rows.LSm.kept_iter hk),rfl,q⟩
end
section
variable {prog:Program} {w:World} {A:Around} {E:Value→Shared→Prop} {s:Shared}
end
section
variable {X:Cx}
end
mutual
noncomputable def wD:PyData→Nat
 | .none=>4
 | .bool _=>5
 | .int _=>1921
 | .str x=>(reprText x).length
 | .list _=>0
 | .tuple xs=>wAll xs + 3
 | .dict _=>0
noncomputable def wAll:List PyData→Nat
 | []=>0
 | x :: xs=>wD x + 2 + wAll xs
end
mutual
noncomputable def noL:PyData→Bool
 | .none=>true
 | .bool _=>true
 | .int _=>true
 | .str _=>true
 | .list _=>false
 | .tuple xs=>noLs xs
 | .dict _=>false
noncomputable def noLs:List PyData→Bool
 | []=>true
 | x :: xs=>noL x && noLs xs
end
theorem xa7 (ts:List Str):(tupleText ts).length≤piled ts + 3:=by
 unfold tupleText
 rw [strLen_append,strLen_append]
 have e1:((("(" : String):Str)).length=1:=rfl
 have e3:(((if ts.length == 1 then ",)" else ")" : String):Str)).length≤2:=by split <;> decide
 rw [e1]
 by_cases h:ts=[]
 ·subst h
  have e4:(Str.join ", " []).length=0:=rfl
  rw [e4];omega
 ·have:=join_length_add ts h
  omega
mutual
theorem ybj:∀ (d:PyData),d.showable=true→noL d=true→d.shown.length≤wD d
 | .none,_,_=>by simp only [PyData.shown,wD];decide
 | .bool b,_,_=>by simp only [PyData.shown,wD];cases b <;> decide
 | .int i,h,_=>by
  simp only [PyData.shown,wD]
  exact int_text_len_1921 (by simpa only [PyData.showable,decide_eq_true_eq] using h)
 | .str x,_,_=>by simp only [PyData.shown,wD];exact Nat.le_refl _
 | .list _,_,h=>by simp only [noL] at h;cases h
 | .dict _,_,h=>by simp only [noL] at h;cases h
 | .tuple xs,h,h'=>by
  simp only [PyData.shown,wD]
  have:=Zbj xs (by simpa only [PyData.showable] using h) (by simpa only [noL] using h')
  have:=xa7 (PyData.shownAll xs)
  omega
theorem Zbj:∀ (ds:List PyData),PyData.showableAll ds=true→noLs ds=true→piled (PyData.shownAll ds)≤wAll ds
 | [],_,_=>by simp only [PyData.shownAll,wAll,piled_nil];exact Nat.le_refl _
 | d :: ds,h,h'=>by
  simp only [PyData.showableAll,Bool.and_eq_true] at h
  simp only [noLs,Bool.and_eq_true] at h'
  simp only [PyData.shownAll,wAll,piled_cons]
  have:=ybj d h.1 h'.1
  have:=Zbj ds h.2 h'.2
  omega
end
theorem Xa7:∀ (ns:List Int),wAll (intsD ns)=1923 * ns.length
 | []=>rfl
 | n :: r=>by
  show wD (.int n) + 2 + wAll (intsD r)=1923 * (r.length + 1)
  rw [Xa7 r]
  simp only [wD];omega
section
variable {K:PySem.W.Frag} {ch:List Addr} {H H':Hp}
theorem za8:∀ (ns:List Int),noLs (intsD ns)=true
 | []=>rfl
 | n :: r=>by show (true && noLs (intsD r))=true;rw [za8 r];rfl
end
noncomputable def tupD (ns:List Int):PyData:=.tuple (intsD ns)
theorem XbG (ns:List Int):noL (tupD ns)=true:=by unfold tupD;simp only [noL];exact za8 ns
theorem ya8:∀ (rs:List (List Int)),noLs (rs.map tupD)=true
 | []=>rfl
 | r :: rs=>by rw [List.map_cons];simp only [noLs];rw [XbG,ya8 rs];rfl
theorem zaG:∀ (rs:List (List Int)),PyData.canLayAll0 (rs.map tupD)=true
 | []=>rfl
 | r :: rs=>by
  show (PyData.canLayAll0 (intsD r) && PyData.canLayAll0 (rs.map tupD))=true
  rw [Yar,zaG rs];rfl
theorem ZaP:∀ (rs:List (List Int)),PyData.depthAll (rs.map tupD)≤1
 | []=>Nat.zero_le _
 | r :: rs=>by
  show max (PyData.depthAll (intsD r) + 1) (PyData.depthAll (rs.map tupD))≤1
  have:=ZaP rs
  rw [zaA];omega
noncomputable def total (rs:List (List Int)):Nat:=(rs.map List.length).sum
theorem Za8:∀ (rs:List (List Int)),wAll (rs.map tupD)=1923 * total rs + 5 * rs.length
 | []=>rfl
 | r :: rs=>by
  show wD (tupD r) + 2 + wAll (rs.map tupD)=1923 * (r.length + total rs) + 5 * (rs.length + 1)
  rw [Za8 rs]
  unfold tupD
  simp only [wD,Xa7];omega
noncomputable def smI (i:Int):Prop:=-1000000000000000000≤i∧i≤1000000000000000000
theorem smI.log {i:Int} (h:smI i):i.natAbs.log2 < 1920:=by
 have h1:i.natAbs < 2 ^ 1920:=Nat.lt_of_lt_of_le (show i.natAbs < 2 ^ 64 by unfold smI at h;omega) (Nat.pow_le_pow_right (n:=2) (by decide) (show 64≤1920 by decide))
 by_cases h0:i.natAbs=0
 ·rw [h0];decide
 ·exact (Nat.log2_lt h0).mpr h1
theorem zaN:∀ {ns:List Int},(∀ i∈ns,smI i)→PyData.showableAll (intsD ns)=true
 | [],_=>rfl
 | n :: r,h=>by
  show (PyData.showable (.int n) && PyData.showableAll (intsD r))=true
  rw [zaN fun i hi=>h i (List.mem_cons_of_mem _ hi),Bool.and_true]
  simp only [PyData.showable,decide_eq_true_eq]
  exact (h n List.mem_cons_self).log
theorem yaN:∀ {rs:List (List Int)},(∀ r∈rs,∀ i∈r,smI i)→PyData.showableAll (rs.map tupD)=true
 | [],_=>rfl
 | r :: rs,h=>by
  show (PyData.showable (tupD r) && PyData.showableAll (rs.map tupD))=true
  rw [yaN fun r' hr=>h r' (List.mem_cons_of_mem _ hr),Bool.and_true]
  unfold tupD
  simp only [PyData.showable]
  exact zaN (h r List.mem_cons_self)
end L2
namespace L2
open PySem PySem.Spec PyProof.Rows
section
variable {X:Cx} {K:PySem.W.Frag}
theorem zbH (hK:X.K=K):IxR X (rIxL K):=by subst hK;exact xak
theorem YaP (hK:X.K=K):IxR X (rIxT K):=by subst hK;exact Yam
theorem ZaN (hK:X.K=K):OpR X (compareOp .NotIn) (rIn K true):=by subst hK;exact YaC
theorem ya2 (hK:X.K=K):CallR X (.builtin "len") (fun xs H Q=>∃ p ys,xs=[V.ref p]∧(SqL K H p ys∨SqT K H p ys)∧Q (.int ys.length) H):=by subst hK;exact xad
theorem YaL (hK:X.K=K):CallR X (.type "tuple") (fun xs H Q=>∃ p ys,xs=[V.ref p]∧((SqL K H p ys∧∀ l,H l=none→Q (.ref l) (upd H l (.tup ys)))∨(SqT K H p ys∧Q (.ref p) H))):=by subst hK;exact Zaf
theorem ybH {tg l:Expr} {tl:TE} (hK:X.K=K) (hl:PE X l tl):PI X tg l (iList K tl):=by subst hK;exact XaT hl
end
end L2
namespace L2
open PySem PySem.Spec PyProof.Rows
section
variable {prog:Program} {w:World} {A:Around} {E:Value→Shared→Prop} {s:Shared}
theorem Zbn {j t:Addr} {i:Nat} {ys:Array Value} {y:Value} {Q:Value→Shared→Prop} (hj:s.heap.IsTupleIter j t i) (ht:s.heap.IsTuple t ys) (hy:ys[i]?=some y)
  (hQ:∀ h',h'.IsTupleIter j t (i + 1)→Heap.SameBut j s.heap h'→Q y { s with heap:=h' }):wpAny (model prog w) A (Builtin.SmallTypes.nextOf (.ref j)) Q E s:=by
 obtain ⟨r,hr,rc,rd⟩:=id hj
 obtain ⟨q,hq,_,nq,dq⟩:=ht
 unfold Builtin.SmallTypes.nextOf
 refine wpAny_bind (wpAny_callSpecial?_slot (name:=Str.ofString "__next__") hj.typeIs F.slot_tuple_iterator_next (wpAny_call_entry F.slot_tuple_iterator_next hj.typeIs F.entry_tuple_iterator_next ?_ (F.args_tuple_iterator_next_1 _)))
 show wpAny _ _ (PySem.field (.ref j) 0 >>= _) _ _ s
 refine wpAny_bind (wpAny_field hr rd (x:=.ref t) rfl ?_);show wpAny _ _ (if (Value.ref t == Value.none)=true then _ else _) _ _ s
 rw [if_neg (fun z:(Value.ref t == Value.none)=true=>Bool.false_ne_true z)];show wpAny _ _ (PySem.field (.ref j) 1 >>= _) _ _ s
 refine wpAny_bind (wpAny_field hr rd (x:=.int i 0) rfl ?_);show wpAny _ _ (seqItems? (.ref t) >>= _) _ _ s
 refine wpAny_bind (wpAny_seqItems hq dq ?_);simp only [Int.toNat_natCast,hy]
 refine wpAny_bind (wpAny_setField hr rd (by simp) (wpAny_pure ⟨y,rfl,wpAny_pure (hQ _ ⟨_,Heap.get?_update_self _ hr (Obj.isFreed_of_fields (Obj.data_mapFields rd _)),(Obj.cls_mapFields ..).trans rc,by rw [Obj.data_mapFields rd];simp [rawInt]⟩ (Heap.SameBut.update ..))⟩))
theorem Ybu {j t:Addr} {i:Nat} {ys:Array Value} {Q:Value→Shared→Prop} (hh:A.handled=none) (hj:s.heap.IsTupleIter j t i) (ht:s.heap.IsTuple t ys) (hy:ys[i]?=none)
  (hE:∀ h' e,Heap.ExtBut j s.heap h'→(∃ o,h'.get? e=some o∧o.cls=.type "StopIteration")→E (.ref e) { s with heap:=h' }):wpAny (model prog w) A (Builtin.SmallTypes.nextOf (.ref j)) Q E s:=by
 obtain ⟨r,hr,rc,rd⟩:=id hj
 obtain ⟨q,hq,_,nq,dq⟩:=ht
 unfold Builtin.SmallTypes.nextOf
 refine wpAny_bind (wpAny_callSpecial?_slot (name:=Str.ofString "__next__") hj.typeIs F.slot_tuple_iterator_next (wpAny_call_entry F.slot_tuple_iterator_next hj.typeIs F.entry_tuple_iterator_next ?_ (F.args_tuple_iterator_next_1 _)))
 show wpAny _ _ (PySem.field (.ref j) 0 >>= _) _ _ s
 refine wpAny_bind (wpAny_field hr rd (x:=.ref t) rfl ?_);show wpAny _ _ (if (Value.ref t == Value.none)=true then _ else _) _ _ s
 rw [if_neg (fun z:(Value.ref t == Value.none)=true=>Bool.false_ne_true z)];show wpAny _ _ (PySem.field (.ref j) 1 >>= _) _ _ s
 refine wpAny_bind (wpAny_field hr rd (x:=.int i 0) rfl ?_);show wpAny _ _ (seqItems? (.ref t) >>= _) _ _ s
 refine wpAny_bind (wpAny_seqItems hq dq ?_);simp only [Int.toNat_natCast,hy]
 refine wpAny_bind (wpAny_rule (wpAny_bind (wpAny_setField hr rd (by simp) ?_)));show wpAny _ _ (newExc (.type "StopIteration") [] >>= _) _ _ _
 refine wpAny_bind ?_;simp only [newExc,newTuple]
 refine wpAny_bind (wpAny_newObj_type ?_ (by size_fits));refine wpAny_bind (m:=firstArgMember _ _) (wpAny_of_eq (a:=Value.none) (by first | rfl | (simp only [firstArgMember];rfl)) ?_)
 refine wpAny_newObj_type ?_ (by size_fits);simp only [raiseNew]
 refine wpAny_bind (wpAny_handled ?_);first | rw [show A.in1.handled=none from hh] | rw [hh]
 exact wpAny_bind (wpAny_pure (wpAny_throw (hE _ _ (((Heap.SameBut.update ..).extBut.push _).push _) ⟨_,Heap.get?_push_size _ rfl,rfl⟩)))
end
theorem drawsT {prog:Program} {w:World} {A:Around} (hh:A.handled=none) (j t:Addr) (hne:t≠j) (ys:Array Value) :
  Draws prog w A j [j,t] ys.size (fun i v=>ys[i]?=some v) (fun i h=>h.IsTupleIter j t i∧h.IsTuple t ys) where
 live:=fun _ _ st=>let ⟨o,ho,_⟩:=st.1;⟨o,ho⟩
 frame:=fun _ _ _ st k=>⟨st.1.at fun o e=>k j (by simp) o e,let ⟨o,e,r⟩:=st.2;⟨o,k t (by simp) o e,r⟩⟩
 item:=fun i s Q E hi st hQ=>Zbn st.1 st.2 (y:=ys[i]) (by simp [hi]) fun h' a b=>hQ _ h' s.toks (by simp [hi]) ⟨a,st.2.extBut b.extBut hne⟩ b
 done:=fun s Q E st hE=>Ybu hh st.1 st.2 (by simp) hE
theorem xbu (l:Addr) (items:Array Value) (n:Nat) (dct:Option Addr) (sl:Array (Option Value)) :
  Meets (Builtin.«enumerate.__new__» ⟨[.type "enumerate",.ref l],[]⟩) (fun _ R s=>s.heap.get? l=some { cls:=.type "tuple",dict:=dct,data:=.seq items n,slots:=sl } ∧
   R (.ok (.ret (.ref (s.heap.push { cls:=.type "tuple_iterator",data:=.fields #[.ref l,.int 0 0] }).objs.size)))
    { s with heap:=(s.heap.push { cls:=.type "tuple_iterator",data:=.fields #[.ref l,.int 0 0] }).push { cls:=.type "enumerate",data:=.fields #[.none,.bool false,.ref s.heap.objs.size,rawInt 0,.none,.none] } }) :=
 .of_wp fun prog w A R s h=>by
  obtain ⟨hp,g,d,tk,os⟩:=s;obtain ⟨hl,h⟩:=h
  have hsub:=sub_enumerate
  have hL:Heap.IsTuple (Shared.heap ⟨hp,g,d,tk,os⟩) l items:=⟨_,hl,rfl,n,rfl⟩
  wp_walk using AutoSeq1.wpAny_loadPart' hl
  refine wpAny_stack_any fun st=>wpAny_pure ?_
  split
  ·rename_i c _ _ _ _ _
   cases (c == Value.type "enumerate") <;> (wp_walk using AutoSeq1.wpAny_loadPart' hl,wpAny_pyIter_tuple hL;exact ⟨_,rfl,h⟩)
  ·wp_walk using AutoSeq1.wpAny_loadPart' hl,wpAny_pyIter_tuple hL
   exact ⟨_,rfl,h⟩
section
variable {prog:Program} {w:World} {A:Around} {E:Value→Shared→Prop} {s:Shared}
theorem Ybn {l:Addr} {ys:Array Value} {Q:Value→Shared→Prop} (ht:s.heap.IsTuple l ys)
  (h:∀ h',IsEnum h' (s.heap.objs.size + 1) s.heap.objs.size 0 .none→h'.IsTupleIter s.heap.objs.size l 0→h'.objs.size=s.heap.objs.size + 2 →
   (∀ b o,s.heap.get? b=some o→h'.get? b=some o)→Q (.ref (s.heap.objs.size + 1)) { s with heap:=h' }):wpAny (model prog w) A (call (.type "enumerate") [.ref l]) Q E s:=by
 obtain ⟨⟨c,dct,dt,sl⟩,hl,hc,n,hd⟩:=ht
 cases (show c=.type "tuple" from hc)
 cases (show dt=.seq ys n from hd)
 refine callType_new F.called_enumerate (by decide) (F.typeCall_enumerate_1 _) (F.newCall_enumerate_1 _) (fun obj=>F.args_object_init_2 obj _) F.entry_enumerate_new (xbu l ys n dct sl) ⟨hl,?_⟩
 have z:(s.heap.push { cls:=.type "tuple_iterator",data:=.fields #[.ref l,.int 0 0] }).objs.size=s.heap.objs.size + 1:=Heap.size_push ..
 show _∧_;rw [z]
 have en:IsEnum ((s.heap.push { cls:=.type "tuple_iterator",data:=.fields #[.ref l,.int 0 0] }).push { cls:=.type "enumerate",data:=.fields #[.none,.bool false,.ref s.heap.objs.size,rawInt 0,.none,.none] }) (s.heap.objs.size + 1) s.heap.objs.size 0 .none:=by
  have g:=Heap.get?_push_size (s.heap.push { cls:=.type "tuple_iterator",data:=.fields #[.ref l,.int 0 0] }) (o:={ cls:=.type "enumerate",data:=.fields #[.none,.bool false,.ref s.heap.objs.size,rawInt 0,.none,.none] }) rfl
  rw [z] at g
  exact g
 exact ⟨⟨_,en,rfl⟩,h _ en ⟨_,Heap.get?_push_of_some _ (Heap.get?_push_size _ rfl),rfl,rfl⟩ (by rw [Heap.size_push,z]) fun b o e=>Heap.get?_push_of_some _ (Heap.get?_push_of_some _ e)⟩
end
section
variable {X:Cx} {pins:List (Addr×Obj)} {σ:St} {H:Hp} {s:Shared} {h':Heap}
theorem Inv.turnedL {t':Nat} {ch:List Addr} (I:Inv X pins σ H s) (k:∀ b o,b ∉ ch→s.heap.get? b=some o→h'.get? b=some o) (f:∀ b∈ch,FpOk X pins H b):Inv X pins σ H { s with heap:=h',toks:=t' }:=by
 have nit:∀ b u,H b=some u→b ∉ ch:=fun b u e z=>by rw [(f b z).1] at e;cases e
 refine I.step (g':=s.gens) (d':=s.drawn) (ch:=ch) (fun b hb=>⟨(f b hb).2.2.2.1,(f b hb).2.1,(f b hb).2.2.2.2.1,(f b hb).2.2.2.2.2⟩) (fun b o _ _ hc e _=>k b o hc e) (fun b o _ _ hc e _=>⟨o.slots,k b o hc e⟩) (fun _ _ _ _ n=>n)
  (fun b o hc e=>⟨o,k b o hc e⟩) (fun _ _ e=>e) (fun _ _ _ e=>e) (fun b ps e=>⟨#[],by rw [e];simp⟩) (fun m hm=>?_) (fun b u e=>?_) I.bare
 ·obtain ⟨o,es,ep,ho,r⟩:=hm
  exact ⟨o,es,ep,k _ o (fun z=>(f _ z).2.1 rfl) ho,r⟩
 ·refine (I.hok b u e).stay (fun c v hc q=>k c v ?_ q) (fun _ q=>q) fun _ _ q=>q
  rcases hc with z | z
  ·rw [z];exact nit b u e
  ·exact nit c _ z
end
noncomputable def Ite (K:PySem.W.Frag) (a:Addr):It :=
 ⟨fun i H=>∃ xs x,SqT K H a xs∧xs[i]?=some x,fun i H x H'=>∃ p y,x=.ref p∧H p=none∧H'=upd H p (.tup [.int i,y])∧∀ xs,SqT K H a xs→xs[i]?=some y,fun i H=>∃ xs,SqT K H a xs∧xs.length=i⟩
theorem Xbu {P:Program} {w:World} {K:PySem.W.Frag} {es:List Expr} {x1} {pos:Pos} (a e it:Addr) (hne:e≠it) :
  Turn P w K (.Tuple es x1 pos) (Ite K a) [e,it] e (fun i h=>(∃ old,IsEnum h e it i old)∧h.IsTupleIter it a i) where
 mem:=by simp
 obj:=fun i h st b hb=>by
  obtain ⟨⟨old,he⟩,o,e2,c,d⟩:=st
  rcases List.mem_cons.mp hb with rfl | hb
  ·exact ⟨_,he,fun v z=>by
    have z':Data.fields _=Data.cell v:=z
    cases z'⟩
  ·have q:b=it:=by simpa using hb
   subst q
   exact ⟨o,e2,fun v z=>by rw [d] at z;cases z⟩
 keep:=fun i h h' st k=>⟨let ⟨old,he⟩:=st.1;⟨old,k e (by simp) _ he⟩,st.2.at fun o q=>k it (by simp) o q⟩
 item:=by
  intro X hP hw hK hc i pins s σ H E I hf st hg
  subst hP hw hK
  obtain ⟨xs,x,hq,hx⟩:=hg
  obtain ⟨its,rv,p,hz⟩:=I.tuple hq
  obtain ⟨u,hu,ru⟩:=rv.get hx
  obtain ⟨⟨old,he⟩,hit⟩:=st
  have ht:s.heap.IsTuple a its.toArray:=p
  have nai:a≠it:=fun z=>by
   obtain ⟨o,e1,c1,_⟩:=hit
   obtain ⟨o2,e2,c2,_⟩:=ht
   rw [z,e1] at e2;cases e2
   exact absurd (c1.symm.trans c2) (by simp)
  have nae:e≠a:=fun z=>by
   obtain ⟨o2,e2,c2,_⟩:=ht
   rw [← z,he] at e2;cases e2
   exact absurd c2 (by simp)
  have hl:=rv.length
  have hi:i < its.toArray.size:=by
   have:=List.getElem?_eq_some_iff.mp hu
   obtain ⟨q,_⟩:=this
   simpa using q
  refine wpAny_pyNext_enum_itemD (drawsT (A:=X.A.in1) (I.ok.hd hc) it a nai its.toArray) he ⟨hit,ht⟩ hi hne (by simp [hne,nae]) fun y h1 tk hy ho hst hT hsz kk=>?_
  have ey:y=u:=by
   have:its.toArray[i]?=some u:=by simpa using hu
   exact Option.some.inj (hy.symm.trans this)
  subst ey
  refine ⟨_,rfl,wpAny_letOwnedTupleGo_enum ho fun h2 he2 sb=>?_⟩
  have hel:@LT.lt Nat _ e s.heap.objs.size:=Heap.lt_size he
  have hil:@LT.lt Nat _ it s.heap.objs.size:=by obtain ⟨o,e1,_⟩:=hit;exact Heap.lt_size e1
  have hf0:H s.heap.objs.size=none:=I.hok.fresh (Nat.le_refl _)
  have sb':Heap.SameBut e h1 h2:=sb
  have I1:Inv X pins σ (upd H s.heap.objs.size (.tup [.int i,x])) { s with heap:=s.heap.push { cls:=.type "tuple",data:=.seq #[.int i tk,y] },toks:=s.toks } :=
   I.laid (fun b u e=>Heap.get?_push_of_some _ e) (Nat.le_refl _) ⟨(by decide:2≤sizeLine),[.int i tk,y],.cons ⟨tk,rfl⟩ (.cons ru .nil),⟨_,Heap.get?_push_size _ rfl,rfl,rfl,_,rfl⟩⟩
  have nn:∀ b∈[e,it],@LT.lt Nat _ b s.heap.objs.size:=fun b hb=>by
   rcases List.mem_cons.mp hb with rfl | hb
   ·exact hel
   ·have q:b=it:=by simpa using hb
    rw [q];exact hil
  have hn:∀ b∈[e,it],upd H s.heap.objs.size (.tup [.int i,x]) b=none:=fun b hb=>by
   unfold upd
   rw [if_neg (Nat.ne_of_lt (nn b hb))]
   exact (hf b hb).1
  have I2:Inv X pins σ (upd H s.heap.objs.size (.tup [.int i,x])) { s with heap:=h2,toks:=tk + 1 }:=by
   refine Inv.turnedL (s:={ s with heap:=s.heap.push { cls:=.type "tuple",data:=.seq #[.int i tk,y] },toks:=s.toks }) (h':=h2) I1 (ch:=[e,it]) (t':=tk + 1) (fun b o hb q=>?_) fun b hb=>⟨hn b hb,(hf b hb).2⟩
   have nb:b≠e∧b≠it:=by simpa using hb
   refine (sb'.2 b nb.1).trans ?_
   rcases Heap.get?_push_cases q with ⟨rfl,rfl⟩ | q
   ·exact hT
   ·exact kk b o nb.1 nb.2 q
  refine ⟨.ref s.heap.objs.size,_,I2,rfl,⟨_,x,rfl,hf0,rfl,fun ys hy2=>by rw [I.tuple_inj hy2 hq];exact hx⟩,⟨⟨y,?_⟩,?_⟩,hn⟩
  ·have:((i + 1:Nat):Int)=(i:Int) + 1:=by omega
   rw [this];exact he2
  ·exact hst.1.extBut sb'.extBut (Ne.symm hne)
 done:=by
  intro X hP hw hK hc i pins s σ H E I hf st hg
  subst hP hw hK
  obtain ⟨xs,hq,hx⟩:=hg
  obtain ⟨its,rv,p,hz⟩:=I.tuple hq
  obtain ⟨⟨old,he⟩,hit⟩:=st
  have ht:s.heap.IsTuple a its.toArray:=p
  have nai:a≠it:=fun z=>by
   obtain ⟨o,e1,c1,_⟩:=hit
   obtain ⟨o2,e2,c2,_⟩:=ht
   rw [z,e1] at e2;cases e2
   exact absurd (c1.symm.trans c2) (by simp)
  have hl:=rv.length
  have ei:its.toArray.size=i:=by simp;omega
  refine wpAny_pyNext_enum_endD (drawsT (A:=X.A.in1) (I.ok.hd hc) it a nai its.toArray) he (by rw [ei];exact ⟨hit,ht⟩) fun h1 eb=>⟨rfl,?_⟩
  obtain ⟨f0,f1,f2,f3,f4,f5⟩:=hf it (by simp)
  exact I.turned (t':=s.toks) (fun b o hb q=>eb b o hb q) f0 f1 f3 f4 f5
 self:=fun _ _ _ _ _ st h=>let ⟨_,he⟩:=st.1;wpAny_pyIter_enum he h
noncomputable def iEnum (K:PySem.W.Frag) (ta:TA):TI:=fun σ H R=>ta σ H fun vs H1=>∃ a,vs=[.ref a]∧(∃ xs,SqT K H1 a xs)∧R (Ite K a) H1
theorem xbT {X:Cx} {es:List Expr} {x1} {p0:Pos} {l:Expr} {ta:TA} {p pos:Pos} (hg:Gl X "enumerate") (hm:X.mg "enumerate" = none) (ha:PA X [l] ta) (hs:starEach [l] X.env=[(false,eval l X.env)]:=by rfl) :
  PI X (.Tuple es x1 p0) (.Call (.Name "enumerate" p) [l] [] pos) (iEnum X.K ta):=by
 intro pins s σ H R I h
 refine Call_ (xaY I hg hm boot_enumerate (PyProof.Rows.callWith_type1 (thn (ha pos pins s σ H _ I h) fun us s1 ⟨vs,H1,I1,r1,q1⟩=>?_) hs rfl))
 obtain ⟨a,e,⟨xs,hq⟩,q⟩:=q1
 subst e
 cases r1 with
 | cons r rr =>
  cases rr
  cases r
  obtain ⟨its,rv,p,hz⟩:=I1.tuple hq
  refine Ybn (show s1.heap.IsTuple a its.toArray from p) fun h1 he hi hsz kk=>?_
  refine wpAny_pyIter_enum he ?_
  refine ⟨s1.heap.objs.size + 1,[s1.heap.objs.size + 1,s1.heap.objs.size],_,_,H1,rfl,I1.kept (t':=s1.toks) kk,Xbu a _ _ (Nat.succ_ne_self _),⟨⟨_,he⟩,hi⟩,fun b hb=>?_,q⟩
  have hb':@LE.le Nat _ s1.heap.objs.size b:=by
   rcases List.mem_cons.mp hb with rfl | hb
   ·exact Nat.le_succ _
   ·have e:b=s1.heap.objs.size:=by simpa using hb
    rw [e];exact Nat.le_refl _
  exact I1.fpOk hb' (I1.hok.fresh hb')
end L2
namespace L2
open PySem PySem.Spec PyProof.Rows
section
open Sem (wp)
open PySem.AutoSeq1 (wpAny_loadPart')
open PySem.MeetsSeq PySem.MeetsSeq2 PySem.MeetsSeq3
theorem IntsAre.get {vs:List Value} {ns:List Int} (h:IntsAre vs ns):∀ {i:Nat} {n:Int},ns[i]?=some n→∃ t,vs[i]?=some (.int n t):=by
 induction h with
 | nil=>intro i n e;simp at e
 | cons a t h ih =>
  intro i n e
  cases i with
  | zero=>exact ⟨t,by simpa using e⟩
  | succ i=>simpa using ih (by simpa using e)
theorem tupIndex (l:Addr) (items:Array Value) (n:Nat) (dd:Option Addr) (sl:Array (Option Value)) (ns:List Int) (hi:IntsAre items.toList ns) (v:Int) (t:Tok) (j:Nat) (hj:ns[j]?=some v) (hb:∀ i,i < j→ns[i]?≠some v) :
  Meets (Builtin.«tuple.index» ⟨[.ref l,.int v t],[]⟩)
   (fun _ R s=>s.heap.get? l=some { cls:=.type "tuple",dict:=dd,data:=.seq items n,slots:=sl }∧R (.ok (.ret (.int (j:Int) s.toks))) { s with toks:=s.toks + 1 }) :=
 .of_wp fun prog w A R s h=>by
  obtain ⟨hp,g,d,tk,os⟩:=s;obtain ⟨hl,h⟩:=h
  have z1:items.size=ns.length:=by rw [← hi.length];simp
  have hjl:j < ns.length:=(List.getElem?_eq_some_iff.mp hj).1
  wp_walk using wpAny_loadPart' hl
  have key:wpAny (model prog w) A.in1 (forIn (m:=Sem) [:min items.size items.size] ((none,()):Option Fin×Unit) (fun (i:Nat) _ =>
    match items[i]? with
    | some y=>do
     let b ← eqBool y (Value.int v t)
     if b=true then do
      let r ← retInt (i:Int)
      pure (ForInStep.done (some r,()))
     else pure (ForInStep.yield (none,()))
    | _=>pure (ForInStep.yield (none,()))))
   (fun a s'=>a.1=some (.done (.ret (.int (j:Int) tk)))∧s'=⟨hp,g,d,tk + 1,os⟩) (fun e s'=>R (Except.error e) s') ⟨hp,g,d,tk,os⟩:=by
   rw [Std.Legacy.Range.forIn_eq_forIn_range']
   have ez:([:min items.size items.size]:Std.Legacy.Range).size=ns.length:=by
    simp [Std.Legacy.Range.size,z1]
   rw [ez]
   refine wpAny_forIn_list _ (fun rest b s'=>b.1=none∧s'=⟨hp,g,d,tk,os⟩∧∃ k,k≤j∧rest=List.range' k (ns.length - k) 1) _ ?_ ?_ _ _ ⟨rfl,rfl,0,Nat.zero_le _,by simp⟩
   ·rintro x rest b s' ⟨hb',rfl,k,hk,e⟩
    have el:ns.length - k=(ns.length - (k + 1)) + 1:=by omega
    rw [el,List.range'_succ] at e
    injection e with e1 e2
    subst e1
    have hkl:x < ns.length:=by omega
    obtain ⟨t',ht'⟩:=IntsAre.get hi (List.getElem?_eq_getElem hkl)
    have ht2:items[x]?=some (.int ns[x] t'):=by rw [← ht',Array.getElem?_toList]
    simp only [ht2]
    obtain ⟨e,he,hiff⟩:=HT.ybF A.in1 ⟨hp,g,d,tk,os⟩ ns[x] t' v t
    refine wpAny_bind (he prog w _ _ ?_)
    cases e with
    | true =>
     have ev:ns[x]=v:=hiff.mp rfl
     have exj:x=j:=by
      rcases Nat.lt_or_ge x j with h' | h'
      ·exact absurd (by rw [List.getElem?_eq_getElem hkl,ev]) (hb x h')
      ·omega
     subst exj
     wp_walk
     first | exact ⟨rfl,rfl⟩ | trivial
    | false =>
     have ev:ns[x]≠v:=fun q=>absurd (hiff.mpr q) Bool.false_ne_true
     have:x≠j:=fun z=>ev (by subst z;rw [List.getElem?_eq_getElem hkl] at hj;exact Option.some.inj hj)
     wp_walk
     exact ⟨rfl,rfl,x + 1,by omega,e2⟩
   ·rintro b s' ⟨hb',rfl,k,hk,e⟩
    have:(List.range' k (ns.length - k) 1).length=0:=by rw [← e];rfl
    rw [List.length_range'] at this
    omega
  refine wpAny_mono key (fun a s' ha=>?_) (fun _ _ z=>z)
  obtain ⟨ha,rfl⟩:=ha
  obtain ⟨a1,a2⟩:=a
  cases (show a1=_ from ha)
  exact wpAny_pure ⟨_,rfl,h⟩
end
section
variable {X:Cx} {K:PySem.W.Frag}
noncomputable def rIndex (K:PySem.W.Frag):V→List V→Hp→VK→Prop:=fun x vs H Q=>∃ (a:Addr) (ns:List Int) (v:Int) (j:Nat),x=.ref a∧vs=[.int v]∧SqT K H a (ns.map V.int)∧ns[j]?=some v∧(∀ i,i < j→ns[i]?≠some v)∧Q (.int (j:Int)) H
theorem ZbH:MtR X "tuple.index" (rIndex X.K):=by
 intro pins s σ H x xs v us Q I rx rv h
 obtain ⟨a,ns,y,j,rfl,rfl,hq,hj,hb,q⟩:=h
 cases rx
 obtain ⟨u,rfl,t,rfl⟩:=vals1 rv
 obtain ⟨its,r,⟨⟨c,dd,dt,sl⟩,e,hc,hd,n,hdt⟩,hz⟩:=I.tupleP hq
 cases (show c=.type "tuple" from hc)
 cases (show dt=.seq its.toArray n from hdt)
 refine call_meets F.slot_tuple_index ⟨_,e,rfl⟩ F.entry_tuple_index (F.args_tuple_index_2 _ _) (tupIndex a its.toArray n dd sl ns (by simpa using zaP r) y t j hj hb) ⟨e,?_⟩
 exact ⟨.int j,H,I.tok _,⟨_,rfl⟩,q⟩
theorem xaU (hK:X.K=K):MtR X "tuple.index" (rIndex K):=by subst hK;exact ZbH
theorem Ya8 {o e:Expr} {es:List Expr} {to:TE} {t:TA} {name:Str} {apos cpos:Pos} {T id:String} {r:V→List V→Hp→VK→Prop} (hK:X.K=K) (pa:PlainAttrs T) (slot:Slot T name id) (hty:typeOf (.builtin id)=pure (.type "method_descriptor")) (hm:MtR X id r) (ho:PE X o to) (ha:PA X (e :: es) t)
  (hbase:attributeBase o name X.env (eval o X.env)=eval o X.env:=by rfl)
  (hfew:((backTo cpos (starEach (e :: es) X.env)).all (fun x=>!x.1) && (backToKw cpos (keywordEach [] X.env)).all (fun x=>x.1.isSome)
   && decide ((e :: es).length + ([]:List Keyword).length + (if ([]:List Keyword).isEmpty then 0 else 1) < 30))=true:=by rfl)
  (hline:(apos.endLine == cpos.line)=true:=by rfl) (hs:starEach (e :: es) X.env=(false,eval e X.env) :: starEach es X.env:=by rfl) (hplain:(backTo cpos (starEach es X.env)).any (·.1)=false:=by rfl) :
  PE X (.Call (.Attribute o name apos) (e :: es) [] cpos) (tBM K T r to t):=by subst hK;exact xaX pa slot hty hm ho ha hbase hfew hline hs hplain
theorem XbT {es:List Expr} {k:Nat} {t:TGs} {n:Nat} {pos:Pos} (hK:X.K=K) (hc:X.calm=true) (h:PGs X es t)
  (hn:(assignEach es X.env).length=n:=by rfl) (hst:(assignEach es X.env).findIdx? (·.1)=none:=by rfl):PG X (.Tuple es k pos) (gTup K n t):=by subst hK;exact XaY hc h hn hst
end
end L2
namespace L2
open PySem PySem.Spec PyProof.Rows
open Builtin.Str
section
variable {X:Cx} {K:PySem.W.Frag}
end
section
variable {X:Cx} {tg:Expr}
end
end L2
namespace L2
open PySem PySem.Spec PyProof.Rows
open Builtin.Str
section
variable {prog:Program} {w:World} {A:Around} {E:Value→Shared→Prop} {s:Shared}
structure ZApart (z TI TO i1 i2:Addr) (fp1 fp2:List Addr):Prop where
 TIz:TI≠z
 TOz:TO≠z
 i1z:i1≠z
 i2z:i2≠z
 TITO:TI≠TO
 TOi1:TO≠i1
 TOi2:TO≠i2
 i12:i1≠i2
 m1:i1∈fp1
 m2:i2∈fp2
 z1:∀ b∈fp1,b≠z∧b≠TO∧b≠i2
 z2:∀ b∈fp2,b≠z∧b≠TO∧b≠i1
theorem XaX {z TI TO i1 i2:Addr} {fp1 fp2:List Addr} {n1 n2 k:Nat} {P1 P2:Nat→Value→Prop} {St1 St2:Nat→Heap→Prop} {a b:Value} {Q:Value→Shared→Prop} (D:ZApart z TI TO i1 i2 fp1 fp2)
  (D1:Draws prog w A i1 fp1 n1 P1 St1) (D2:Draws prog w A i2 fp2 n2 P2 St2)
  (hz:IsZip s.heap z TI TO .none) (hTI:IsPair s.heap TI (.ref i1) (.ref i2)) (hTO:IsPair s.heap TO a b)
  (h1:St1 k s.heap) (h2:St2 k s.heap) (hk1:k < n1) (hk2:k < n2)
  (hQ:∀ x y h' tk,P1 k x→P2 k y→IsZip h' z TI TO (rawInt s.heap.objs.size)→IsPair h' TO x y→St1 (k + 1) h'→St2 (k + 1) h'→IsPair h' s.heap.objs.size x y→h'.objs.size=s.heap.objs.size + 1 →
   (∀ c o,c≠z→c≠TO→c≠i1→c≠i2→s.heap.get? c=some o→h'.get? c=some o)→Q (.ref s.heap.objs.size) { s with heap:=h',toks:=tk }) :
  wpAny (model prog w) A (Builtin.«zip.__next__» ⟨[.ref z],[]⟩) (fun fin s'=>∃ v,fin=.done (.ret v)∧Q v s') E s:=by
 show wpAny _ _ (field (.ref z) 2 >>= _) _ _ _
 refine wpAny_bind (wpAny_field hz rfl (x:=.bool false) rfl ?_)
 show wpAny _ _ (field (.ref z) 3 >>= _) _ _ _
 refine wpAny_bind (wpAny_field hz rfl (x:=.ref TI) rfl ?_)
 refine wpAny_bind (wpAny_seqItems hTI rfl ?_)
 show wpAny _ _ (Builtin.SmallTypes.ownedTupleIsFree (.ref z) >>= _) _ _ _
 refine wpAny_bind ?_
 unfold Builtin.SmallTypes.ownedTupleIsFree
 refine wpAny_bind (wpAny_field hz rfl (x:=.none) rfl (wpAny_pure ?_))
 simp only [if_true]
 refine wpAny_bind (wpAny_rule ?_)
 refine wpAny_bind (wpAny_field hz rfl (x:=.ref TO) rfl ?_)
 refine wpAny_bind (wpAny_setField_rec hz (by simp) fun h₁ hz₁ hs₁=>?_)
 replace hz₁:IsZip h₁ z TI TO .ellipsis:=hz₁
 refine wpAny_bind ?_
 simp only [List.zipIdx_cons,List.zipIdx_nil,List.forIn_cons,List.forIn_nil]
 refine wpAny_bind (wpAny_bind (wpAny_onRaise ?_))
 show wpAny _ _ (Builtin.SmallTypes.nextOf (.ref i1) >>= _) _ _ _
 refine wpAny_bind (D1.item k { s with heap:=h₁ } _ _ hk1 (D1.frame _ _ _ h1 fun c hc o e=>hs₁.extBut _ _ (D.z1 c hc).1 e) fun x h₂ tk₂ hx h1₂ hs₂=>wpAny_pure ?_)
 replace hs₂:Heap.SameBut i1 h₁ h₂:=hs₂
 have hTO₂:IsPair h₂ TO a b:=hs₂.extBut _ _ D.TOi1 (hs₁.extBut _ _ D.TOz hTO)
 refine wpAny_bind (wpAny_seqItems hTO₂ rfl ?_)
 refine wpAny_bind (wpAny_updateSeq_pair hTO₂ fun h₃ hTO₃ hs₃=>?_)
 replace hs₃:Heap.SameBut TO h₂ h₃:=hs₃
 replace hTO₃:IsPair h₃ TO x b:=hTO₃
 refine wpAny_bind (wpAny_letGo (wpAny_pure ?_))
 refine wpAny_bind (wpAny_bind (wpAny_onRaise ?_))
 show wpAny _ _ (Builtin.SmallTypes.nextOf (.ref i2) >>= _) _ _ _
 have h2₃:St2 k h₃:=D2.frame _ _ _ h2 fun c hc o e=>hs₃.extBut _ _ (D.z2 c hc).2.1 (hs₂.extBut _ _ (D.z2 c hc).2.2 (hs₁.extBut _ _ (D.z2 c hc).1 e))
 refine wpAny_bind (D2.item k { s with heap:=h₃,toks:=tk₂ } _ _ hk2 h2₃ fun y h₄ tk₄ hy h2₄ hs₄=>wpAny_pure ?_)
 replace hs₄:Heap.SameBut i2 h₃ h₄:=hs₄
 have hTO₄:IsPair h₄ TO x b:=hs₄.extBut _ _ D.TOi2 hTO₃
 refine wpAny_bind (wpAny_seqItems hTO₄ rfl ?_)
 refine wpAny_bind (wpAny_updateSeq_pair hTO₄ fun h₅ hTO₅ hs₅=>?_)
 replace hs₅:Heap.SameBut TO h₄ h₅:=hs₅
 replace hTO₅:IsPair h₅ TO x y:=hTO₅
 refine wpAny_bind (wpAny_letGo (wpAny_pure (wpAny_pure ?_)))
 refine wpAny_bind (wpAny_seqItems hTO₅ rfl ?_)
 refine wpAny_bind (wpAny_newTuple ?_)
 have hsz:h₅.objs.size=s.heap.objs.size:=by rw [hs₅.1,hs₄.1,hs₃.1,hs₂.1,hs₁.1]
 have hz₅:IsZip h₅ z TI TO .ellipsis:=hs₅.extBut _ _ D.TOz.symm (hs₄.extBut _ _ D.i2z.symm (hs₃.extBut _ _ D.TOz.symm (hs₂.extBut _ _ D.i1z.symm hz₁)))
 have hk₅:∀ c o,c≠z→c≠TO→c≠i1→c≠i2→s.heap.get? c=some o→h₅.get? c=some o:=fun c o c1 c2 c3 c4 e =>
  hs₅.extBut _ _ c2 (hs₄.extBut _ _ c4 (hs₃.extBut _ _ c2 (hs₂.extBut _ _ c3 (hs₁.extBut _ _ c1 e))))
 have h1₅:St1 (k + 1) h₅:=D1.frame _ _ _ h1₂ fun c hc o e=>hs₅.extBut _ _ (D.z1 c hc).2.1 (hs₄.extBut _ _ (D.z1 c hc).2.2 (hs₃.extBut _ _ (D.z1 c hc).2.1 e))
 have h2₅:St2 (k + 1) h₅:=D2.frame _ _ _ h2₄ fun c hc o e=>hs₅.extBut _ _ (D.z2 c hc).2.1 e
 have hzlt:z < h₅.objs.size:=Heap.lt_size hz₅
 show wpAny _ _ (Builtin.SmallTypes.ownedTupleHandOut (.ref z) (.ref h₅.objs.size) >>= _) _ _ _
 refine wpAny_bind ?_
 unfold Builtin.SmallTypes.ownedTupleHandOut
 have hz₆:IsZip (h₅.push { cls:=.type "tuple",data:=.seq #[x,y] }) z TI TO .ellipsis:=Heap.get?_push_of_some _ hz₅
 refine wpAny_bind (wpAny_setField_rec hz₆ (by simp) fun h₇ hz₇ hs₇=>?_)
 replace hz₇:IsZip h₇ z TI TO (rawInt h₅.objs.size):=hz₇
 refine wpAny_setField_rec hz₇ (by simp) fun h₈ hz₈ hs₈=>?_
 replace hz₈:IsZip h₈ z TI TO (rawInt h₅.objs.size):=hz₈
 replace hs₇:Heap.SameBut z (h₅.push { cls:=.type "tuple",data:=.seq #[x,y] }) h₇:=hs₇
 replace hs₈:Heap.SameBut z h₇ h₈:=hs₈
 have up:∀ c o,c≠z→h₅.get? c=some o→h₈.get? c=some o:=fun c o c1 e=>hs₈.extBut _ _ c1 (hs₇.extBut _ _ c1 (Heap.get?_push_of_some _ e))
 have hT₈:IsPair h₈ h₅.objs.size x y:=hs₈.extBut _ _ (Nat.ne_of_gt hzlt) (hs₇.extBut _ _ (Nat.ne_of_gt hzlt) (Heap.get?_push_size _ rfl))
 have hz8:h₈.objs.size=h₅.objs.size + 1:=by rw [hs₈.1,hs₇.1,Heap.size_push]
 rw [hsz] at hz₈ hT₈ hz8
 refine wpAny_pure ⟨_,rfl,?_⟩
 show Q (.ref h₅.objs.size) _
 rw [hsz]
 exact hQ x y h₈ tk₄ hx hy hz₈ (up _ _ D.TOz hTO₅) (D1.frame _ _ _ h1₅ fun c hc o e=>up _ o (D.z1 c hc).1 e) (D2.frame _ _ _ h2₅ fun c hc o e=>up _ o (D.z2 c hc).1 e) hT₈ hz8 fun c o c1 c2 c3 c4 e=>up c o c1 (hk₅ c o c1 c2 c3 c4 e)
theorem Za2 {z TI TO i1 i2:Addr} {fp1 fp2:List Addr} {n1 n2 k:Nat} {P1 P2:Nat→Value→Prop} {St1 St2:Nat→Heap→Prop} {a b:Value} {Q:Fin→Shared→Prop} (D:ZApart z TI TO i1 i2 fp1 fp2)
  (D1:Draws prog w A i1 fp1 n1 P1 St1) (D2:Draws prog w A i2 fp2 n2 P2 St2)
  (hz:IsZip s.heap z TI TO .none) (hTI:IsPair s.heap TI (.ref i1) (.ref i2)) (hTO:IsPair s.heap TO a b)
  (h1:St1 k s.heap) (h2:St2 k s.heap) (hend:k=n1∨(k < n1∧k=n2))
  (hE:∀ h' tk e,(∀ c o,c≠z→c≠TO→c≠i1→c≠i2→s.heap.get? c=some o→h'.get? c=some o)→(∃ o,h'.get? e=some o∧o.cls=.type "StopIteration")→E (.ref e) { s with heap:=h',toks:=tk }) :
  wpAny (model prog w) A (Builtin.«zip.__next__» ⟨[.ref z],[]⟩) Q E s:=by
 show wpAny _ _ (field (.ref z) 2 >>= _) _ _ _
 refine wpAny_bind (wpAny_field hz rfl (x:=.bool false) rfl ?_)
 show wpAny _ _ (field (.ref z) 3 >>= _) _ _ _
 refine wpAny_bind (wpAny_field hz rfl (x:=.ref TI) rfl ?_)
 refine wpAny_bind (wpAny_seqItems hTI rfl ?_)
 show wpAny _ _ (Builtin.SmallTypes.ownedTupleIsFree (.ref z) >>= _) _ _ _
 refine wpAny_bind ?_
 unfold Builtin.SmallTypes.ownedTupleIsFree
 refine wpAny_bind (wpAny_field hz rfl (x:=.none) rfl (wpAny_pure ?_))
 simp only [if_true]
 refine wpAny_bind (wpAny_rule ?_)
 refine wpAny_bind (wpAny_field hz rfl (x:=.ref TO) rfl ?_)
 refine wpAny_bind (wpAny_setField_rec hz (by simp) fun h₁ hz₁ hs₁=>?_)
 replace hz₁:IsZip h₁ z TI TO .ellipsis:=hz₁
 refine wpAny_bind ?_
 simp only [List.zipIdx_cons,List.zipIdx_nil,List.forIn_cons,List.forIn_nil]
 refine wpAny_bind (wpAny_bind (wpAny_onRaise ?_))
 show wpAny _ _ (Builtin.SmallTypes.nextOf (.ref i1) >>= _) _ _ _
 have h1₁:St1 k h₁:=D1.frame _ _ _ h1 fun c hc o e=>hs₁.extBut _ _ (D.z1 c hc).1 e
 rcases hend with rfl | ⟨hk1,rfl⟩
 ·refine wpAny_bind (D1.done { s with heap:=h₁ } _ _ h1₁ fun h₂ e hs₂ he=>?_)
  obtain ⟨oe,hoe,hce⟩:=he
  replace hs₂:Heap.ExtBut i1 h₁ h₂:=hs₂
  have hz₂:IsZip h₂ z TI TO .ellipsis:=hs₂ _ _ D.i1z.symm hz₁
  have hez:e≠z:=fun x=>by subst x;rw [hz₂] at hoe;cases hoe;simp at hce
  refine wpAny_setField_rec hz₂ (by simp) fun h₃ _ hs₃=>hE h₃ s.toks e (fun c o c1 _ c3 _ x=>hs₃.extBut _ _ c1 (hs₂ _ _ c3 (hs₁.extBut _ _ c1 x))) ⟨oe,hs₃.extBut _ _ hez hoe,hce⟩
 ·refine wpAny_bind (D1.item k { s with heap:=h₁ } _ _ hk1 h1₁ fun x h₂ tk₂ hx h1₂ hs₂=>wpAny_pure ?_)
  replace hs₂:Heap.SameBut i1 h₁ h₂:=hs₂
  have hTO₂:IsPair h₂ TO a b:=hs₂.extBut _ _ D.TOi1 (hs₁.extBut _ _ D.TOz hTO)
  refine wpAny_bind (wpAny_seqItems hTO₂ rfl ?_)
  refine wpAny_bind (wpAny_updateSeq_pair hTO₂ fun h₃ hTO₃ hs₃=>?_)
  replace hs₃:Heap.SameBut TO h₂ h₃:=hs₃
  refine wpAny_bind (wpAny_letGo (wpAny_pure ?_))
  refine wpAny_bind (wpAny_bind (wpAny_onRaise ?_))
  show wpAny _ _ (Builtin.SmallTypes.nextOf (.ref i2) >>= _) _ _ _
  have h2₃:St2 k h₃:=D2.frame _ _ _ h2 fun c hc o e=>hs₃.extBut _ _ (D.z2 c hc).2.1 (hs₂.extBut _ _ (D.z2 c hc).2.2 (hs₁.extBut _ _ (D.z2 c hc).1 e))
  refine wpAny_bind (D2.done { s with heap:=h₃,toks:=tk₂ } _ _ h2₃ fun h₄ e hs₄ he=>?_)
  obtain ⟨oe,hoe,hce⟩:=he
  replace hs₄:Heap.ExtBut i2 h₃ h₄:=hs₄
  have hz₄:IsZip h₄ z TI TO .ellipsis:=hs₄ _ _ D.i2z.symm (hs₃.extBut _ _ D.TOz.symm (hs₂.extBut _ _ D.i1z.symm hz₁))
  have hez:e≠z:=fun x=>by subst x;rw [hz₄] at hoe;cases hoe;simp at hce
  refine wpAny_setField_rec hz₄ (by simp) fun h₅ _ hs₅=>hE h₅ tk₂ e (fun c o c1 c2 c3 c4 x=>hs₅.extBut _ _ c1 (hs₄ _ _ c4 (hs₃.extBut _ _ c2 (hs₂.extBut _ _ c3 (hs₁.extBut _ _ c1 x))))) ⟨oe,hs₅.extBut _ _ hez hoe,hce⟩
theorem ZaI {z TI TO i1 i2:Addr} {fp1 fp2:List Addr} {n1 n2 k:Nat} {P1 P2:Nat→Value→Prop} {St1 St2:Nat→Heap→Prop} {a b:Value} {Q:Option Value→Shared→Prop} (D:ZApart z TI TO i1 i2 fp1 fp2)
  (D1:Draws prog w A.in1 i1 fp1 n1 P1 St1) (D2:Draws prog w A.in1 i2 fp2 n2 P2 St2)
  (hz:IsZip s.heap z TI TO .none) (hTI:IsPair s.heap TI (.ref i1) (.ref i2)) (hTO:IsPair s.heap TO a b)
  (h1:St1 k s.heap) (h2:St2 k s.heap) (hk1:k < n1) (hk2:k < n2)
  (hQ:∀ x y h' tk,P1 k x→P2 k y→IsZip h' z TI TO (rawInt s.heap.objs.size)→IsPair h' TO x y→St1 (k + 1) h'→St2 (k + 1) h'→IsPair h' s.heap.objs.size x y→h'.objs.size=s.heap.objs.size + 1 →
   (∀ c o,c≠z→c≠TO→c≠i1→c≠i2→s.heap.get? c=some o→h'.get? c=some o)→Q (some (.ref s.heap.objs.size)) { s with heap:=h',toks:=tk }) :
  wpAny (model prog w) A (pyNext (.ref z)) Q E s:=by
 have hT:s.TypeIs (.ref z) "zip" := ⟨_,hz,rfl⟩
 unfold pyNext
 exact wpAny_bind (wpAny_attempt (wpAny_callSpecial?_slot (name:=Str.ofString "__next__") hT F.slot_zip_next
  (wpAny_call_entry F.slot_zip_next hT F.entry_zip_next
   (XaX D D1 D2 hz hTI hTO h1 h2 hk1 hk2 fun x y h' tk p1 p2 a1 a2 a3 a4 a5 a6 a7=>wpAny_pure (hQ x y h' tk p1 p2 a1 a2 a3 a4 a5 a6 a7)) (F.args_zip_next_1 _))))
theorem xam {z TI TO i1 i2:Addr} {fp1 fp2:List Addr} {n1 n2 k:Nat} {P1 P2:Nat→Value→Prop} {St1 St2:Nat→Heap→Prop} {a b:Value} {Q:Option Value→Shared→Prop} (D:ZApart z TI TO i1 i2 fp1 fp2)
  (D1:Draws prog w A.in1 i1 fp1 n1 P1 St1) (D2:Draws prog w A.in1 i2 fp2 n2 P2 St2)
  (hz:IsZip s.heap z TI TO .none) (hTI:IsPair s.heap TI (.ref i1) (.ref i2)) (hTO:IsPair s.heap TO a b)
  (h1:St1 k s.heap) (h2:St2 k s.heap) (hend:k=n1∨(k < n1∧k=n2))
  (hQ:∀ h' tk,(∀ c o,c≠z→c≠TO→c≠i1→c≠i2→s.heap.get? c=some o→h'.get? c=some o)→Q none { s with heap:=h',toks:=tk }):wpAny (model prog w) A (pyNext (.ref z)) Q E s:=by
 have hT:s.TypeIs (.ref z) "zip" := ⟨_,hz,rfl⟩
 unfold pyNext
 refine wpAny_bind (wpAny_attempt (wpAny_callSpecial?_slot (name:=Str.ofString "__next__") hT F.slot_zip_next
  (wpAny_call_entry F.slot_zip_next hT F.entry_zip_next (Za2 D D1 D2 hz hTI hTO h1 h2 hend fun h' tk e hk he=>?_) (F.args_zip_next_1 _))))
 obtain ⟨o,ho,hc⟩:=he
 refine wpAny_bind (wpAny_isInstance (T:="StopIteration") (b:=true) ⟨o,ho,hc⟩ isSubtype_stop ?_)
 exact wpAny_pure (hQ _ _ hk)
end
inductive ZS where
 | tup (a:Addr) | lst (a:Addr) | str (x:Str)
noncomputable def ZS.it (j:Addr) (i:Nat) (h:Heap):ZS→Prop
 | .tup a=>h.IsTupleIter j a i
 | .lst a=>h.IsListIter j a i
 | .str x=>∃ t,h.IsStrIter j "str_ascii_iterator" x t i∨h.IsStrIter j "str_iterator" x t i
noncomputable def ZS.has (K:PySem.W.Frag) (H:Hp) (i:Nat) (v:V):ZS→Prop
 | .tup a=>∃ xs,SqT K H a xs∧xs[i]?=some v
 | .lst a=>∃ xs,SqL K H a xs∧xs[i]?=some v
 | .str x=>∃ c,x.cps[i]?=some c∧v=.str ⟨#[c]⟩
noncomputable def ZS.fin (K:PySem.W.Frag) (H:Hp) (i:Nat):ZS→Prop
 | .tup a=>∃ xs,SqT K H a xs∧xs.length=i
 | .lst a=>∃ xs,SqL K H a xs∧xs.length=i
 | .str x=>x.cps.size=i
theorem ZS.it.at {j:Addr} {i:Nat} {h h':Heap} {src:ZS} (t:src.it j i h) (k:∀ o,h.get? j=some o→h'.get? j=some o):src.it j i h':=by
 cases src with
 | tup a=>exact Heap.IsTupleIter.at t k
 | lst a=>exact Heap.IsListIter.at t k
 | str x =>
  obtain ⟨tk,t⟩:=t
  refine ⟨tk,?_⟩
  rcases t with ⟨o,ho,r⟩ | ⟨o,ho,r⟩
  ·exact .inl ⟨o,k o ho,r⟩
  ·exact .inr ⟨o,k o ho,r⟩
theorem ZS.it.obj {j:Addr} {i:Nat} {h:Heap} {src:ZS} (t:src.it j i h):∃ o,h.get? j=some o∧(∀ v,o.data≠.cell v)∧(∃ n,o.cls=.type n∧n≠"tuple" ∧ n≠"list" ∧ n≠"zip"):=by
 cases src with
 | tup a=>obtain ⟨o,e,c,d⟩:=t;exact ⟨o,e,(fun v z=>by rw [d] at z;cases z),_,c,by decide,by decide,by decide⟩
 | lst a=>obtain ⟨o,e,c,d⟩:=t;exact ⟨o,e,(fun v z=>by rw [d] at z;cases z),_,c,by decide,by decide,by decide⟩
 | str x =>
  obtain ⟨tk,t⟩:=t
  rcases t with ⟨o,e,c,d⟩ | ⟨o,e,c,d⟩
  ·exact ⟨o,e,(fun v z=>by rw [d] at z;cases z),_,c,by decide,by decide,by decide⟩
  ·exact ⟨o,e,(fun v z=>by rw [d] at z;cases z),_,c,by decide,by decide,by decide⟩
structure ZS.Dr (P:Program) (w:World) (A:Around) (s:Shared) (j:Addr) (i:Nat) (src:ZS) (fp:List Addr) (n:Nat) (R:Value→Prop):Prop where
 ex:∃ (Pv:Nat→Value→Prop) (St:Nat→Heap→Prop),Draws P w A j fp n Pv St∧St i s.heap∧(∀ u,Pv i u→R u)∧∀ h,St (i + 1) h→src.it j (i + 1) h
 mem:j∈fp
section
variable {X:Cx} {pins:List (Addr×Obj)} {σ:St} {H:Hp} {s:Shared}
theorem Inv.sqT_ne {a b:Addr} {xs:List V} (I:Inv X pins σ H s) (h:SqT X.K H a xs) (f:FpOk X pins H b):a≠b:=by
 intro z
 subst z
 rcases h with (h | ⟨o,h⟩) | ⟨o,its,n,hk,_⟩
 ·rw [f.1] at h;cases h
 ·rw [f.1] at h;cases h
 ·have hb:=I.ok.mod.kin a o hk
  rcases f.2.2.2.1 with he | he
  ·exact I.ok.noex a o hb he
  ·have:=Heap.lt_size hb
   have:=I.ok.bsz
   exact absurd (Nat.lt_of_lt_of_le (Nat.lt_of_lt_of_le ‹a < X.base.objs.size› this) he) (Nat.lt_irrefl _)
theorem Inv.sqL_ne {a b:Addr} {xs:List V} (I:Inv X pins σ H s) (h:SqL X.K H a xs) (f:FpOk X pins H b):a≠b:=by
 intro z
 subst z
 rcases h with (h | ⟨o,h⟩) | ⟨o,its,n,hk,_⟩
 ·rw [f.1] at h;cases h
 ·rw [f.1] at h;cases h
 ·have hb:=I.ok.mod.kin a o hk
  rcases f.2.2.2.1 with he | he
  ·exact I.ok.noex a o hb he
  ·have:=Heap.lt_size hb
   have:=I.ok.bsz
   exact absurd (Nat.lt_of_lt_of_le (Nat.lt_of_lt_of_le ‹a < X.base.objs.size› this) he) (Nat.lt_irrefl _)
theorem ZS.drawn {j:Addr} {i:Nat} {src:ZS} {v:V} (I:Inv X pins σ H s) (hc:X.calm=true) (t:src.it j i s.heap) (fj:FpOk X pins H j) (h:src.has X.K H i v):∃ fp n,i < n∧ZS.Dr X.prog X.w X.A.in1 s j i src fp n (RelV v)∧∀ b,FpOk X pins H b→b≠j→b ∉ fp:=by
 cases src with
 | tup a =>
  obtain ⟨xs,hq,hx⟩:=h
  obtain ⟨its,rv,p,hz⟩:=I.tuple hq
  obtain ⟨u,hu,ru⟩:=rv.get hx
  have ht:s.heap.IsTuple a its.toArray:=p
  have hi:i < its.toArray.size:=by
   obtain ⟨q,_⟩:=List.getElem?_eq_some_iff.mp hu
   simpa using q
  refine ⟨[j,a],its.toArray.size,hi,⟨⟨_,_,drawsT (A:=X.A.in1) (I.ok.hd hc) j a (I.sqT_ne hq fj) its.toArray,⟨t,ht⟩,fun u' h'=>?_,fun h hst=>hst.1⟩,by simp⟩,fun b fb hb=>?_⟩
  ·have:its.toArray[i]?=some u:=by simpa using hu
   rw [this] at h'
   cases h'
   exact ru
  ·have:=I.sqT_ne hq fb
   simp only [List.mem_cons,List.not_mem_nil,or_false,not_or]
   exact ⟨hb,fun z=>this z.symm⟩
 | lst a =>
  obtain ⟨xs,hq,hx⟩:=h
  obtain ⟨its,rv,p,hz⟩:=I.list hq
  obtain ⟨u,hu,ru⟩:=rv.get hx
  have ht:s.heap.IsList a its.toArray:=p.isList
  have hi:i < its.toArray.size:=by
   obtain ⟨q,_⟩:=List.getElem?_eq_some_iff.mp hu
   simpa using q
  refine ⟨[j,a],its.toArray.size,hi,⟨⟨_,_,Draws.list (A:=X.A.in1) (I.ok.hd hc) j a (I.sqL_ne hq fj) its.toArray,⟨t,ht⟩,fun u' h'=>?_,fun h hst=>hst.1⟩,by simp⟩,fun b fb hb=>?_⟩
  ·have:its.toArray[i]?=some u:=by simpa using hu
   rw [this] at h'
   cases h'
   exact ru
  ·have:=I.sqL_ne hq fb
   simp only [List.mem_cons,List.not_mem_nil,or_false,not_or]
   exact ⟨hb,fun z=>this z.symm⟩
 | str x =>
  obtain ⟨c,hx,rfl⟩:=h
  have hi:i < x.cps.size:=(Array.getElem?_eq_some_iff.mp hx).1
  obtain ⟨tk,t⟩:=t
  have hR:∀ u,SignAt x i u→RelV (.str ⟨#[c]⟩) u:=fun u hu=>by
   obtain ⟨c',u',h1,rfl⟩:=hu
   rw [hx] at h1
   cases h1
   exact ⟨_,rfl⟩
  rcases t with t | t
  ·exact ⟨[j],x.cps.size,hi,⟨⟨_,_,Draws.strAscii (A:=X.A.in1) (I.ok.hd hc) j x tk,t,hR,fun h hst=>⟨tk,.inl hst⟩⟩,by simp⟩,fun b fb hb=>by simpa using hb⟩
  ·exact ⟨[j],x.cps.size,hi,⟨⟨_,_,Draws.strWide (A:=X.A.in1) (I.ok.hd hc) j x tk,t,hR,fun h hst=>⟨tk,.inr hst⟩⟩,by simp⟩,fun b fb hb=>by simpa using hb⟩
theorem ZS.ended {j:Addr} {i:Nat} {src:ZS} (I:Inv X pins σ H s) (hc:X.calm=true) (t:src.it j i s.heap) (fj:FpOk X pins H j) (h:src.fin X.K H i):∃ fp,ZS.Dr X.prog X.w X.A.in1 s j i src fp i (fun _=>True)∧∀ b,FpOk X pins H b→b≠j→b ∉ fp:=by
 cases src with
 | tup a =>
  obtain ⟨xs,hq,hx⟩:=h
  obtain ⟨its,rv,p,hz⟩:=I.tuple hq
  have ht:s.heap.IsTuple a its.toArray:=p
  have hl:=rv.length
  have ei:its.toArray.size=i:=by simp;omega
  subst ei
  refine ⟨[j,a],⟨⟨_,_,drawsT (A:=X.A.in1) (I.ok.hd hc) j a (I.sqT_ne hq fj) its.toArray,⟨t,ht⟩,fun _ _=>trivial,fun h hst=>hst.1⟩,by simp⟩,fun b fb hb=>?_⟩
  have:=I.sqT_ne hq fb
  simp only [List.mem_cons,List.not_mem_nil,or_false,not_or]
  exact ⟨hb,fun z=>this z.symm⟩
 | lst a =>
  obtain ⟨xs,hq,hx⟩:=h
  obtain ⟨its,rv,p,hz⟩:=I.list hq
  have ht:s.heap.IsList a its.toArray:=p.isList
  have hl:=rv.length
  have ei:its.toArray.size=i:=by simp;omega
  subst ei
  refine ⟨[j,a],⟨⟨_,_,Draws.list (A:=X.A.in1) (I.ok.hd hc) j a (I.sqL_ne hq fj) its.toArray,⟨t,ht⟩,fun _ _=>trivial,fun h hst=>hst.1⟩,by simp⟩,fun b fb hb=>?_⟩
  have:=I.sqL_ne hq fb
  simp only [List.mem_cons,List.not_mem_nil,or_false,not_or]
  exact ⟨hb,fun z=>this z.symm⟩
 | str x =>
  have h:x.cps.size=i:=h
  subst h
  obtain ⟨tk,t⟩:=t
  rcases t with t | t
  ·exact ⟨[j],⟨⟨_,_,Draws.strAscii (A:=X.A.in1) (I.ok.hd hc) j x tk,t,fun _ _=>trivial,fun h hst=>⟨tk,.inl hst⟩⟩,by simp⟩,fun b fb hb=>by simpa using hb⟩
  ·exact ⟨[j],⟨⟨_,_,Draws.strWide (A:=X.A.in1) (I.ok.hd hc) j x tk,t,fun _ _=>trivial,fun h hst=>⟨tk,.inr hst⟩⟩,by simp⟩,fun b fb hb=>by simpa using hb⟩
end
noncomputable def Itz (K:PySem.W.Frag) (s1 s2:ZS):It :=
 ⟨fun i H=>∃ x y,s1.has K H i x∧s2.has K H i y,fun i H v H'=>∃ p x y,v=.ref p∧H p=none∧H'=upd H p (.tup [x,y])∧(∀ z,s1.has K H i z→z=x)∧∀ z,s2.has K H i z→z=y,fun i H=>(s1.fin K H i∧(s2.fin K H i∨∃ y,s2.has K H i y))∨((∃ x,s1.has K H i x)∧s2.fin K H i)⟩
theorem ZS.has_inj {X:Cx} {pins:List (Addr×Obj)} {σ:St} {H:Hp} {s:Shared} {src:ZS} {i:Nat} {x y:V} (I:Inv X pins σ H s) (a:src.has X.K H i x) (b:src.has X.K H i y):y=x:=by
 cases src with
 | tup p =>
  obtain ⟨xs,h1,e1⟩:=a
  obtain ⟨ys,h2,e2⟩:=b
  rw [I.tuple_inj h2 h1] at e2
  rw [e1] at e2
  exact (Option.some.inj e2).symm
 | lst p =>
  obtain ⟨xs,h1,e1⟩:=a
  obtain ⟨ys,h2,e2⟩:=b
  rw [I.list_inj h2 h1] at e2
  rw [e1] at e2
  exact (Option.some.inj e2).symm
 | str z =>
  obtain ⟨c,h1,rfl⟩:=a
  obtain ⟨d,h2,rfl⟩:=b
  rw [h1] at h2
  cases h2
  rfl
theorem YbH {P:Program} {w:World} {K:PySem.W.Frag} {es:List Expr} {x1} {pos:Pos} (s1 s2:ZS) (z TI TO i1 i2:Addr) (hd:TI≠z∧TO≠z∧i1≠z∧i2≠z∧TI≠TO∧TO≠i1∧TO≠i2∧i1≠i2∧TI≠i1∧TI≠i2) :
  Turn P w K (.Tuple es x1 pos) (Itz K s1 s2) [z,TI,TO,i1,i2] z (fun i h=>IsZip h z TI TO .none∧IsPair h TI (.ref i1) (.ref i2)∧(∃ a b,IsPair h TO a b)∧s1.it i1 i h∧s2.it i2 i h) where
 mem:=by simp
 obj:=fun i h st b hb=>by
  obtain ⟨hz,hTI,⟨a,c,hTO⟩,h1,h2⟩:=st
  have cl:∀ {o:Obj} {vs:Array Value},o.data=.fields vs→∀ v,o.data≠.cell v:=fun d v z=>by rw [d] at z;cases z
  have cs:∀ {o:Obj} {vs:Array Value} {n:Nat},o.data=.seq vs n→∀ v,o.data≠.cell v:=fun d v z=>by rw [d] at z;cases z
  simp only [List.mem_cons,List.not_mem_nil,or_false] at hb
  rcases hb with rfl | rfl | rfl | rfl | rfl
  ·exact ⟨_,hz,cl rfl⟩
  ·exact ⟨_,hTI,cs rfl⟩
  ·exact ⟨_,hTO,cs rfl⟩
  ·obtain ⟨o,e,n,_⟩:=h1.obj;exact ⟨o,e,n⟩
  ·obtain ⟨o,e,n,_⟩:=h2.obj;exact ⟨o,e,n⟩
 keep:=fun i h h' st k=>⟨k z (by simp) _ st.1,k TI (by simp) _ st.2.1,let ⟨a,b,e⟩:=st.2.2.1;⟨a,b,k TO (by simp) _ e⟩,st.2.2.2.1.at fun o q=>k i1 (by simp) o q,st.2.2.2.2.at fun o q=>k i2 (by simp) o q⟩
 item:=by
  intro X hP hw hK hc i pins s σ H E I hf st hg
  subst hP hw hK
  obtain ⟨x,y,hx,hy⟩:=hg
  obtain ⟨hz,hTI,⟨a,b,hTO⟩,h1,h2⟩:=st
  have fz:=hf z (by simp)
  have fTO:=hf TO (by simp)
  have f1:=hf i1 (by simp)
  have f2:=hf i2 (by simp)
  obtain ⟨fp1,n1,k1,⟨⟨P1,S1,D1,st1,r1,nx1⟩,mm1⟩,out1⟩:=ZS.drawn I hc h1 f1 hx
  obtain ⟨fp2,n2,k2,⟨⟨P2,S2,D2,st2,r2,nx2⟩,mm2⟩,out2⟩:=ZS.drawn I hc h2 f2 hy
  obtain ⟨d1,d2,d3,d4,d5,d6,d7,d8,d9,d10⟩:=hd
  have ap:ZApart z TI TO i1 i2 fp1 fp2:=⟨d1,d2,d3,d4,d5,d6,d7,d8,mm1,mm2,
   fun c hcm=>⟨fun e=>out1 z fz (Ne.symm d3) (e ▸ hcm),fun e=>out1 TO fTO d6 (e ▸ hcm),fun e=>out1 i2 f2 (Ne.symm d8) (e ▸ hcm)⟩,
   fun c hcm=>⟨fun e=>out2 z fz (Ne.symm d4) (e ▸ hcm),fun e=>out2 TO fTO d7 (e ▸ hcm),fun e=>out2 i1 f1 d8 (e ▸ hcm)⟩⟩
  refine ZaI ap D1 D2 hz hTI hTO st1 st2 k1 k2 fun u v h1' tk p1 p2 hz' hTO' g1 g2 hT hsz kk=>?_
  refine ⟨_,rfl,wpAny_letOwnedTupleGo_zip hz' fun h2' hz2 sb=>?_⟩
  replace sb:Heap.SameBut z h1' h2':=sb
  have hf0:H s.heap.objs.size=none:=I.hok.fresh (Nat.le_refl _)
  have ru:=r1 u p1
  have rv:=r2 v p2
  have I1:Inv X pins σ (upd H s.heap.objs.size (.tup [x,y])) { s with heap:=s.heap.push { cls:=.type "tuple",data:=.seq #[u,v] },toks:=s.toks } :=
   I.laid (fun b u e=>Heap.get?_push_of_some _ e) (Nat.le_refl _) ⟨(by decide:2≤sizeLine),[u,v],.cons ru (.cons rv .nil),⟨_,Heap.get?_push_size _ rfl,rfl,rfl,_,rfl⟩⟩
  have hlt:∀ c∈[z,TI,TO,i1,i2],@LT.lt Nat _ c s.heap.objs.size:=fun c hcm=>by
   simp only [List.mem_cons,List.not_mem_nil,or_false] at hcm
   rcases hcm with rfl | rfl | rfl | rfl | rfl
   ·exact Heap.lt_size hz
   ·exact Heap.lt_size hTI
   ·exact Heap.lt_size hTO
   ·obtain ⟨o,e,_⟩:=h1.obj;exact Heap.lt_size e
   ·obtain ⟨o,e,_⟩:=h2.obj;exact Heap.lt_size e
  have hn:∀ c∈[z,TI,TO,i1,i2],upd H s.heap.objs.size (.tup [x,y]) c=none:=fun c hcm=>by
   unfold upd
   rw [if_neg (Nat.ne_of_lt (hlt c hcm))]
   exact (hf c hcm).1
  have I2:Inv X pins σ (upd H s.heap.objs.size (.tup [x,y])) { s with heap:=h2',toks:=tk }:=by
   refine Inv.turnedL (s:={ s with heap:=s.heap.push { cls:=.type "tuple",data:=.seq #[u,v] },toks:=s.toks }) (h':=h2') I1 (ch:=[z,TI,TO,i1,i2]) (t':=tk) (fun c o hcm q=>?_) fun c hcm=>⟨hn c hcm,(hf c hcm).2⟩
   simp only [List.mem_cons,List.not_mem_nil,or_false,not_or] at hcm
   obtain ⟨n1',n2',n3',n4',n5'⟩:=hcm
   refine (sb.2 c n1').trans ?_
   rcases Heap.get?_push_cases q with ⟨rfl,rfl⟩ | q
   ·exact hT
   ·exact kk c o n1' n3' n4' n5' q
  have up:∀ c o,c≠z→h1'.get? c=some o→h2'.get? c=some o:=fun c o n e=>(sb.2 c n).trans e
  refine ⟨.ref s.heap.objs.size,_,I2,rfl,⟨_,x,y,rfl,hf0,rfl,fun w hw=>ZS.has_inj I hx hw,fun w hw=>ZS.has_inj I hy hw⟩,⟨hz2,?_,⟨u,v,up _ _ d2 hTO'⟩,(nx1 _ g1).at fun o q=>up _ o d3 q,(nx2 _ g2).at fun o q=>up _ o d4 q⟩,hn⟩
  exact up _ _ d1 (kk _ _ d1 d5 d9 d10 hTI)
 done:=by
  intro X hP hw hK hc i pins s σ H E I hf st hg
  subst hP hw hK
  obtain ⟨hz,hTI,⟨a,b,hTO⟩,h1,h2⟩:=st
  have fz:=hf z (by simp)
  have fTO:=hf TO (by simp)
  have f1:=hf i1 (by simp)
  have f2:=hf i2 (by simp)
  obtain ⟨d1,d2,d3,d4,d5,d6,d7,d8,d9,d10⟩:=hd
  have fin:∀ h' tk,(∀ c o,c≠z→c≠TO→c≠i1→c≠i2→s.heap.get? c=some o→h'.get? c=some o)→Inv X pins σ H { s with heap:=h',toks:=tk }:=fun h' tk kk=>by
   refine Inv.turnedL I (ch:=[z,TO,i1,i2]) (t':=tk) (fun c o hcm q=>?_) fun c hcm=>hf c ?_
   ·simp only [List.mem_cons,List.not_mem_nil,or_false,not_or] at hcm
    exact kk c o hcm.1 hcm.2.1 hcm.2.2.1 hcm.2.2.2 q
   ·simp only [List.mem_cons,List.not_mem_nil,or_false] at hcm ⊢
    rcases hcm with rfl | rfl | rfl | rfl <;> simp
  have mkap:∀ {fp1 fp2:List Addr},i1∈fp1→i2∈fp2→(∀ b,FpOk X pins H b→b≠i1→b ∉ fp1)→(∀ b,FpOk X pins H b→b≠i2→b ∉ fp2)→ZApart z TI TO i1 i2 fp1 fp2:=fun mm1 mm2 out1 out2=>⟨d1,d2,d3,d4,d5,d6,d7,d8,mm1,mm2,
   fun c hcm=>⟨fun e=>out1 z fz (Ne.symm d3) (e ▸ hcm),fun e=>out1 TO fTO d6 (e ▸ hcm),fun e=>out1 i2 f2 (Ne.symm d8) (e ▸ hcm)⟩,
   fun c hcm=>⟨fun e=>out2 z fz (Ne.symm d4) (e ▸ hcm),fun e=>out2 TO fTO d7 (e ▸ hcm),fun e=>out2 i1 f1 d8 (e ▸ hcm)⟩⟩
  rcases hg with ⟨hx,hy⟩ | ⟨⟨x,hx⟩,hy⟩
  ·obtain ⟨fp1,⟨⟨P1,S1,D1,st1,_,_⟩,mm1⟩,out1⟩:=ZS.ended I hc h1 f1 hx
   rcases hy with hy | ⟨y,hy⟩
   ·obtain ⟨fp2,⟨⟨P2,S2,D2,st2,_,_⟩,mm2⟩,out2⟩:=ZS.ended I hc h2 f2 hy
    exact xam (mkap mm1 mm2 out1 out2) D1 D2 hz hTI hTO st1 st2 (.inl rfl) fun h' tk kk=>⟨rfl,fin h' tk kk⟩
   ·obtain ⟨fp2,n2,k2,⟨⟨P2,S2,D2,st2,_,_⟩,mm2⟩,out2⟩:=ZS.drawn I hc h2 f2 hy
    exact xam (mkap mm1 mm2 out1 out2) D1 D2 hz hTI hTO st1 st2 (.inl rfl) fun h' tk kk=>⟨rfl,fin h' tk kk⟩
  ·obtain ⟨fp1,n1,k1,⟨⟨P1,S1,D1,st1,_,_⟩,mm1⟩,out1⟩:=ZS.drawn I hc h1 f1 hx
   obtain ⟨fp2,⟨⟨P2,S2,D2,st2,_,_⟩,mm2⟩,out2⟩:=ZS.ended I hc h2 f2 hy
   exact xam (mkap mm1 mm2 out1 out2) D1 D2 hz hTI hTO st1 st2 (.inr ⟨k1,rfl⟩) fun h' tk kk=>⟨rfl,fin h' tk kk⟩
 self:=fun _ _ _ _ _ st h=>wpAny_pyIter_zip st.1 h
noncomputable def ZS.val (K:PySem.W.Frag) (H:Hp) (x:V):ZS→Prop
 | .tup a=>x=.ref a∧∃ xs,SqT K H a xs
 | .lst a=>x=.ref a∧∃ xs,SqL K H a xs
 | .str z=>x=.str z
theorem ZS.iter {X:Cx} {pins:List (Addr×Obj)} {σ:St} {H:Hp} {s s':Shared} {src:ZS} {x:V} {u:Value} (I:Inv X pins σ H s) (r:RelV x u) (hv:src.val X.K H x) (up:∀ c o,s.heap.get? c=some o→s'.heap.get? c=some o) :
  ∃ o,src.it s'.heap.objs.size 0 (s'.heap.push o)∧∀ (prog:Program) (w:World) (A:Around) (E:Value→Shared→Prop) (Q:Value→Shared→Prop),Q (.ref s'.heap.objs.size) { s' with heap:=s'.heap.push o }→wpAny (model prog w) A (pyIter u) Q E s':=by
 cases src with
 | tup a =>
  obtain ⟨rfl,xs,hq⟩:=hv
  cases r
  obtain ⟨its,rv,p,hz⟩:=I.tuple hq
  obtain ⟨o,e,c,n,d⟩:=(show s.heap.IsTuple a its.toArray from p)
  exact ⟨_,⟨_,Heap.get?_push_size _ rfl,rfl,rfl⟩,fun prog w A E Q h=>wpAny_pyIter_tuple ⟨o,up _ _ e,c,n,d⟩ h⟩
 | lst a =>
  obtain ⟨rfl,xs,hq⟩:=hv
  cases r
  obtain ⟨its,rv,p,hz⟩:=I.list hq
  obtain ⟨o,e,c,n,d⟩:=p.isList
  exact ⟨_,⟨_,Heap.get?_push_size _ rfl,rfl,rfl⟩,fun prog w A E Q h=>wpAny_pyIter_list ⟨o,up _ _ e,c,n,d⟩ h⟩
 | str z =>
  cases hv
  obtain ⟨t,rfl⟩:=r
  cases ha:z.cps.all (· < 128)
  ·exact ⟨_,⟨t,.inr ⟨_,Heap.get?_push_size _ rfl,rfl,rfl⟩⟩,fun prog w A E Q h=>wpAny_pyIter_wide ha h⟩
  ·exact ⟨_,⟨t,.inl ⟨_,Heap.get?_push_size _ rfl,rfl,rfl⟩⟩,fun prog w A E Q h=>wpAny_pyIter_ascii ha h⟩
abbrev zG3 (h:Heap) (o1 o2:Obj):Heap:=((h.push o1).push o2).push { cls:=.type "tuple",data:=.seq #[.ref h.objs.size,.ref (h.push o1).objs.size] }
abbrev zG4 (h:Heap) (o1 o2:Obj):Heap:=(zG3 h o1 o2).push { cls:=.type "tuple",data:=.seq #[.none,.none] }
abbrev zG5 (h:Heap) (o1 o2:Obj):Heap:=(zG4 h o1 o2).push { cls:=.type "zip",data:=.fields #[.none,.bool false,.bool false,.ref ((h.push o1).push o2).objs.size,.ref (zG3 h o1 o2).objs.size] }
theorem xbH (u1 u2:Value) (o1 o2:Obj) :
  Meets (Builtin.«zip.__new__» ⟨[.type "zip",u1,u2],[]⟩) (fun _ R s =>
   (∀ (prog:Program) (w:World) (A:Around) (E:Value→Shared→Prop) (Q:Value→Shared→Prop),Q (.ref s.heap.objs.size) { s with heap:=s.heap.push o1 }→wpAny (model prog w) A (pyIter u1) Q E s) ∧
   (∀ (prog:Program) (w:World) (A:Around) (E:Value→Shared→Prop) (Q:Value→Shared→Prop),Q (.ref (s.heap.push o1).objs.size) { s with heap:=(s.heap.push o1).push o2 }→wpAny (model prog w) A (pyIter u2) Q E { s with heap:=s.heap.push o1 }) ∧
   R (.ok (.ret (.ref (zG4 s.heap o1 o2).objs.size))) { s with heap:=zG5 s.heap o1 o2 }) :=
 .of_wp fun prog w A R s h=>by
  obtain ⟨hp,g,d,tk,os⟩:=s;obtain ⟨h1,h2,h⟩:=h
  have hsub:=sub_zip
  have hL1:∀ {A:Around} {E:Value→Shared→Prop} {Q:Value→Shared→Prop},Q (.ref hp.objs.size) ⟨hp.push o1,g,d,tk,os⟩→wpAny (model prog w) A (pyIter u1) Q E ⟨hp,g,d,tk,os⟩:=fun q=>h1 prog w _ _ _ q
  have hL2:∀ {A:Around} {E:Value→Shared→Prop} {Q:Value→Shared→Prop},Q (.ref (hp.push o1).objs.size) ⟨(hp.push o1).push o2,g,d,tk,os⟩→wpAny (model prog w) A (pyIter u2) Q E ⟨hp.push o1,g,d,tk,os⟩:=fun q=>h2 prog w _ _ _ q
  wp_walk using hL1,hL2
  exact ⟨_,rfl,h⟩
noncomputable def iZip (K:PySem.W.Frag) (ta:TA):TI:=fun σ H R=>ta σ H fun vs H1=>∃ (x y:V) (s1 s2:ZS),vs=[x,y]∧s1.val K H1 x∧s2.val K H1 y∧R (Itz K s1 s2) H1
theorem pi_zip {X:Cx} {es:List Expr} {x1} {p0:Pos} {l l':Expr} {ta:TA} {p pos:Pos} (hg:Gl X "zip") (hm:X.mg "zip" = none) (ha:PA X [l,l'] ta) (hs:starEach [l,l'] X.env=[(false,eval l X.env),(false,eval l' X.env)]:=by rfl) (hs2:starEach [l'] X.env=[(false,eval l' X.env)]:=by rfl) :
  PI X (.Tuple es x1 p0) (.Call (.Name "zip" p) [l,l'] [] pos) (iZip X.K ta):=by
 intro pins s σ H R I h
 refine Call_ (xaY I hg hm bt_zip (PyProof.Rows.callWith_type1 (thn (ha pos pins s σ H _ I h) fun us s1 ⟨vs,H1,I1,r1,q1⟩=>?_) (by rw [hs,hs2]) (by rw [hs2];rfl)))
 obtain ⟨x,y,z1,z2,e,hv1,hv2,q⟩:=q1
 subst e
 cases r1 with
 | cons ru rr =>
  cases rr with
  | cons rv rr =>
   cases rr
   obtain ⟨o1,t1,it1⟩:=ZS.iter (s':=s1) I1 ru hv1 fun _ _ e=>e
   obtain ⟨o2,t2,it2⟩:=ZS.iter (s':={ s1 with heap:=s1.heap.push o1 }) I1 rv hv2 fun _ _ e=>Heap.get?_push_of_some _ e
   refine callType_new F.called_zip (by decide) (F.typeCall_zip_2 _ _) (F.newCall_zip_2 _ _) (fun obj=>F.args_object_init_3 obj _ _) F.entry_zip_new (xbH _ _ o1 o2) ⟨it1,it2,?_⟩
   have w1:(s1.heap.push o1).objs.size=s1.heap.objs.size + 1:=Heap.size_push ..
   have w2:((s1.heap.push o1).push o2).objs.size=s1.heap.objs.size + 2:=by rw [Heap.size_push,w1]
   have w3:(zG3 s1.heap o1 o2).objs.size=s1.heap.objs.size + 3:=by rw [Heap.size_push,w2]
   have w4:(zG4 s1.heap o1 o2).objs.size=s1.heap.objs.size + 4:=by rw [Heap.size_push,w3]
   have up5:∀ c o,s1.heap.get? c=some o→(zG5 s1.heap o1 o2).get? c=some o:=fun c o e=>Heap.get?_push_of_some _ (Heap.get?_push_of_some _ (Heap.get?_push_of_some _ (Heap.get?_push_of_some _ (Heap.get?_push_of_some _ e))))
   have g5:IsZip (zG5 s1.heap o1 o2) (zG4 s1.heap o1 o2).objs.size ((s1.heap.push o1).push o2).objs.size (zG3 s1.heap o1 o2).objs.size .none:=Heap.get?_push_size _ rfl
   have g4:IsPair (zG5 s1.heap o1 o2) (zG3 s1.heap o1 o2).objs.size .none .none:=Heap.get?_push_of_some _ (Heap.get?_push_size _ rfl)
   have g3:IsPair (zG5 s1.heap o1 o2) ((s1.heap.push o1).push o2).objs.size (.ref s1.heap.objs.size) (.ref (s1.heap.push o1).objs.size):=Heap.get?_push_of_some _ (Heap.get?_push_of_some _ (Heap.get?_push_size _ rfl))
   have g2:z2.it (s1.heap.push o1).objs.size 0 (zG5 s1.heap o1 o2):=t2.at fun o e=>Heap.get?_push_of_some _ (Heap.get?_push_of_some _ (Heap.get?_push_of_some _ e))
   have g1:z1.it s1.heap.objs.size 0 (zG5 s1.heap o1 o2):=t1.at fun o e=>Heap.get?_push_of_some _ (Heap.get?_push_of_some _ (Heap.get?_push_of_some _ (Heap.get?_push_of_some _ e)))
   refine ⟨⟨_,g5,rfl⟩,?_⟩
   refine wpAny_pyIter_zip g5 ?_
   rw [w1] at g2 g3
   rw [w2] at g3 g5
   rw [w3] at g4 g5
   rw [w4] at g5
   have tz:Turn X.prog X.w X.K (.Tuple es x1 p0) (Itz X.K z1 z2) [s1.heap.objs.size + 4,s1.heap.objs.size + 2,s1.heap.objs.size + 3,s1.heap.objs.size,s1.heap.objs.size + 1] (s1.heap.objs.size + 4) (fun i h=>IsZip h (s1.heap.objs.size + 4) (s1.heap.objs.size + 2) (s1.heap.objs.size + 3) .none∧IsPair h (s1.heap.objs.size + 2) (.ref s1.heap.objs.size) (.ref (s1.heap.objs.size + 1))∧(∃ a b,IsPair h (s1.heap.objs.size + 3) a b)∧z1.it s1.heap.objs.size i h∧z2.it (s1.heap.objs.size + 1) i h):=by
    refine YbH z1 z2 _ _ _ _ _ ?_
    have ne:∀ {m n:Nat},m≠n→∀ {a:Nat},a + m≠a + n:=fun h a z=>h (Nat.add_left_cancel z)
    exact ⟨ne (m:=2) (n:=4) (by decide),ne (m:=3) (n:=4) (by decide),ne (m:=0) (n:=4) (by decide),ne (m:=1) (n:=4) (by decide),ne (m:=2) (n:=3) (by decide),ne (m:=3) (n:=0) (by decide),ne (m:=3) (n:=1) (by decide),ne (m:=0) (n:=1) (by decide),ne (m:=2) (n:=0) (by decide),ne (m:=2) (n:=1) (by decide)⟩
   refine ⟨_,_,_,_,H1,by rw [w4],I1.kept (t':=s1.toks) up5,tz,⟨g5,g3,⟨_,_,g4⟩,g1,g2⟩,fun b hb=>?_,q⟩
   have hb':@LE.le Nat _ s1.heap.objs.size b:=by
    simp only [List.mem_cons,List.not_mem_nil,or_false] at hb
    rcases hb with rfl | rfl | rfl | rfl | rfl
    ·exact Nat.le_add_right _ _
    ·exact Nat.le_add_right _ _
    ·exact Nat.le_add_right _ _
    ·exact Nat.le_refl _
    ·exact Nat.le_add_right _ _
   exact I1.fpOk hb' (I1.hok.fresh hb')
end L2
namespace L2
open PySem PySem.Spec PyProof.Rows
section
variable {X:Cx} {K:PySem.W.Frag}
end
end L2
namespace L2
open PySem PySem.Spec PyProof.Rows
open Builtin.Str
section
variable {prog:Program} {w:World} {A:Around} {E:Value→Shared→Prop} {s:Shared}
end
end L2
namespace L2
open PySem PySem.Spec PyProof.Rows
open Builtin
section
variable {X:Cx}
end
end L2
namespace L2
open PySem PySem.Spec PyProof.Rows
section
variable {prog:Program} {w:World} {A:Around} {E:Value→Shared→Prop} {s:Shared}
end
section
variable {X:Cx} {pos:Pos}
end
end L2
namespace L2
open PySem PySem.Spec PyProof.Rows
section
variable {prog:Program} {w:World} {A:Around} {E:Value→Shared→Prop} {s:Shared}
end
end L2
namespace L2
open PySem PySem.Spec PyProof.Rows
section
variable {prog:Program} {w:World} {A:Around} {E:Value→Shared→Prop} {s:Shared}
end
end L2
namespace L2
open PySem PySem.Spec PyProof.Rows
end L2
namespace L2
open PySem PySem.Spec PyProof.Rows
section
variable {X:Cx} {pos:Pos}
end
end L2
namespace L2
open PySem PySem.Spec PyProof.Rows PySem.SeqAt PySem.MeetsSeq
noncomputable def LtAt (A:Around) (s:Shared) (y x:Value) (r:Bool):Prop:=∀ (prog:Program) (w:World) (E Q:Value→Shared→Prop),Q (.bool r) s→wpAny (model prog w) A (richCompare .Lt y x) Q E s
noncomputable def firstD (e lt:Nat→Bool) (fin:Bool):List Nat→Bool
 | []=>fin
 | i :: r=>if e i then firstD e lt fin r else lt i
theorem xbn (l m:Addr) (a b:Array Value) (n1 n2:Nat) (d1 d2:Option Addr) (s1 s2:Array (Option Value)) (e lt:Nat→Bool) :
  Meets (Builtin.«tuple.__lt__» ⟨[.ref l,.ref m],[]⟩) (fun A R s=>s.heap.get? l=some { cls:=.type "tuple",dict:=d1,data:=.seq a n1,slots:=s1 }∧s.heap.get? m=some { cls:=.type "tuple",dict:=d2,data:=.seq b n2,slots:=s2 } ∧
    (∀ j (h1:j < a.size) (h2:j < b.size),EqAt A.in1 s a[j] b[j] (e j))∧(∀ j (h1:j < a.size) (h2:j < b.size),e j=false→LtAt A.in1 s a[j] b[j] (lt j))∧R (.ok (.ret (.bool (firstD e lt (decide (a.size < b.size)) (List.range (min a.size b.size)))))) s) :=
 .of_wp fun prog w A R s h=>by
  obtain ⟨hp,g,d,tk,os⟩:=s
  obtain ⟨hl,hm,he,hlt,h⟩:=h
  have f2:=AutoSeq1.sub_tuple_tuple
  have hZ:(a.toList.zip b.toList).length=min a.size b.size:=by simp
  wp_walk using wpAny_loadPart' hl,wpAny_loadPart' hm,wpAny_forIn_list _ (fun rest q s'=>q.1=none∧s'=⟨hp,g,d,tk,os⟩∧∃ i,rest=(a.toList.zip b.toList).drop i∧R (.ok (.ret (.bool (firstD e lt (decide (a.size < b.size)) ((List.range (min a.size b.size)).drop i))))) ⟨hp,g,d,tk,os⟩) _
  case turn =>
   rintro ⟨y,x⟩ rest q s' ⟨hq,rfl,i,hz,hR⟩
   have hil:i < (a.toList.zip b.toList).length:=by
    rcases Nat.lt_or_ge i (a.toList.zip b.toList).length with k | k
    ·exact k
    ·rw [List.drop_of_length_le k] at hz;cases hz
   have hmn:i < min a.size b.size:=hZ ▸ hil
   have g1:i < a.size:=by omega
   have g2:i < b.size:=by omega
   rw [List.drop_eq_getElem_cons hil] at hz
   injection hz with hyx hrest
   have hy:y=a[i]:=by simpa using congrArg Prod.fst hyx
   have hx:x=b[i]:=by simpa using congrArg Prod.snd hyx
   subst hy hx
   have hd:(List.range (min a.size b.size)).drop i=i :: (List.range (min a.size b.size)).drop (i + 1):=by simp [List.drop_eq_getElem_cons,hmn]
   rw [hd,firstD] at hR
   refine wpAny_bind (he i g1 g2 prog w _ _ ?_)
   cases hei:e i with
   | true =>
    rw [hei] at hR
    wp_walk
    exact ⟨rfl,rfl,i + 1,hrest,hR⟩
   | false =>
    rw [hei] at hR
    refine wpAny_bind (wpAny_rule (wpAny_bind (hlt i g1 g2 hei prog w _ _ ?_)))
    wp_walk
    exact ⟨_,rfl,hR⟩
  case fin =>
   rintro ⟨q1,q2⟩ s' ⟨hq,rfl,i,hz,hR⟩
   simp only at hq
   subst hq
   have hge:min a.size b.size≤i:=by
    rcases Nat.lt_or_ge i (a.toList.zip b.toList).length with k | k
    ·rw [List.drop_eq_getElem_cons k] at hz;cases hz
    ·exact hZ ▸ k
   rw [List.drop_of_length_le (by simpa using hge),firstD] at hR
   wp_walk
   exact ⟨_,rfl,by simpa [Builtin.Tuple.tupleCompareSizes] using hR⟩
  case h =>
   exact ⟨rfl,rfl,0,rfl,by simpa using h⟩
theorem LtAt.tuples {A:Around} {s:Shared} {l m:Addr} {a b:Array Value} {e lt:Nat→Bool} (hl:s.heap.IsTuple l a) (hm:s.heap.IsTuple m b) (hu:A.units < cLine)
  (he:∀ j (h1:j < a.size) (h2:j < b.size),EqAt A.in1 s a[j] b[j] (e j)) (hlt:∀ j (h1:j < a.size) (h2:j < b.size),e j=false→LtAt A.in1 s a[j] b[j] (lt j)) :
  LtAt A s (.ref l) (.ref m) (firstD e lt (decide (a.size < b.size)) (List.range (min a.size b.size))):=fun prog w E Q h=>by
 obtain ⟨⟨c1,d1,t1,s1⟩,o1,k1,n1,j1⟩:=hl
 obtain ⟨⟨c2,d2,t2,s2⟩,o2,k2,n2,j2⟩:=hm
 simp only at k1 j1 k2 j2
 subst k1 j1 k2 j2
 exact richCompare_meets_room (op:=.Lt) ⟨_,o1,rfl⟩ ⟨_,o2,rfl⟩ F.slot_tuple_lt F.entry_tuple_lt (F.args_tuple_lt_2 _ _) (xbn l m a b n1 n2 d1 d2 s1 s2 e lt)
  ⟨o1,o2,he,hlt,show Value.bool (firstD e lt (decide (a.size < b.size)) (List.range (min a.size b.size)))≠Value.notImplemented∧Q (.bool (firstD e lt (decide (a.size < b.size)) (List.range (min a.size b.size)))) s from ⟨(fun x=>nomatch x),h⟩⟩ hu
mutual
noncomputable def ltP:PyData→PyData→Bool
 | .int a,.int b=>decide (a < b)
 | .tuple xs,.tuple ys=>ltPs xs ys
 | _,_=>false
noncomputable def ltPs:List PyData→List PyData→Bool
 | [],[]=>false
 | [],_ :: _=>true
 | _ :: _,[]=>false
 | x :: xs,y :: ys=>if PyData.eqv x y then ltPs xs ys else ltP x y
end
mutual
noncomputable def okP:PyData→PyData→Bool
 | .int _,.int _=>true
 | .tuple xs,.tuple ys=>okPs xs ys
 | _,_=>false
noncomputable def okPs:List PyData→List PyData→Bool
 | [],_=>true
 | _ :: _,[]=>true
 | x :: xs,y :: ys=>okP x y && okPs xs ys
end
theorem ya0 (e lt:Nat→Bool) (fin:Bool) (f:Nat→Nat):∀ l:List Nat,firstD e lt fin (l.map f)=firstD (fun i=>e (f i)) (fun i=>lt (f i)) fin l
 | []=>rfl
 | i :: r=>by
  show (if e (f i) then firstD e lt fin (r.map f) else lt (f i))=if e (f i) then _ else lt (f i)
  rw [ya0 e lt fin f r]
noncomputable def pairLt (xs ys:List PyData) (j:Nat):Bool:=ltP (xs.getD j .none) (ys.getD j .none)
theorem xa8:∀ xs ys:List PyData,firstD (pairEq xs ys) (pairLt xs ys) (decide (xs.length < ys.length)) (List.range (min xs.length ys.length))=ltPs xs ys
 | [],[]=>rfl
 | [],_ :: _=>by simp [firstD,ltPs]
 | _ :: _,[]=>by simp [firstD,ltPs]
 | x :: xs,y :: ys=>by
  have ih:=xa8 xs ys
  have e1:min (x :: xs).length (y :: ys).length=min xs.length ys.length + 1:=by simp only [List.length_cons];omega
  have e2:decide ((x :: xs).length < (y :: ys).length)=decide (xs.length < ys.length):=by simp
  rw [e1,e2,List.range_succ_eq_map,firstD,ya0]
  show (if PyData.eqv x y then firstD (pairEq xs ys) (pairLt xs ys) (decide (xs.length < ys.length)) (List.range (min xs.length ys.length)) else ltP x y)=_
  rw [ih,ltPs]
mutual
theorem Za0:∀ (da db:PyData) (A:Around) (s:Shared) (a b:Value) (as bs:List Addr),Reads s.heap a da as→Reads s.heap b db bs→okP da db=true→da.canLay0=true→db.canLay0=true→A.units + min da.depth db.depth < cLine→LtAt A s a b (ltP da db)
 | .int x,.int y,A,s,_,_,_,_,ra,rb,_,_,_,_=>by
  cases ra with
  | int _ t =>
   cases rb with
   | int _ u=>exact fun prog w E Q h=>richCompare_gives (op:=.Lt) (typeIs_int s _ t) (typeIs_int s _ u) F.slot_int_lt F.entry_int_lt (F.args_int_lt_2 _ _) (gives_int_lt _ _ t u) (fun x=>nomatch x) h
 | .tuple xs,.tuple ys,A,s,_,_,_,_,ra,rb,ok,ha,hb,hu=>by
  cases ra with
  | @tuple l o vs n _ as1 h1 h2 h3 h4 =>
   cases rb with
   | @tuple l' o' vs' n' _ bs1 k1 k2 k3 k4 =>
    have t1:s.heap.IsTuple l vs:=⟨_,h1,h2,_,h3⟩
    have t2:s.heap.IsTuple l' vs':=⟨_,k1,k2,_,k3⟩
    have n1:vs.size=xs.length:=by simpa using ReadsAll.length _ _ _ h4
    have n2:vs'.size=ys.length:=by simpa using ReadsAll.length _ _ _ k4
    show LtAt A s (.ref l) (.ref l') (ltPs xs ys)
    rw [← xa8 xs ys,← n1,← n2]
    refine LtAt.tuples t1 t2 (room_here hu) (fun j j1 j2=>?_) (fun j j1 j2 _=>?_)
    ·have z:=eqAt_readsAll xs ys A.in1 s vs.toList vs'.toList _ _ h4 k4 ha hb (room_in hu) j (by simpa using j1) (by simpa using j2)
     simpa using z
    ·have z:=YaN xs ys A.in1 s vs.toList vs'.toList _ _ h4 k4 ok ha hb (room_in hu) j (by simpa using j1) (by simpa using j2)
     simpa using z
 | .int _,.none,_,_,_,_,_,_,_,_,ok,_,_,_=>nomatch ok
 | .int _,.bool _,_,_,_,_,_,_,_,_,ok,_,_,_=>nomatch ok
 | .int _,.str _,_,_,_,_,_,_,_,_,ok,_,_,_=>nomatch ok
 | .int _,.list _,_,_,_,_,_,_,_,_,ok,_,_,_=>nomatch ok
 | .int _,.tuple _,_,_,_,_,_,_,_,_,ok,_,_,_=>nomatch ok
 | .int _,.dict _,_,_,_,_,_,_,_,_,ok,_,_,_=>nomatch ok
 | .tuple _,.none,_,_,_,_,_,_,_,_,ok,_,_,_=>nomatch ok
 | .tuple _,.bool _,_,_,_,_,_,_,_,_,ok,_,_,_=>nomatch ok
 | .tuple _,.int _,_,_,_,_,_,_,_,_,ok,_,_,_=>nomatch ok
 | .tuple _,.str _,_,_,_,_,_,_,_,_,ok,_,_,_=>nomatch ok
 | .tuple _,.list _,_,_,_,_,_,_,_,_,ok,_,_,_=>nomatch ok
 | .tuple _,.dict _,_,_,_,_,_,_,_,_,ok,_,_,_=>nomatch ok
 | .none,_,_,_,_,_,_,_,_,_,ok,_,_,_=>by simp [okP] at ok
 | .bool _,_,_,_,_,_,_,_,_,_,ok,_,_,_=>by simp [okP] at ok
 | .str _,_,_,_,_,_,_,_,_,_,ok,_,_,_=>by simp [okP] at ok
 | .list _,_,_,_,_,_,_,_,_,_,ok,_,_,_=>by simp [okP] at ok
 | .dict _,_,_,_,_,_,_,_,_,_,ok,_,_,_=>by simp [okP] at ok
theorem YaN:∀ (xs ys:List PyData) (A:Around) (s:Shared) (vs ws:List Value) (as bs:List Addr),ReadsAll s.heap vs xs as→ReadsAll s.heap ws ys bs→okPs xs ys=true→PyData.canLayAll0 xs=true→PyData.canLayAll0 ys=true→A.units + min (PyData.depthAll xs) (PyData.depthAll ys) < cLine→∀ j (h1:j < vs.length) (h2:j < ws.length),LtAt A s vs[j] ws[j] (pairLt xs ys j)
 | [],_,_,_,_,_,_,_,ra,_,_,_,_,_,j,h1,_=>by cases ra;exact absurd h1 (Nat.not_lt_zero _)
 | _ :: _,[],_,_,_,_,_,_,_,rb,_,_,_,_,j,_,h2=>by cases rb;exact absurd h2 (Nat.not_lt_zero _)
 | x :: xs,y :: ys,A,s,_,_,_,_,ra,rb,ok,ha,hb,hu,j,h1,h2=>by
  have a':x.canLay0=true∧PyData.canLayAll0 xs=true:=by simpa [PyData.canLayAll0] using ha
  have b':y.canLay0=true∧PyData.canLayAll0 ys=true:=by simpa [PyData.canLayAll0] using hb
  have o':okP x y=true∧okPs xs ys=true:=by simpa [okPs] using ok
  cases ra with
  | cons r rs =>
   cases rb with
   | cons r' rs' =>
    cases j with
    | zero=>exact Za0 x y A s _ _ _ _ r r' o'.1 a'.1 b'.1 (room_head hu)
    | succ j=>exact YaN xs ys A s _ _ _ _ rs rs' o'.2 a'.2 b'.2 (room_tail hu) j (Nat.lt_of_succ_lt_succ h1) (Nat.lt_of_succ_lt_succ h2)
end
section
variable {prog:Program} {w:World} {A:Around} {R:Result→Shared→Prop} {I:Addr} {fp wr:List Addr} {n:Nat} {P:Nat→Value→Prop} {St:Nat→Heap→Prop}
noncomputable def KeepH (a b:Heap):Prop:=∀ x o,a.get? x=some o→b.get? x=some o
noncomputable def LtOf (A:Around) (h0:Heap) (P:Nat→Value→Prop) (bt:Nat→Nat→Bool):Prop:=∀ i j vi vj (s:Shared),KeepH h0 s.heap→P i vi→P j vj→LtAt A s vi vj (bt i j)
theorem xaN:(toString "min" ++ toString ".loop" : String)="min.loop" := by decide
theorem XaU (W:Walks prog w A.in1 I fp wr n P St) (bt:Nat→Nat→Bool) {h0:Heap} (hcmp:LtOf A.in1 h0 P bt) (S:Addr) (hSf:S ∉ fp) (hS0:h0.get? S=none) (hw0:∀ b∈wr,h0.get? b=none) :
  ∀ (k j:Nat) (s:Shared) (vb:Value) (c:Nat),n - (j + 1)=k→j + 1≤n→St (j + 1) s.heap→P (argBest bt j) vb→KeepH h0 s.heap→s.heap.get? S=some { cls:=.type "list",dict:=none,data:=.seq #[vb,vb] c,slots:=#[] } →
  (∀ v h' tk,P (argBest bt (n - 1)) v→KeepH h0 h'→R (.ok (.ret v)) { s with heap:=h',toks:=tk })→codeAny (model prog w) A (.builtin "min.loop" ⟨[.ref I,.none,.ref S],[]⟩) R s
 | 0,j,s,vb,c,hk,hj,hst,hPb,hK,hS,hR=>by
  have hSw:S ∉ wr:=fun z=>hSf (W.sub S z)
  have hin:n=j + 1:=by omega
  subst hin
  refine codeAny_builtin F.entry_min_loop ?_
  rw [Around.under_plainId F.plain_min_loop (A:=A) _]
  show wpAny (model prog w) A.in1 (seqItems? (.ref S) >>= _) _ _ _
  refine wpAny_bind (wpAny_seqItems hS rfl ?_)
  show wpAny (model prog w) A.in1 (tryCatch (pyNext (.ref I)) _ >>= _) _ _ _
  refine wpAny_bind (wpAny_tryCatch (W.done s _ _ hst fun h' tk hk'=>?_))
  have hS':=hk' S _ hSw hS
  show wpAny (model prog w) A.in1 (updateSeq S (fun _=>#[]) >>= _) _ _ _
  refine wpAny_bind (wpAny_updateSeq hS' rfl (wpAny_bind (wpAny_letGo (wpAny_pure (hR vb _ tk hPb fun b o e=>?_)))))
  have hb1:b ∉ wr:=fun z=>by rw [hw0 b z] at e;cases e
  have hb2:S≠b:=fun z=>by rw [← z,hS0] at e;cases e
  exact (Heap.get?_update_other _ _ hb2).trans (hk' b o hb1 (hK b o e))
 | k + 1,j,s,vb,c,hk,hj,hst,hPb,hK,hS,hR=>by
  have hSw:S ∉ wr:=fun z=>hSf (W.sub S z)
  have hlt:j + 1 < n:=by omega
  refine codeAny_builtin F.entry_min_loop ?_
  rw [Around.under_plainId F.plain_min_loop (A:=A) _]
  show wpAny (model prog w) A.in1 (seqItems? (.ref S) >>= _) _ _ _
  refine wpAny_bind (wpAny_seqItems hS rfl ?_)
  show wpAny (model prog w) A.in1 (tryCatch (pyNext (.ref I)) _ >>= _) _ _ _
  refine wpAny_bind (wpAny_tryCatch (W.item (j + 1) s _ _ hlt hst fun v h' tk hP hst' hk'=>?_))
  have hS':=hk' S _ hSw hS
  have hK':KeepH h0 h':=fun b o e=>hk' b o (fun z=>by rw [hw0 b z] at e;cases e) (hK b o e)
  show wpAny (model prog w) A.in1 (tryCatch (holding [v,v] (richCompare .Lt v vb >>= _)) _ >>= _) _ _ _
  refine wpAny_bind (wpAny_tryCatch (wpAny_holding (wpAny_bind (hcmp (j + 1) (argBest bt j) v vb _ hK' hP hPb prog w _ _ ?_))))
  refine wpAny_bind (wpAny_holding (wpAny_truthy_bool (wpAny_bind (wpAny_letGo (wpAny_pure ?_)))))
  cases hb:bt (j + 1) (argBest bt j) with
  | true =>
   simp only [if_true]
   refine wpAny_bind (wpAny_updateSeq hS' rfl (wpAny_bind (wpAny_letGo ?_)))
   rw [xaN]
   have hK2:KeepH h0 (h'.update S (Obj.mapSeq fun _=>#[v,v])):=fun b o e=>(Heap.get?_update_other _ _ (fun z=>by rw [← z,hS0] at e;cases e)).trans (hK' b o e)
   refine wpAny_pure ⟨plainId_quiet F.plain_min_loop _,XaU W bt hcmp S hSf hS0 hw0 k (j + 1) _ v _ (by omega) hlt (W.frame _ _ _ hst' fun b hbf o e=>?_) (by simp only [argBest,hb,if_true];exact hP) hK2 (Heap.get?_update_self _ hS' rfl) fun v' h'' tk'' hP' hk''=>hR v' h'' tk'' hP' hk''⟩
   exact (Heap.get?_update_other _ _ (fun z:S=b=>hSf (z ▸ hbf))).trans e
  | false =>
   simp only [Bool.false_eq_true,if_false]
   refine wpAny_bind (wpAny_letGo ?_)
   rw [xaN]
   exact wpAny_pure ⟨plainId_quiet F.plain_min_loop _,XaU W bt hcmp S hSf hS0 hw0 k (j + 1) _ vb c (by omega) hlt hst' (by simp only [argBest,hb,Bool.false_eq_true,if_false];exact hPb) hK' hS' fun v' h'' tk'' hP' hk''=>hR v' h'' tk'' hP' hk''⟩
theorem Xbn (W:Walks prog w A.in1 I fp wr n P St) (bt:Nat→Nat→Bool) {h0:Heap} (hcmp:LtOf A.in1 h0 P bt) (S:Addr) (hSf:S ∉ fp) (hS0:h0.get? S=none) (hw0:∀ b∈wr,h0.get? b=none) (hn:0 < n) {s:Shared} {c:Nat} (hst:St 0 s.heap) (hK:KeepH h0 s.heap)
  (hS:s.heap.get? S=some { cls:=.type "list",dict:=none,data:=.seq #[] c,slots:=#[] }) (hR:∀ v h' tk,P (argBest bt (n - 1)) v→KeepH h0 h'→R (.ok (.ret v)) { s with heap:=h',toks:=tk }) :
  codeAny (model prog w) A (.builtin "min.loop" ⟨[.ref I,.none,.ref S],[]⟩) R s:=by
 have hSw:S ∉ wr:=fun z=>hSf (W.sub S z)
 refine codeAny_builtin F.entry_min_loop ?_
 rw [Around.under_plainId F.plain_min_loop (A:=A) _]
 show wpAny (model prog w) A.in1 (seqItems? (.ref S) >>= _) _ _ _
 refine wpAny_bind (wpAny_seqItems hS rfl ?_)
 show wpAny (model prog w) A.in1 (tryCatch (pyNext (.ref I)) _ >>= _) _ _ _
 refine wpAny_bind (wpAny_tryCatch (W.item 0 s _ _ hn hst fun v h' tk hP hst' hk'=>?_))
 have hS':=hk' S _ hSw hS
 have hK':KeepH h0 h':=fun b o e=>hk' b o (fun z=>by rw [hw0 b z] at e;cases e) (hK b o e)
 show wpAny (model prog w) A.in1 (updateSeq S (fun _=>#[v,v]) >>= _) _ _ _
 refine wpAny_bind (wpAny_updateSeq hS' rfl ?_)
 rw [xaN]
 have hK2:KeepH h0 (h'.update S (Obj.mapSeq fun _=>#[v,v])):=fun b o e=>(Heap.get?_update_other _ _ (fun z=>by rw [← z,hS0] at e;cases e)).trans (hK' b o e)
 refine wpAny_pure ⟨plainId_quiet F.plain_min_loop _,XaU W bt hcmp S hSf hS0 hw0 _ 0 _ v _ rfl hn (W.frame _ _ _ hst' fun b hbf o e=>?_) hP hK2 (Heap.get?_update_self _ hS' rfl) fun v' h'' tk'' hP' hk''=>hR v' h'' tk'' hP' hk''⟩
 exact (Heap.get?_update_other _ _ (fun z:S=b=>hSf (z ▸ hbf))).trans e
end
section
variable {prog:Program} {w:World} {A:Around} {E:Value→Shared→Prop} {s:Shared}
theorem zbv {p:Addr} {its:Array Value} {bt:Nat→Nat→Bool} {Q:Value→Shared→Prop} (hh:A.handled=none) (hl:s.heap.IsList p its) (hn:0 < its.size) (hcmp:LtOf A.in1 s.heap (fun i v=>its[i]?=some v) bt)
  (hQ:∀ v h' tk,its[argBest bt (its.size - 1)]?=some v→KeepH s.heap h'→Q v { s with heap:=h',toks:=tk }):wpAny (model prog w) A (call (.builtin "min") [.ref p]) Q E s:=by
 have hlt:p < s.heap.objs.size:=by obtain ⟨_,e,_⟩:=hl;exact Heap.lt_size e
 have e0:s.heap.get? s.heap.objs.size=none:=by
  cases q:s.heap.get? s.heap.objs.size with
  | none=>rfl
  | some o=>exact absurd (Heap.lt_size q) (Nat.lt_irrefl _)
 have e1:s.heap.get? (s.heap.objs.size + 1)=none:=by
  cases q:s.heap.get? (s.heap.objs.size + 1) with
  | none=>rfl
  | some o=>exact absurd (Heap.lt_size q) (Nat.not_lt_of_le (Nat.le_succ _))
 refine call_function_tree F.kind_min F.plain_min F.entry_min (F.args_min1 _) ?_
 show wpAny (model prog w) A.in1 (Builtin.Builtins.bindParams "min" ["key","default"] 0 ⟨[],[]⟩ >>= _) _ _ _
 refine wpAny_bind (wpAny_of_eq (show Builtin.Builtins.bindParams "min" ["key","default"] 0 ⟨[],[]⟩=pure [none,none] from rfl) (wpAny_bind (wpAny_pure ?_)))
 refine wpAny_bind (wpAny_pyIter_list hl (wpAny_bind (wpAny_newObj_type ?_)))
 have hsz:(s.heap.push { cls:=.type "list_iterator",data:=.fields #[.ref p,.int 0 0] }).objs.size=s.heap.objs.size + 1:=Heap.size_push ..
 have hne:p≠s.heap.objs.size:=Nat.ne_of_lt hlt
 rw [xaN]
 have k1:KeepH s.heap ((s.heap.push { cls:=.type "list_iterator",data:=.fields #[.ref p,.int 0 0] }).push { cls:=.type "list",data:=.seq #[] }):=fun b o e=>Heap.get?_push_of_some _ (Heap.get?_push_of_some _ e)
 refine wpAny_pure ⟨plainId_quiet F.plain_min_loop _,?_⟩
 show codeAny (model prog w) A (.builtin "min.loop" ⟨[.ref s.heap.objs.size,.none,.ref (s.heap.push { cls:=.type "list_iterator",data:=.fields #[.ref p,.int 0 0] }).objs.size],[]⟩) _ _
 rw [hsz]
 refine Xbn (c:=0) (Walks.list (A:=A.in1) hh s.heap.objs.size p hne its) bt hcmp (s.heap.objs.size + 1) (fun z=>?_) e1 (fun b hb=>?_) hn ?_ k1 ?_ fun v h' tk hv hk=>hQ v h' tk hv hk
 ·rcases List.mem_cons.mp z with z | z
  ·exact absurd z (Nat.succ_ne_self _)
  ·have:s.heap.objs.size + 1=p:=List.mem_singleton.mp z
   exact absurd hlt (by rw [← this];exact Nat.not_lt_of_le (Nat.le_succ _))
 ·rw [List.mem_singleton.mp hb];exact e0
 ·exact ⟨⟨_,Heap.get?_push_of_some _ (Heap.get?_push_size _ rfl),rfl,rfl⟩,(hl.push _).push _⟩
 ·rw [← hsz];exact Heap.get?_push_size _ rfl
end
theorem Ya2 {h:Heap}:∀ {us:List Value} {ds:List PyData} {as:List Addr} {i:Nat} {v:Value},ReadsAll h us ds as→us[i]?=some v→∃ as',Reads h v (ds.getD i .none) as'∧ds.getD i .none∈ds
 | _,_,_,_,_,.nil,e=>by simp at e
 | _,_,_,0,_,.cons r _,e=>by simp at e;subst e;exact ⟨_,r,List.mem_cons_self⟩
 | _,_,_,i + 1,v,.cons _ rs,e=>by
  obtain ⟨as',r,m⟩:=Ya2 (i:=i) (v:=v) rs (by simpa using e)
  exact ⟨as',r,List.mem_cons_of_mem _ m⟩
section
variable {X:Cx}
noncomputable def btP (ds:List PyData) (i j:Nat):Bool:=ltP (ds.getD i .none) (ds.getD j .none)
noncomputable def minAt (ds:List PyData):Nat:=argBest (btP ds) (ds.length - 1)
noncomputable def rMinD (K:PySem.W.Frag):List V→Hp→VK→Prop:=fun xs H Q=>∃ (p:Addr) (vs:List V) (ds:List PyData),xs=[.ref p]∧SqL K H p vs∧Reps K H vs ds∧0 < ds.length∧(∀ a∈ds,∀ b∈ds,okP a b=true)∧(∀ a∈ds,a.canLay0=true∧a.depth≤50)∧∃ v,vs[minAt ds]?=some v∧Q v H
theorem Xa8 (hc:X.calm=true) (hu:X.A.units + 64 < cLine):CallR X (.builtin "min") (rMinD X.K):=by
 intro pins s σ H xs us Q I r h
 obtain ⟨p,vs,ds,rfl,hq,hr,hn,hok,hlay,v0,hv0,q⟩:=h
 obtain ⟨u,rfl,ru⟩:=vals1 r
 cases ru
 obtain ⟨its,rv,pl,_⟩:=I.list hq
 obtain ⟨as,ra⟩:=Reps.reads I hr rv
 have hlen:its.length=ds.length:=ReadsAll.length _ _ _ ra
 refine zbv (bt:=btP ds) (I.ok.hd hc) pl.isList (by rw [List.size_toArray];omega) (fun i j vi vj s' hK hi hj=>?_) fun v h' tk hv hk=>?_
 ·have hi':its[i]?=some vi:=by simpa using hi
  have hj':its[j]?=some vj:=by simpa using hj
  obtain ⟨a1,r1,m1⟩:=Ya2 ra hi'
  obtain ⟨a2,r2,m2⟩:=Ya2 ra hj'
  have b1:=(hlay _ m1).2
  have b2:=(hlay _ m2).2
  exact Za0 _ _ _ s' _ _ _ _ (Reads.keeps hK r1) (Reads.keeps hK r2) (hok _ m1 _ m2) (hlay _ m1).1 (hlay _ m2).1 (by show X.A.units + 1 + _ < cLine;omega)
 ·have hv':its[minAt ds]?=some v:=by
   have e:its.toArray.size - 1=ds.length - 1:=by rw [List.size_toArray,hlen]
   rw [e] at hv
   unfold minAt
   simpa using hv
  obtain ⟨u,hu',ru⟩:=Vals.get rv hv0
  rw [hv'] at hu'
  cases hu'
  exact ⟨v0,H,I.kept hk,ru,q⟩
end
end L2
namespace L2
open PySem PySem.Spec PyProof.Rows PySem.W
section
variable {lt:Nat→Nat→Bool} {n0:Nat} {cmp:Nat→Nat→(Bool→Shared→Prop)→Shared→Prop} {s:Shared}
structure Ord (lt:Nat→Nat→Bool):Prop where
 tr:∀ a b c,lt b a=false→lt c b=false→lt c a=false
 as:∀ a b,lt a b=true→lt b a=false
noncomputable def P (p:Array Nat) (i:Nat):Nat:=p.getD i 0
variable (o:Ord lt) (hn:0 < n0) (hc:∀ i j (C:Bool→Shared→Prop),i < n0→j < n0→C (lt i j) s→cmp i j C s)
include o hn hc
end
section
variable {prog:Program} {w:World} {A:Around} {E:Value→Shared→Prop} {s:Shared}
end
section
variable {prog:Program} {w:World} {A:Around} {E:Value→Shared→Prop} {s:Shared} {lt:Nat→Nat→Bool}
end
section
variable {X:Cx}
end
end L2
namespace L2
open PySem PySem.Spec PyProof.Rows
noncomputable def tDSet2 (td ty tx:TE):TE:=fun σ H Q=>td σ H fun x H1=>∃ a,x=.ref a∧IsD H1 a∧ty σ H1 fun y H2=>tx σ H2 fun z H3=>∃ kvs k,H3 a=some (.dK kvs)∧y=kV k∧kvs.length < sizeLine ∧
 (∀ v,valV kvs k=some v→Q v H3)∧(valV kvs k=none→Q z (upd H3 a (.dK (putK kvs k z))))
section
variable {X:Cx} {o e f:Expr} {apos cpos:Pos} {td ty tx:TE}
theorem d_setd {pins:List (Addr×Obj)} {σ:St} {H:Hp} {s:Shared} {a:Addr} {z:V} {u r:Value} {kvs:List (Key×V)} {k:Key} {A:Around} {E:Value→Shared→Prop} {Q:Value→Shared→Prop} (I:Inv X pins σ H s) (e:H a=some (.dK kvs)) (hl:kvs.length < sizeLine) (ry:RelV (kV k) u) (rz:RelV z r)
  (h1:∀ v w' s',valV kvs k=some v→Inv X pins σ H s'→RelV v w'→Q w' s') (h2:∀ s',valV kvs k=none→Inv X pins σ (upd H a (.dK (putK kvs k z))) s'→Q r s') :
  wpAny (model X.prog X.w) A (call (.builtin "dict.setdefault") [.ref a,u,r]) Q E s:=by
 obtain ⟨_,hd,vs,rel,dd⟩:=xbS I.hok e
 have hz:vs.length≤sizeLine:=by rw [← rel.length];omega
 have hp:(putK kvs k z).length≤sizeLine:=by have:=yaU kvs k z;omega
 refine call_meetsIn PySem.F.slot_dict_setdefault dd.typeIs PySem.F.entry_dict_setdefault (PySem.F.args_dict_setdefault_3 _ _ _) (PySem.kt_meets_setdefault (mixKind X.prog X.w) a (xbF ry) hd r) ⟨vs,dd,hz,fun v hv=>?_,fun hn h' dd' hs=>?_⟩
 ·have q:=rel.val k
  rw [hv] at q
  cases hk:valV kvs k with
  | none=>rw [hk] at q;exact absurd q (fun z=>nomatch z)
  | some v'=>rw [hk] at q;exact h1 v' v _ hk (I.tok _) q
 ·have q:=rel.val k
  rw [hn] at q
  cases hk:valV kvs k with
  | some v'=>rw [hk] at q;exact absurd q (fun z=>nomatch z)
  | none =>
   refine h2 _ hk ?_
   have he:∃ q,h'.get? a=some q:=let ⟨q,_,_,hq,_⟩:=dd';⟨q,hq⟩
   exact zbt I (by rw [e];exact True.intro) hs he (ZbO hp hd (rel.put k rz) dd')
theorem XbH (ho:PE X o td) (he:PE X e ty) (hf:PE X f tx) (m:M2 X o "setdefault" apos e f cpos):PE X (.Call (.Attribute o "setdefault" apos) [e,f] [] cpos) (tDSet2 td ty tx):=by
 intro pins s σ H Q I h
 refine wpAny_Call_method m.base m.few m.line PySem.F.plainAttrs_dict PySem.F.slot_dict_setdefault PySem.F.type_dict_setdefault (thn (ho pins s σ H _ I h) fun u s1 ⟨x,H1,I1,rx,a,ex,d,q1⟩=>?_)
 subst ex
 obtain rfl:u=Value.ref a:=rx
 obtain ⟨t1,t2,_⟩:=YbO I1 d
 refine ⟨t1,t2,?_⟩
 rw [m.trees]
 refine Calls.callWith_builtin rfl (Calls.evalArgs_plain (Calls.spliced_cons (thn (he pins s1 σ H1 _ I1 q1) fun iv s2 ⟨y,H2,I2,ry,q2⟩ =>
  Calls.spliced_cons (thn (hf pins s2 σ H2 _ I2 q2) fun fv s3 ⟨z,H3,I3,rz,kvs,k,hH,ey,hl,q3,q4⟩=>Calls.spliced_nil ?_))))
 subst ey
 exact d_setd I3 hH hl ry rz (fun v w' s' hv I4 rw'=>⟨_,H3,I4,rw',q3 v hv⟩) fun s' hn I4=>⟨_,_,I4,rz,q4 hn⟩
end
end L2
namespace L2
open PySem PySem.Spec PyProof.Rows PySem.W
noncomputable def tAlt (t t':TE):TE:=fun σ H Q=>t σ H Q∨t' σ H Q
noncomputable def tSortV (td:TE):TE:=fun σ H Q=>td σ H fun x H1=>∃ (a:Addr) (kvs:List (Key×V)) (ns:List Int),x=.ref a∧H1 a=some (.dK kvs)∧kvs.map (·.2)=ns.map V.int∧ns.length < 64 ∧
 ∀ (l:Addr) (ms:List Int),H1 l=none→ms.Perm ns→ms.Pairwise (·≤·)→Q (.ref l) (upd H1 l (.lst (ms.map V.int)))
section
variable {X:Cx} {o e:Expr} {t t' td:TE} {apos cpos pos p:Pos}
theorem pe_alt (h:PE X e t) (h':PE X e t'):PE X e (tAlt t t'):=fun pins s σ H Q I q=>q.elim (h pins s σ H Q I) (h' pins s σ H Q I)
theorem KV.vals {kvs:List (Key×V)} {vs:List (Key×Value)} (r:KV kvs vs):Vals (kvs.map (·.2)) (vs.map (·.2)):=by
 induction r with
 | nil=>exact .nil
 | cons h _ ih=>exact .cons h.2 ih
theorem za9 {A:Around} {E:Value→Shared→Prop} {s:Shared} {v d:Addr} {ep:Nat} {kvs:List (Key×Value)} {ns:List Int} {Q:Value→Shared→Prop} (hh:A.handled=none) (hv1:s.heap.objs.size=v + 1) (hv:s.heap.IsValuesView v d) (hd:s.heap.DictAt (mixKind X.prog X.w) d kvs ep)
  (hI:IntsAre (kvs.map (·.2)) ns) (h64:kvs.length < 64)
  (h:∀ (D:Addr) (h':Heap) (tk:Nat) (out:Array Value) (ms:List Int) (e:Nat),s.heap.objs.size≤D→(∀ b o,s.heap.get? b=some o→h'.get? b=some o)→h'.get? D=some (seqObj "list" out e)→IntsAre out.toList ms→ms.Perm ns→ms.Pairwise (·≤·)→Q (.ref D) { s with heap:=h',toks:=tk }) :
  wpAny (model X.prog X.w) A (call (.builtin "sorted") [.ref v]) Q E s:=by
 refine Calls.call_function_entry kind_sorted plain_sorted entry_sorted (args_sorted1 _) ?_
 unfold Builtin.«sorted»
 refine wpAny_bind (m:=checkCount "sorted" 1 1 _) (wpAny_pure ?_)
 refine wpAny_bind (kdu_collect (A:=A.in1) (kdl_values (knd:=mixKind X.prog X.w) (kvs:=kvs) (ep:=ep)) hh ⟨hv,hd⟩ (Nat.le_trans (Nat.le_of_lt h64) (by decide)) fun h1 tk acc hk hacc=>?_)
 have hl:acc.toList.length=kvs.length:=by rw [Array.length_toList];exact hacc.1
 have ha:acc.toList=kvs.map (·.2):=by
  refine List.ext_getElem? fun j=>?_
  rw [List.getElem?_map]
  by_cases hj:j < kvs.length
  ·have hj2:j < acc.toList.length:=by omega
   obtain ⟨k,hx⟩:=hacc.2 j _ (by rw [← Array.getElem?_toList];exact List.getElem?_eq_getElem hj2)
   rw [List.getElem?_eq_getElem hj2,hx]
   rfl
  ·rw [List.getElem?_eq_none (by omega),List.getElem?_eq_none (by omega)];rfl
 refine wpAny_bind (wpAny_newList ?_ (by rw [hl];exact Nat.le_trans (Nat.le_of_lt h64) (by decide)))
 have hoL:(h1.push (seqObj "list" acc.toList.toArray 0)).get? h1.objs.size=some (seqObj "list" acc.toList.toArray 0):=Heap.get?_push_size _ rfl
 show wpAny _ _ _ _ _ { s with heap:=h1.push (seqObj "list" acc.toList.toArray 0),toks:=tk }
 refine wpAny_bind (wpAny_holding (wpAny_call_entry slot_list_sort ⟨_,hoL,rfl⟩ entry_list_sort (list_sort_tree hoL (ns:=ns) (by rw [ha];exact hI) (by rw [hl];exact h64) fun out ms a1 a2 a3=>⟨_,rfl,?_⟩) (args_list_sort _)))
 obtain ⟨e,he⟩:=sortedHeap_at (out:=out) hoL
 have hsz:s.heap.objs.size≤h1.objs.size:=by
  obtain ⟨ov,hov,_⟩:=hv
  rw [hv1]
  exact Heap.lt_size (hk _ _ hov)
 refine wpAny_pure ⟨_,rfl,h h1.objs.size _ _ out ms e hsz (fun b ob hb=>?_) he a1 a2 a3⟩
 have hb1:=hk b ob hb
 have hlt:=Heap.lt_size hb1
 rw [sortedHeap_old (Nat.ne_of_lt hlt) (by rw [size_push'];exact Nat.lt_succ_of_lt hlt),Heap.get?_push_ne _ _ _ (Nat.ne_of_lt hlt)]
 exact hb1
theorem zbI (hc:X.calm=true) (hg:Gl X "sorted") (hm:X.mg "sorted" = none) (ho:PE X o td)
  (hbase:attributeBase o "values" X.env (eval o X.env)=eval o X.env:=by rfl) (hline:(apos.endLine == cpos.line)=true:=by rfl)
  (hs:starEach [.Call (.Attribute o "values" apos) [] [] cpos] X.env=[(false,eval (.Call (.Attribute o "values" apos) [] [] cpos) X.env)]:=by rfl) :
  PE X (.Call (.Name "sorted" p) [.Call (.Attribute o "values" apos) [] [] cpos] [] pos) (tSortV td):=by
 intro pins s σ H Q I h
 refine wpAny_Call_Name_kw (xaY I hg hm xbt ?_ (by decide) (by decide))
 refine PyProof.Rows.callWith_builtin1 ?_ hs rfl
 rw [hs]
 show wpAny _ _ (spliced [(false,eval (.Call (.Attribute o "values" apos) [] [] cpos) X.env)]) _ _ s
 refine Calls.spliced_cons (wpAny_Call_method0_late hbase hline (thn (ho pins s σ H _ I h) fun u s1 ⟨x,H1,I1,rx,a,kvs,ns,ex,hH,hk,h64,q⟩=>?_))
 subst ex
 obtain rfl:u=Value.ref a:=rx
 obtain ⟨_,hd,vs,rel,dd⟩:=xbS I1.hok hH
 obtain ⟨t1,t2,_⟩:=YbO I1 (a:=a) (.inl ⟨kvs,.inl hH⟩)
 refine ⟨"dict","dict.values",PySem.F.plainAttrs_dict,PySem.F.slot_dict_values,PySem.F.type_dict_values,t1,t2,Calls.callWith_builtin rfl (PySem.evalArgs_none ?_)⟩
 refine call_meetsIn PySem.F.slot_dict_values dd.typeIs PySem.F.entry_dict_values (PySem.F.args_dict_values_1 _) (meets_dict_values (mixKind X.prog X.w) a hd) ⟨⟨vs,dd⟩,?_⟩
 refine Calls.spliced_nil ?_
 obtain ⟨ep,dat⟩:=dd.dictAt
 have rv:Vals (ns.map V.int) (vs.map (·.2)):=by rw [← hk];exact rel.vals
 have hlen:vs.length=ns.length:=by have:=rv.length;rw [List.length_map,List.length_map] at this;exact this.symm
 refine za9 (X:=X) (v:=s1.heap.objs.size) (d:=a) (ep:=ep) (kvs:=vs) (ns:=ns) (I1.ok.hd hc) (by show (s1.heap.push _).objs.size=_;rw [size_push']) ⟨_,Heap.get?_push_size _ rfl,rfl,rfl⟩ (dat.push _) (zaP rv) (by omega) fun D h' tk out ms e hD hkeep he a1 a2 a3=>?_
 have hz:ms.length=ns.length:=a2.length_eq
 have hD':s1.heap.objs.size≤D:=by
  have:(s1.heap.push { cls:=.type "dict_values",data:=.fields #[.ref a] }).objs.size≤D:=hD
  rw [size_push'] at this
  omega
 refine ⟨.ref D,_,I1.laid (t':=tk) (o:=.lst (ms.map V.int)) (fun b ob hb=>hkeep b ob (Heap.get?_push_of_some _ hb)) hD' ?_,rfl,q _ ms (I1.hok.fresh hD') a2 a3⟩
 exact ⟨by rw [List.length_map,hz];exact Nat.le_trans (Nat.le_of_lt h64) (by decide),out.toList,e,YaU a1,by simpa using he⟩
end
end L2
namespace Mth
noncomputable def upto (n:Nat):List Int:=(List.range n).map fun (k:Nat)=>(k:Int)
theorem Xae (n:Nat):(upto n).length=n:=by simp [upto]
theorem Xag {n:Nat} {x:Int}:x∈upto n↔0≤x∧x < (n:Int):=by
 simp only [upto,List.mem_map,List.mem_range]
 constructor
 ·rintro ⟨k,hk,rfl⟩;omega
 ·rintro ⟨h1,h2⟩;exact ⟨x.toNat,by omega,by omega⟩
theorem xa2 (n:Nat):(upto n).Pairwise (· < ·):=by
 unfold upto
 rw [List.pairwise_map]
 exact (List.pairwise_lt_range).imp fun h=>by omega
theorem Ya0 (n:Nat):(upto n).Nodup:=(xa2 n).imp fun h=>by omega
theorem yaG:∀ {xs ys:List Int},xs.Nodup→(∀ x∈xs,x∈ys)→ys.length≤xs.length→xs.Perm ys
 | [],ys,_,_,h=>by
  have:ys=[]:=List.eq_nil_of_length_eq_zero (by simpa using h)
  subst this;exact List.Perm.refl _
 | x :: xs,ys,hn,hs,hl=>by
  obtain ⟨h1,h2⟩:=List.nodup_cons.mp hn
  have hx:x∈ys:=hs x List.mem_cons_self
  have hp:=List.perm_cons_erase hx
  have hlen:(ys.erase x).length + 1=ys.length:=by have:=hp.length_eq;simpa using this.symm
  refine List.Perm.trans (List.Perm.cons x (yaG (ys:=ys.erase x) h2 (fun y hy=>?_) ?_)) hp.symm
  ·have hne:y≠x:=fun e=>h1 (e ▸ hy)
   exact (List.mem_erase_of_ne hne).mpr (hs y (List.mem_cons_of_mem _ hy))
  ·simp at hl;omega
theorem zaV {xs:List Int} (hn:xs.Nodup) (hb:∀ x∈xs,0≤x∧x < (xs.length:Int)):xs.Perm (upto xs.length):=by
 exact yaG hn (fun x hx=>Xag.mpr (hb x hx)) (by rw [Xae];exact Nat.le_refl _)
end Mth
namespace Mth
noncomputable def app (xs:List Int) (i:Int):Int:=xs.getD i.toNat 0
noncomputable def itr (xs:List Int) (i:Int):Nat→Int
 | 0=>i
 | j + 1=>app xs (itr xs i j)
noncomputable def Tn (n:Nat) (xs:List Int):Prop:=xs.Perm (upto n)
theorem Tn.length {n:Nat} {xs:List Int} (h:Tn n xs):xs.length=n:=by rw [h.length_eq,Xae]
theorem Tn.nodup {n:Nat} {xs:List Int} (h:Tn n xs):xs.Nodup:=h.nodup_iff.mpr (Ya0 n)
theorem Tn.bound {n:Nat} {xs:List Int} (h:Tn n xs) {x:Int} (hx:x∈xs):0≤x∧x < (n:Int):=Xag.mp (h.subset hx)
theorem Xam {xs:List Int} {i:Int} (h0:0≤i) (h1:i < (xs.length:Int)):xs[i.toNat]?=some (app xs i):=by
 have:i.toNat < xs.length:=by omega
 unfold app
 rw [List.getD_eq_getElem?_getD,List.getElem?_eq_getElem this];rfl
theorem zbU {xs:List Int} {i:Int} (h0:0≤i) (h1:i < (xs.length:Int)):app xs i∈xs:=List.mem_of_getElem? (Xam h0 h1)
theorem Tn.app {n:Nat} {xs:List Int} (h:Tn n xs) {i:Int} (h0:0≤i) (h1:i < (n:Int)):0≤app xs i∧app xs i < (n:Int):=h.bound (zbU h0 (by rw [h.length];exact h1))
theorem Tn.inj {n:Nat} {xs:List Int} (h:Tn n xs) {i j:Int} (i0:0≤i) (i1:i < (n:Int)) (j0:0≤j) (j1:j < (n:Int)) (e:Mth.app xs i=Mth.app xs j):i=j:=by
 have hl:=h.length
 have a:=Xam i0 (by rw [hl];exact i1)
 have b:=Xam j0 (by rw [hl];exact j1)
 rw [e] at a
 obtain ⟨ha,ea⟩:=List.getElem?_eq_some_iff.mp a
 obtain ⟨hb,eb⟩:=List.getElem?_eq_some_iff.mp b
 have:=(List.getElem_inj h.nodup).mp (ea.trans eb.symm)
 omega
theorem Tn.itr {n:Nat} {xs:List Int} (h:Tn n xs) {i:Int} (h0:0≤i) (h1:i < (n:Int)):∀ j,0≤itr xs i j∧itr xs i j < (n:Int)
 | 0=>⟨h0,h1⟩
 | j + 1=>h.app (h.itr h0 h1 j).1 (h.itr h0 h1 j).2
theorem Tn.back {n:Nat} {xs:List Int} (h:Tn n xs) {i:Int} (h0:0≤i) (h1:i < (n:Int)):∀ (a d:Nat),Mth.itr xs i a=Mth.itr xs i (a + d)→Mth.itr xs i d=i
 | 0,d,e=>by rw [Nat.zero_add] at e;exact e.symm
 | a + 1,d,e=>by
  have e':Mth.app xs (Mth.itr xs i a)=Mth.app xs (Mth.itr xs i (a + d)):=by
   have:a + 1 + d=(a + d) + 1:=by omega
   rw [this] at e
   exact e
  exact h.back h0 h1 a d (h.inj (h.itr h0 h1 a).1 (h.itr h0 h1 a).2 (h.itr h0 h1 _).1 (h.itr h0 h1 _).2 e')
theorem xaP:∀ {xs ys:List Int},xs.Nodup→(∀ x∈xs,x∈ys)→xs.length≤ys.length
 | [],_,_,_=>Nat.zero_le _
 | x :: xs,ys,hn,hs=>by
  obtain ⟨h1,h2⟩:=List.nodup_cons.mp hn
  have hx:x∈ys:=hs x List.mem_cons_self
  have hp:=List.perm_cons_erase hx
  have hlen:(ys.erase x).length + 1=ys.length:=by have:=hp.length_eq;simpa using this.symm
  have:=xaP (ys:=ys.erase x) h2 fun y hy=>(List.mem_erase_of_ne (a:=y) (b:=x) (fun e=>h1 (by rw [← e];exact hy))).mpr (hs y (List.mem_cons_of_mem _ hy))
  simp only [List.length_cons]
  omega
noncomputable def row (xs:List Int) (i:Int) (m:Nat):List Int:=(List.range (m + 1)).map (itr xs i)
theorem ybI (xs:List Int) (i:Int) (m:Nat):row xs i (m + 1)=row xs i m ++ [itr xs i (m + 1)]:=by
 unfold row;rw [List.range_succ,List.map_append];rfl
theorem yaK (xs:List Int) (i:Int) (m:Nat):(row xs i m).length=m + 1:=by simp [row]
theorem ybU {xs:List Int} {i:Int} {m:Nat} {x:Int}:x∈row xs i m↔∃ j,j≤m∧itr xs i j=x:=by
 unfold row
 rw [List.mem_map]
 constructor
 ·rintro ⟨j,hj,e⟩;exact ⟨j,by have:=List.mem_range.mp hj;omega,e⟩
 ·rintro ⟨j,hj,e⟩;exact ⟨j,List.mem_range.mpr (by omega),e⟩
noncomputable def NB (xs:List Int) (i:Int) (m:Nat):Prop:=∀ j,1≤j→j≤m→itr xs i j≠i
theorem Tn.row_le {n:Nat} {xs:List Int} (h:Tn n xs) {i:Int} (h0:0≤i) (h1:i < (n:Int)) {m:Nat} (nb:NB xs i m):m + 1≤n:=by
 have hn:(row xs i m).Nodup:=by
  unfold row List.Nodup
  rw [List.pairwise_map]
  refine List.Pairwise.imp_of_mem (R:=fun a b=>a < b) ?_ List.pairwise_lt_range
  intro a b ha hb hab e
  have ha':=List.mem_range.mp ha
  have hb':=List.mem_range.mp hb
  obtain ⟨d,rfl⟩:∃ d,b=a + d:=⟨b - a,by omega⟩
  exact nb d (by omega) (by omega) (h.back h0 h1 a d e)
 have:=xaP hn (ys:=upto n) fun x hx=>by
  obtain ⟨j,_,rfl⟩:=ybU.mp hx
  exact Xag.mpr (h.itr h0 h1 j)
 rw [yaK,Xae] at this
 exact this
noncomputable def out (left r:List Int):List Int:=left.filter fun k=>!r.contains k
noncomputable def form1 (n:Nat):List Int:=((List.range (n - 1)).map fun (k:Nat)=>(1:Int) + k) ++ [0]
theorem ZbI:∀ n,n < 21→0 < n→(form1 n).isPerm (upto n)=true:=by decide
theorem Ybj {n:Nat} (h:n < 21) (h0:0 < n):Tn n (form1 n):=List.isPerm_iff.mp (ZbI n h h0)
end Mth
namespace Mth
theorem ZaK {n:Nat} {xs:List Int} (h:xs.length=n):(upto n).map (app xs)=xs:=by
 apply List.ext_getElem
 ·rw [List.length_map,Xae,h]
 ·intro i h1 h2
  have e:=Xam (xs:=xs) (i:=(i:Int)) (by omega) (by omega)
  simp only [Int.toNat_natCast] at e
  rw [List.getElem?_eq_getElem h2] at e
  rw [List.getElem_map]
  unfold upto
  simp only [List.getElem_map,List.getElem_range]
  exact (Option.some.inj e).symm
noncomputable def inv (xs:List Int):List Int:=(upto xs.length).map fun i=>(xs.idxOf i:Int)
theorem yaE (xs:List Int):(inv xs).length=xs.length:=by unfold inv;rw [List.length_map,Xae]
theorem XaN {n i:Nat} (h:i < n):(upto n)[i]?=some (i:Int):=by
 unfold upto;rw [List.getElem?_map,List.getElem?_range h];rfl
theorem Xa2 {xs:List Int} {i:Int} (h0:0≤i) (h1:i < (xs.length:Int)):app (inv xs) i=(xs.idxOf i:Int):=by
 have e:=Xam (xs:=inv xs) h0 (by rw [yaE];exact h1)
 unfold inv at e
 rw [List.getElem?_map,XaN (by omega)] at e
 have:=Option.some.inj e
 rw [← inv] at this
 rw [← this,Int.toNat_of_nonneg h0]
theorem Tn.mem {n:Nat} {xs:List Int} (h:Tn n xs) {i:Int} (h0:0≤i) (h1:i < (n:Int)):i∈xs:=h.symm.subset (Xag.mpr ⟨h0,h1⟩)
theorem Tn.idx {n:Nat} {xs:List Int} (h:Tn n xs) {i:Int} (h0:0≤i) (h1:i < (n:Int)):xs.idxOf i < n:=by rw [← h.length];exact List.idxOf_lt_length_of_mem (h.mem h0 h1)
theorem Tn.app_inv {n:Nat} {xs:List Int} (h:Tn n xs) {i:Int} (h0:0≤i) (h1:i < (n:Int)):Mth.app xs (Mth.app (inv xs) i)=i:=by
 rw [Xa2 h0 (by rw [h.length];exact h1)]
 have hl:=h.idx h0 h1
 have e:=Xam (xs:=xs) (i:=(xs.idxOf i:Int)) (by omega) (by rw [h.length];omega)
 rw [Int.toNat_natCast,List.getElem?_eq_getElem (by rw [h.length];exact hl)] at e
 rw [← Option.some.inj e]
 exact List.getElem_idxOf _
theorem Tn.invB {n:Nat} {xs:List Int} (h:Tn n xs) {i:Int} (h0:0≤i) (h1:i < (n:Int)):0≤Mth.app (inv xs) i∧Mth.app (inv xs) i < (n:Int):=by
 rw [Xa2 h0 (by rw [h.length];exact h1)]
 have:=h.idx h0 h1
 omega
theorem Tn.inv_app' {n:Nat} {xs:List Int} (h:Tn n xs) {i:Int} (h0:0≤i) (h1:i < (n:Int)):Mth.app (inv xs) (Mth.app xs i)=i:=by
 obtain ⟨a0,a1⟩:=h.app h0 h1
 obtain ⟨b0,b1⟩:=h.invB a0 a1
 exact h.inj b0 b1 h0 h1 (h.app_inv a0 a1)
theorem Tn.inv_tn {n:Nat} {xs:List Int} (h:Tn n xs):Tn n (inv xs):=by
 have hl:=h.length
 unfold Tn
 have e:(inv xs).length=n:=by rw [yaE,hl]
 have:=zaV (xs:=inv xs) ?_ ?_
 ·rw [e] at this;exact this
 ·unfold List.Nodup
  rw [List.pairwise_iff_getElem]
  intro i j hi hj hij z
  have a:=Xam (xs:=inv xs) (i:=(i:Int)) (by omega) (by omega)
  have b:=Xam (xs:=inv xs) (i:=(j:Int)) (by omega) (by omega)
  rw [Int.toNat_natCast,List.getElem?_eq_getElem hi] at a
  rw [Int.toNat_natCast,List.getElem?_eq_getElem hj] at b
  have a:=Option.some.inj a
  have b:=Option.some.inj b
  have c:=h.app_inv (i:=(i:Int)) (by omega) (by omega)
  have d:=h.app_inv (i:=(j:Int)) (by omega) (by omega)
  rw [← a] at c
  rw [← b,← z] at d
  have:=c.symm.trans d
  omega
 ·intro x hx
  unfold inv at hx
  obtain ⟨i,hi,rfl⟩:=List.mem_map.mp hx
  have:=Xag.mp hi
  rw [hl] at this
  have:=h.idx this.1 this.2
  rw [e];omega
theorem XaL (xs:List Int) (i:Int) (j:Nat):∀ d,itr xs (itr xs i j) d=itr xs i (j + d)
 | 0=>rfl
 | d + 1=>by show app xs (itr xs (itr xs i j) d)=app xs (itr xs i (j + d));rw [XaL xs i j d]
theorem ZbU {xs:List Int} {i:Int} {L:Nat} (h:itr xs i L=i) (a:Nat):itr xs i (a + L)=itr xs i a:=by
 rw [Nat.add_comm,← XaL xs i L a,h]
theorem za3 {xs:List Int} {i:Int} {L:Nat} (h:itr xs i L=i):∀ (q r:Nat),itr xs i (r + L * q)=itr xs i r
 | 0,r=>rfl
 | q + 1,r=>by rw [Nat.mul_succ,← Nat.add_assoc,ZbU h];exact za3 h q r
theorem YbI {xs:List Int} {i:Int} {L:Nat} (h:itr xs i L=i) (a:Nat):itr xs i (a % L)=itr xs i a:=by
 have:=za3 h (a / L) (a % L)
 rw [Nat.mod_add_div] at this
 exact this.symm
end Mth
namespace Mth
inductive Rch (xs ys:List Int):Int→Prop
 | zero:Rch xs ys 0
 | r {x:Int}:Rch xs ys x→Rch xs ys (app xs x)
 | u {x:Int}:Rch xs ys x→Rch xs ys (app ys x)
theorem Rch.bound {n:Nat} {xs ys:List Int} (hx:Tn n xs) (hy:Tn n ys) (h0:0 < n) {x:Int} (h:Rch xs ys x):0≤x∧x < (n:Int):=by
 induction h with
 | zero=>omega
 | r _ ih=>exact hx.app ih.1 ih.2
 | u _ ih=>exact hy.app ih.1 ih.2
theorem Rch.itr {xs ys:List Int} {x:Int} (h:Rch xs ys x):∀ k,Rch xs ys (Mth.itr xs x k)
 | 0=>h
 | k + 1=>.r (h.itr k)
noncomputable def swp (xs:List Int) (m:Nat):List Int:=(xs.set 0 (app xs m)).set m (app xs 0)
theorem zbo (xs:List Int) (m:Nat):(swp xs m).length=xs.length:=by simp [swp]
theorem ybv {xs:List Int} {m:Nat} {v x:Int} (hm:m < xs.length) (h0:0≤x):app (xs.set m v) x=if x=(m:Int) then v else app xs x:=by
 unfold app
 rw [List.getD_eq_getElem?_getD,List.getD_eq_getElem?_getD]
 by_cases hx:x=(m:Int)
 ·rw [if_pos hx,hx,Int.toNat_natCast,List.getElem?_set_self hm];rfl
 ·rw [if_neg hx,List.getElem?_set_ne (by omega)]
theorem XaP {xs:List Int} {m:Nat} (hm:m < xs.length) {x:Int} (h0:0≤x):app (swp xs m) x=if x=(m:Int) then app xs 0 else if x=0 then app xs m else app xs x:=by
 unfold swp
 rw [ybv (by simpa using hm) h0,ybv (by omega) h0]
 rfl
theorem swp_tn {n:Nat} {xs:List Int} (h:Tn n xs) {m:Nat} (hm:m < n):Tn n (swp xs m):=by
 have hl:=h.length
 have e:(swp xs m).length=n:=by rw [zbo,hl]
 have:=zaV (xs:=swp xs m) ?_ ?_
 ·unfold Tn;rw [e] at this;exact this
 ·unfold List.Nodup
  rw [List.pairwise_iff_getElem]
  intro i j hi hj hij z
  have a:=Xam (xs:=swp xs m) (i:=(i:Int)) (by omega) (by omega)
  have b:=Xam (xs:=swp xs m) (i:=(j:Int)) (by omega) (by omega)
  rw [Int.toNat_natCast,List.getElem?_eq_getElem hi] at a
  rw [Int.toNat_natCast,List.getElem?_eq_getElem hj] at b
  have a:=Option.some.inj a
  have b:=Option.some.inj b
  rw [XaP (by omega) (by omega)] at a b
  rw [a,b] at z
  have inj:∀ p q:Int,0≤p→p < (n:Int)→0≤q→q < (n:Int)→app xs p=app xs q→p=q:=fun p q p0 p1 q0 q1=>h.inj p0 p1 q0 q1
  split at z <;> split at z <;> (try split at z) <;> (try split at z) <;> (first | omega | (have:=inj _ _ (by omega) (by omega) (by omega) (by omega) z;omega))
 ·intro x hx
  obtain ⟨i,hi,rfl⟩:=List.getElem_of_mem hx
  have a:=Xam (xs:=swp xs m) (i:=(i:Int)) (by omega) (by omega)
  rw [Int.toNat_natCast,List.getElem?_eq_getElem hi] at a
  rw [Option.some.inj a,XaP (by omega) (by omega),e]
  split
  ·exact h.app (by omega) (by omega)
  ·split
   ·exact h.app (by omega) (by omega)
   ·exact h.app (by omega) (by omega)
theorem Tn.back_ex {n:Nat} {xs:List Int} (h:Tn n xs) {i:Int} (h0:0≤i) (h1:i < (n:Int)):∃ m,NB xs i m∧Mth.itr xs i (m + 1)=i:=by
 by_cases hb:∃ m,m < n∧Mth.itr xs i (m + 1)=i
 ·-- the least
  have key:∀ b:Nat,(∃ m,m < b∧Mth.itr xs i (m + 1)=i)→∃ m,NB xs i m∧Mth.itr xs i (m + 1)=i:=by
   intro b
   induction b with
   | zero=>rintro ⟨m,hm,_⟩;omega
   | succ b ih =>
    rintro ⟨m,hm,e⟩
    by_cases hc:∃ m,m < b∧Mth.itr xs i (m + 1)=i
    ·exact ih hc
    ·refine ⟨m,fun j j1 j2 z=>hc ⟨j - 1,by omega,?_⟩,e⟩
     have:j - 1 + 1=j:=by omega
     rw [this];exact z
  exact key n hb
 ·have nb:NB xs i n:=fun j j1 j2 z=>by
   refine hb ⟨j - 1,by omega,?_⟩
   have:j - 1 + 1=j:=by omega
   rw [this];exact z
  have:=h.row_le h0 h1 nb
  omega
theorem YbU {n:Nat} {xs ys:List Int} (hx:Tn n xs) (hy:Tn n ys) {m:Nat} (hm:m < n) (nm:¬ Rch xs ys (m:Int)):Rch (swp xs m) ys (m:Int)∧∀ x,Rch xs ys x→Rch (swp xs m) ys x:=by
 have hl:=hx.length
 have m0:m≠0:=fun z=>nm (by rw [z];exact .zero)
 obtain ⟨M,nb,bk⟩:=hx.back_ex (i:=(m:Int)) (by omega) (by omega)
 have no0:∀ j,Mth.itr xs (m:Int) j≠0:=by
  intro j z
  have h':Rch xs ys (Mth.itr xs (Mth.itr xs (m:Int) j) ((M + 1) * j)):=by rw [z];exact Rch.zero.itr _
  rw [XaL] at h'
  have e2:Mth.itr xs (m:Int) ((M + 1) * (j + 1))=(m:Int):=by
   have:=za3 bk (j + 1) 0
   rw [Nat.zero_add] at this
   exact this
  have h3:=h'.itr ((M + 1) * (j + 1) - (j + (M + 1) * j))
  rw [XaL] at h3
  have e3:j + (M + 1) * j + ((M + 1) * (j + 1) - (j + (M + 1) * j))=if j + (M + 1) * j≤(M + 1) * (j + 1) then (M + 1) * (j + 1) else j + (M + 1) * j:=by split <;> omega
  rw [e3] at h3
  by_cases hc:j + (M + 1) * j≤(M + 1) * (j + 1)
  ·rw [if_pos hc,e2] at h3
   exact nm h3
  ·-- round as often as needed
   have h4:=h'.itr ((M + 1) * (2 * j + 2) - (j + (M + 1) * j))
   rw [XaL] at h4
   have hbig:j + (M + 1) * j≤(M + 1) * (2 * j + 2):=by
    have a1:(M + 1) * (2 * j + 2)=(M + 1) * j + ((M + 1) * j + (M + 1) * 2):=by rw [← Nat.mul_add,← Nat.mul_add];congr 1;omega
    have a2:j≤(M + 1) * j:=Nat.le_mul_of_pos_left j (by omega)
    omega
   have e5:j + (M + 1) * j + ((M + 1) * (2 * j + 2) - (j + (M + 1) * j))=(M + 1) * (2 * j + 2):=by omega
   rw [e5] at h4
   have:=za3 bk (2 * j + 2) 0
   rw [Nat.zero_add] at this
   rw [this] at h4
   exact nm h4
 have ring:∀ j,j≤M→Rch (swp xs m) ys (Mth.itr xs (m:Int) (j + 1)):=by
  intro j
  induction j with
  | zero =>
   intro _
   have h1:Rch (swp xs m) ys (Mth.app (swp xs m) 0):=.r .zero
   rw [XaP (by omega) (by omega),if_neg (by omega),if_pos rfl] at h1
   exact h1
  | succ j ih =>
   intro hj
   have h1:=(ih (by omega)).r
   have b:=hx.itr (i:=(m:Int)) (by omega) (by omega) (j + 1)
   rw [XaP (by omega) b.1,if_neg (nb (j + 1) (by omega) (by omega)),if_neg (no0 (j + 1))] at h1
   exact h1
 have hmm:Rch (swp xs m) ys (m:Int):=by have:=ring M (Nat.le_refl _);rwa [bk] at this
 refine ⟨hmm,fun x h=>?_⟩
 have hpos:0 < n:=by omega
 induction h with
 | zero=>exact .zero
 | r hx' ih =>
  rename_i x
  have b:=hx'.bound hx hy hpos
  by_cases h0:x=0
  ·have h1:=hmm.r
   rw [XaP (by omega) (by omega),if_pos rfl] at h1
   rw [h0];exact h1
  ·have hxm:x≠(m:Int):=fun z=>nm (by rw [← z];exact hx')
   have h1:=ih.r
   rw [XaP (by omega) b.1,if_neg hxm,if_neg h0] at h1
   exact h1
 | u _ ih=>exact ih.u
noncomputable def Cl (xs ys F:List Int):Prop:=∀ x∈F,app xs x∈F∧app ys x∈F
theorem Cl.all {xs ys F:List Int} (h:Cl xs ys F) (h0:(0:Int)∈F) {x:Int} (r:Rch xs ys x):x∈F:=by
 induction r with
 | zero=>exact h0
 | r _ ih=>exact (h _ ih).1
 | u _ ih=>exact (h _ ih).2
structure Fd (xs ys:List Int) (F:List Int):Prop where
 z:(0:Int)∈F
 nd:F.Nodup
 mt:∀ x∈F,Rch xs ys x
theorem Fd.len {n:Nat} {xs ys F:List Int} (h:Fd xs ys F) (hx:Tn n xs) (hy:Tn n ys) (h0:0 < n):F.length≤n:=by
 have:=xaP h.nd (ys:=upto n) fun x hx'=>Xag.mpr ((h.mt x hx').bound hx hy h0)
 rw [Xae] at this
 exact this
theorem Fd.one (xs ys:List Int):Fd xs ys [0]:=⟨by simp,by simp,fun x hx=>(show x=0 by simpa using hx) ▸ .zero⟩
theorem round {xs ys F F1 F2:List Int} (d:Fd xs ys F) (d2:Fd xs ys F2) (p1:F <+: F1) (p2:F1 <+: F2) (c1:∀ x∈F,app xs x∈F1) (c2:∀ x∈F1,app ys x∈F2) {t:Nat} (h:Cl xs ys F∨t + 1≤F.length):Cl xs ys F2∨t + 1 + 1≤F2.length:=by
 have p:=p1.trans p2
 by_cases hc:Cl xs ys F
 ·refine .inl fun x hx=>?_
  have hF:=hc.all d.z (d2.mt x hx)
  exact ⟨p.subset (hc x hF).1,p.subset (hc x hF).2⟩
 ·have hl:=h.resolve_left hc
  by_cases he:F2.length≤F.length
  ·refine absurd ?_ hc
   have e2:F2=F:=(p.eq_of_length (by have:=p.length_le;omega)).symm
   have e1:F1=F:=by
    have a:=p1.length_le
    have b:=p2.length_le
    exact (p1.eq_of_length (by omega)).symm
   intro x hx
   refine ⟨?_,?_⟩
   ·have:=c1 x hx;rwa [e1] at this
   ·have:=c2 x (by rw [e1];exact hx);rwa [e2] at this
  ·exact .inr (by omega)
noncomputable def rowR (w n:Nat):List Int:=((List.range (w - 1)).map fun (k:Nat)=>(1:Int) + k) ++ [0] ++ ((List.range (n - w)).map fun (k:Nat)=>(w:Int) + k)
noncomputable def colU (w n:Nat):List Int:=[(w:Int)] ++ ((List.range (w - 1)).map fun (k:Nat)=>(1:Int) + k) ++ ((List.range (n - (w + 1))).map fun (k:Nat)=>((w:Int) + 1) + k) ++ [0]
theorem xbU:∀ n,n < 21→∀ w,w < n + 1→0 < w→(rowR w n).isPerm (upto n)=true:=by decide +kernel
theorem XbU:∀ n,n < 21→∀ w,w < n→0 < w→(colU w n).isPerm (upto n)=true:=by decide +kernel
theorem zbV {w n:Nat} (h:n < 21) (h1:w≤n) (h0:0 < w):Tn n (rowR w n):=List.isPerm_iff.mp (xbU n h w (by omega) h0)
theorem ybV {w n:Nat} (h:n < 21) (h1:w < n) (h0:0 < w):Tn n (colU w n):=List.isPerm_iff.mp (XbU n h w h1 h0)
theorem less {L L':List Int} {m:Int} (nd:L'.Nodup) (hs:∀ x∈L',x∈L) (hm:m∈L) (hm':m ∉ L'):L'.length < L.length:=by
 have hp:=List.perm_cons_erase hm
 have hlen:(L.erase m).length + 1=L.length:=by have:=hp.length_eq;simpa using this.symm
 have:=xaP (ys:=L.erase m) nd fun x hx=>(List.mem_erase_of_ne (fun e=>hm' (by rw [← e];exact hx))).mpr (hs x hx)
 omega
end Mth
namespace Mth
noncomputable def fol (xs ys:List Int):List Int:=xs.map (app ys)
theorem ZaE (xs ys:List Int):(fol xs ys).length=xs.length:=by simp [fol]
theorem XaI {n:Nat} {xs ys:List Int} (hx:xs.length=n) (hy:ys.length=n) (h:∀ s:Int,0≤s→s < (n:Int)→app xs s=app ys s):xs=ys:=by
 rw [← ZaK hx,← ZaK hy]
 apply List.map_congr_left
 intro s hs
 obtain ⟨h0,h1⟩:=Xag.mp hs
 exact h s h0 h1
theorem xaA {xs ys:List Int} {s:Int} (h0:0≤s) (h1:s < (xs.length:Int)):app (fol xs ys) s=app ys (app xs s):=by
 have e:=Xam (xs:=fol xs ys) h0 (by rw [ZaE];exact h1)
 unfold fol at e
 rw [List.getElem?_map,Xam h0 h1] at e
 exact (Option.some.inj e).symm
theorem Tn.of_inj {n:Nat} {xs:List Int} (hl:xs.length=n) (hb:∀ s:Int,0≤s→s < (n:Int)→0≤Mth.app xs s∧Mth.app xs s < (n:Int)) (hi:∀ s t:Int,0≤s→s < (n:Int)→0≤t→t < (n:Int)→Mth.app xs s=Mth.app xs t→s=t):Tn n xs:=by
 have el:∀ (i:Nat) (h:i < xs.length),xs[i]=Mth.app xs (i:Int):=fun i h=>by
  have a:=Xam (xs:=xs) (i:=(i:Int)) (by omega) (by omega)
  rw [Int.toNat_natCast,List.getElem?_eq_getElem h] at a
  exact Option.some.inj a
 have:=zaV (xs:=xs) ?_ ?_
 ·unfold Tn;rw [hl] at this;exact this
 ·unfold List.Nodup
  rw [List.pairwise_iff_getElem]
  intro i j h1 h2 hij z
  rw [el i h1,el j h2] at z
  have:=hi i j (by omega) (by omega) (by omega) (by omega) z
  omega
 ·intro x hx
  obtain ⟨i,h,rfl⟩:=List.getElem_of_mem hx
  rw [el i h,hl]
  exact hb i (by omega) (by omega)
theorem Tn.fol {n:Nat} {xs ys:List Int} (hx:Tn n xs) (hy:Tn n ys):Tn n (fol xs ys):=by
 have hl:=hx.length
 refine Tn.of_inj (by rw [ZaE];exact hl) (fun s h0 h1=>?_) fun s t s0 s1 t0 t1 e=>?_
 ·rw [xaA h0 (by omega)]
  obtain ⟨a,b⟩:=hx.app h0 h1
  exact hy.app a b
 ·rw [xaA s0 (by omega),xaA t0 (by omega)] at e
  obtain ⟨a,b⟩:=hx.app s0 s1
  obtain ⟨c,d⟩:=hx.app t0 t1
  exact hx.inj s0 s1 t0 t1 (hy.inj a b c d e)
theorem Tn.inv_fol {n:Nat} {xs ys:List Int} (hx:Tn n xs) (hy:Tn n ys) {s:Int} (h0:0≤s) (h1:s < (n:Int)):Mth.app (inv (Mth.fol xs ys)) s=Mth.app (inv xs) (Mth.app (inv ys) s):=by
 have hf:=hx.fol hy
 obtain ⟨a0,a1⟩:=hy.invB h0 h1
 obtain ⟨b0,b1⟩:=hx.invB a0 a1
 obtain ⟨c0,c1⟩:=hf.invB h0 h1
 refine hf.inj c0 c1 b0 b1 ?_
 rw [hf.app_inv h0 h1,xaA b0 (by rw [hx.length];exact b1),hx.app_inv a0 a1,hy.app_inv h0 h1]
noncomputable def anew (xs p:List Int):List Int:=fol (fol (inv p) xs) p
theorem Tn.anew {n:Nat} {xs p:List Int} (hx:Tn n xs) (hp:Tn n p):Tn n (anew xs p):=(hp.inv_tn.fol hx).fol hp
theorem Tn.anew_app {n:Nat} {xs p:List Int} (hx:Tn n xs) (hp:Tn n p) {s:Int} (h0:0≤s) (h1:s < (n:Int)):Mth.app (Mth.anew xs p) s=Mth.app p (Mth.app xs (Mth.app (inv p) s)):=by
 have hl:=hp.inv_tn.length
 unfold Mth.anew
 rw [xaA h0 (by rw [ZaE,hl];exact h1),xaA h0 (by rw [hl];exact h1)]
theorem Tn.anew_at {n:Nat} {xs p:List Int} (hx:Tn n xs) (hp:Tn n p) {s:Int} (h0:0≤s) (h1:s < (n:Int)):Mth.app (Mth.anew xs p) (Mth.app p s)=Mth.app p (Mth.app xs s):=by
 obtain ⟨a,b⟩:=hp.app h0 h1
 rw [hx.anew_app hp a b,hp.inv_app' h0 h1]
theorem Tn.anew_anew {n:Nat} {xs p q:List Int} (hx:Tn n xs) (hp:Tn n p) (hq:Tn n q):Mth.anew (Mth.anew xs p) q=Mth.anew xs (Mth.fol p q):=by
 have hf:=hp.fol hq
 refine XaI (n:=n) ((hx.anew hp).anew hq).length (hx.anew hf).length fun s h0 h1=>?_
 obtain ⟨a0,a1⟩:=hq.invB h0 h1
 obtain ⟨b0,b1⟩:=hp.invB a0 a1
 obtain ⟨c0,c1⟩:=hx.app b0 b1
 rw [(hx.anew hp).anew_app hq h0 h1,hx.anew_app hp a0 a1,hx.anew_app hf h0 h1,hp.inv_fol hq h0 h1,xaA c0 (by rw [hp.length];exact c1)]
theorem Tn.anew_back {n:Nat} {xs p:List Int} (hx:Tn n xs) (hp:Tn n p):Mth.anew (Mth.anew xs p) (inv p)=xs:=by
 refine XaI (n:=n) ((hx.anew hp).anew hp.inv_tn).length hx.length fun s h0 h1=>?_
 obtain ⟨a0,a1⟩:=hp.inv_tn.invB h0 h1
 have e:Mth.app (inv (inv p)) s=Mth.app p s:=by
  obtain ⟨b0,b1⟩:=hp.app h0 h1
  refine hp.inv_tn.inj a0 a1 b0 b1 ?_
  rw [hp.inv_tn.app_inv h0 h1,hp.inv_app' h0 h1]
 obtain ⟨b0,b1⟩:=hp.app h0 h1
 obtain ⟨c0,c1⟩:=hx.app h0 h1
 rw [(hx.anew hp).anew_app hp.inv_tn h0 h1,e,hx.anew_at hp h0 h1,hp.inv_app' c0 c1]
end Mth
namespace Mth
noncomputable def addIf (F:List Int) (x:Int):List Int:=if x∈F then F else F ++ [x]
theorem Xaw (F:List Int) (x:Int):F <+: addIf F x:=by
 unfold addIf;split
 ·exact List.prefix_refl _
 ·exact List.prefix_append _ _
theorem Yai {F:List Int} {x y:Int}:y∈addIf F x↔y∈F∨y=x:=by
 unfold addIf;split
 ·next h=>exact ⟨.inl,fun z=>z.elim id fun e=>e ▸ h⟩
 ·rw [List.mem_append,List.mem_singleton]
theorem yaV {F:List Int} {x:Int} (h:F.Nodup):(addIf F x).Nodup:=by
 unfold addIf;split
 ·exact h
 ·next hx =>
  rw [List.nodup_append]
  exact ⟨h,by simp,fun a ha b hb e=>hx (by rw [List.mem_singleton] at hb;rw [← hb,← e];exact ha)⟩
noncomputable def visit (xs ys F:List Int) (x:Int):List Int:=addIf (addIf F (app xs x)) (app ys x)
noncomputable def bf (xs ys:List Int) (s:Int):Nat→List Int
 | 0=>[s]
 | k + 1=>match (bf xs ys s k)[k]? with
  | some x=>visit xs ys (bf xs ys s k) x
  | none=>bf xs ys s k
theorem ZbV (xs ys:List Int) (s:Int) (k:Nat):bf xs ys s k <+: bf xs ys s (k + 1):=by
 show _ <+: (match (bf xs ys s k)[k]? with | some x=>visit xs ys (bf xs ys s k) x | none=>bf xs ys s k)
 split
 ·exact (Xaw _ _).trans (Xaw _ _)
 ·exact List.prefix_refl _
theorem ZaV (xs ys:List Int) (s:Int) (k:Nat):∀ d,bf xs ys s k <+: bf xs ys s (k + d)
 | 0=>List.prefix_refl _
 | d + 1=>(ZaV xs ys s k d).trans (ZbV xs ys s (k + d))
theorem ZaG (xs ys:List Int) (s:Int):∀ k,(bf xs ys s k).Nodup
 | 0=>by show [s].Nodup;simp
 | k + 1=>by
  show (match (bf xs ys s k)[k]? with | some x=>visit xs ys (bf xs ys s k) x | none=>bf xs ys s k).Nodup
  split
  ·exact yaV (yaV (ZaG xs ys s k))
  ·exact ZaG xs ys s k
theorem ya3 {xs ys:List Int} {s:Int} {k:Nat} (h:(bf xs ys s k).length≤k):∀ d,bf xs ys s (k + d)=bf xs ys s k
 | 0=>rfl
 | d + 1=>by
  have e:=ya3 h d
  show (match (bf xs ys s (k + d))[k + d]? with | some x=>visit xs ys (bf xs ys s (k + d)) x | none=>bf xs ys s (k + d))=_
  rw [e,List.getElem?_eq_none (by omega)]
section
variable {n:Nat} {xs ys:List Int} {s:Int}
theorem yam (hx:Tn n xs) (hy:Tn n ys) (s0:0≤s) (s1:s < (n:Int)):∀ k,∀ x∈bf xs ys s k,0≤x∧x < (n:Int)
 | 0,x,h=>by rw [List.mem_singleton.mp (show x∈[s] from h)];exact ⟨s0,s1⟩
 | k + 1,x,h=>by
  have ih:=yam hx hy s0 s1 k
  have h':x∈(match (bf xs ys s k)[k]? with | some y=>visit xs ys (bf xs ys s k) y | none=>bf xs ys s k):=h
  split at h'
  ·next y hy' =>
   obtain ⟨y0,y1⟩:=ih y (List.mem_of_getElem? hy')
   rcases Yai.mp h' with h' | rfl
   ·rcases Yai.mp h' with h' | rfl
    ·exact ih x h'
    ·exact hx.app y0 y1
   ·exact hy.app y0 y1
  ·exact ih x h'
theorem ya9 (hx:Tn n xs) (hy:Tn n ys) (s0:0≤s) (s1:s < (n:Int)) (k:Nat):(bf xs ys s k).length≤n:=by
 have:=xaP (ZaG xs ys s k) (ys:=upto n) fun x h=>Xag.mpr (yam hx hy s0 s1 k x h)
 rw [Xae] at this
 exact this
theorem bf_at {k i:Nat} (hik:i≤k) {x:Int} (h:(bf xs ys s k)[i]?=some x):(bf xs ys s i)[i]?=some x:=by
 obtain ⟨d,rfl⟩:∃ d,k=i + d:=⟨k - i,by omega⟩
 by_cases hl:(bf xs ys s i).length≤i
 ·rw [ya3 hl d] at h
  exact h
 ·obtain ⟨t,e⟩:=ZaV xs ys s i d
  rw [← e,List.getElem?_append_left (by omega)] at h
  exact h
theorem YbV (hx:Tn n xs) (hy:Tn n ys) (s0:0≤s) (s1:s < (n:Int)):Cl xs ys (bf xs ys s n):=by
 intro x hm
 obtain ⟨i,hi,e⟩:=List.getElem_of_mem hm
 have hl:=ya9 hx hy s0 s1 n
 have hi':(bf xs ys s i)[i]?=some x:=bf_at (k:=n) (by omega) (by rw [List.getElem?_eq_getElem hi,e])
 have hs:visit xs ys (bf xs ys s i) x <+: bf xs ys s n:=by
  have:=ZaV xs ys s (i + 1) (n - (i + 1))
  rw [show i + 1 + (n - (i + 1))=n by omega] at this
  have e2:bf xs ys s (i + 1)=visit xs ys (bf xs ys s i) x:=by
   show (match (bf xs ys s i)[i]? with | some x=>visit xs ys (bf xs ys s i) x | none=>bf xs ys s i)=_
   rw [hi']
  rw [← e2];exact this
 refine ⟨hs.subset ?_,hs.subset ?_⟩
 ·exact Yai.mpr (.inl (Yai.mpr (.inr rfl)))
 ·exact Yai.mpr (.inr rfl)
theorem YaV {zs F:List Int} (hz:Tn n zs) (nd:F.Nodup) (hb:∀ x∈F,0≤x∧x < (n:Int)) (hc:∀ x∈F,app zs x∈F) {y:Int} (y0:0≤y) (y1:y < (n:Int)) (h:app zs y∈F):y∈F:=by
 have nd2:(F.map (app zs)).Nodup:=by
  unfold List.Nodup
  rw [List.pairwise_map]
  refine List.Pairwise.imp_of_mem (fun {a b} ha hb' hab e=>?_) nd
  obtain ⟨a0,a1⟩:=hb a ha
  obtain ⟨b0,b1⟩:=hb b hb'
  exact hab (hz.inj a0 a1 b0 b1 e)
 have pm:(F.map (app zs)).Perm F:=yaG nd2 (fun x hx=>by obtain ⟨z,hz',rfl⟩:=List.mem_map.mp hx;exact hc z hz') (by simp)
 obtain ⟨z,hzm,e⟩:=List.mem_map.mp (pm.symm.subset h)
 obtain ⟨z0,z1⟩:=hb z hzm
 rw [← hz.inj z0 z1 y0 y1 e];exact hzm
theorem zbP (hx:Tn n xs) (hy:Tn n ys) (s0:0≤s) (s1:s < (n:Int)) (all:∀ x:Int,0≤x→x < (n:Int)→Rch xs ys x) {x:Int} (x0:0≤x) (x1:x < (n:Int)):x∈bf xs ys s n:=by
 have cl:=YbV hx hy s0 s1
 have nd:=ZaG xs ys s n
 have bd:=yam hx hy s0 s1 n
 have hs:s∈bf xs ys s n:=by
  have:=ZaV xs ys s 0 n
  rw [Nat.zero_add] at this
  exact this.subset (show s∈[s] by simp)
 have hpos:0 < n:=by omega
 have zero:∀ y,Rch xs ys y→y∈bf xs ys s n→(0:Int)∈bf xs ys s n:=by
  intro y hr
  induction hr with
  | zero=>exact id
  | r h ih =>
   intro hm
   obtain ⟨a,b⟩:=h.bound hx hy hpos
   exact ih (YaV hx nd bd (fun x hx'=>(cl x hx').1) a b hm)
  | u h ih =>
   intro hm
   obtain ⟨a,b⟩:=h.bound hx hy hpos
   exact ih (YaV hy nd bd (fun x hx'=>(cl x hx').2) a b hm)
 exact cl.all (zero s (all s s0 s1) hs) (all x x0 x1)
theorem xbI (hx:Tn n xs) (hy:Tn n ys) (s0:0≤s) (s1:s < (n:Int)) (all:∀ x:Int,0≤x→x < (n:Int)→Rch xs ys x):Tn n (bf xs ys s n) :=
 yaG (ZaG xs ys s n) (fun x h=>Xag.mpr (yam hx hy s0 s1 n x h)) (by
  have:=xaP (Ya0 n) (ys:=bf xs ys s n) fun x h=>by obtain ⟨a,b⟩:=Xag.mp h;exact zbP hx hy s0 s1 all a b
  exact this)
theorem Za9 {p F:List Int} (hp:Tn n p) (hb:∀ x∈F,0≤x∧x < (n:Int)) {x:Int} (x0:0≤x) (x1:x < (n:Int)):addIf (F.map (app p)) (app p x)=(addIf F x).map (app p):=by
 unfold addIf
 have e:app p x∈F.map (app p)↔x∈F:=⟨fun h=>by
  obtain ⟨y,hy,e⟩:=List.mem_map.mp h
  obtain ⟨y0,y1⟩:=hb y hy
  rw [← hp.inj y0 y1 x0 x1 e];exact hy,fun h=>List.mem_map.mpr ⟨x,h,rfl⟩⟩
 by_cases h:x∈F
 ·rw [if_pos h,if_pos (e.mpr h)]
 ·rw [if_neg h,if_neg fun z=>h (e.mp z),List.map_append];rfl
theorem Za3 {p:List Int} (hx:Tn n xs) (hy:Tn n ys) (hp:Tn n p) (s0:0≤s) (s1:s < (n:Int)):∀ k,bf (anew xs p) (anew ys p) (app p s) k=(bf xs ys s k).map (app p)
 | 0=>rfl
 | k + 1=>by
  have ih:=Za3 hx hy hp s0 s1 k
  show (match (bf (anew xs p) (anew ys p) (app p s) k)[k]? with | some x=>visit (anew xs p) (anew ys p) (bf (anew xs p) (anew ys p) (app p s) k) x | none=>bf (anew xs p) (anew ys p) (app p s) k)=(match (bf xs ys s k)[k]? with | some x=>visit xs ys (bf xs ys s k) x | none=>bf xs ys s k).map (app p)
  rw [ih,List.getElem?_map]
  cases h:(bf xs ys s k)[k]? with
  | none=>rfl
  | some x =>
   obtain ⟨x0,x1⟩:=yam hx hy s0 s1 k x (List.mem_of_getElem? h)
   obtain ⟨a0,a1⟩:=hx.app x0 x1
   obtain ⟨b0,b1⟩:=hy.app x0 x1
   show visit (anew xs p) (anew ys p) ((bf xs ys s k).map (app p)) (app p x)=(visit xs ys (bf xs ys s k) x).map (app p)
   unfold visit
   rw [hx.anew_at hp x0 x1,hy.anew_at hp x0 x1,Za9 hp (yam hx hy s0 s1 k) a0 a1,Za9 hp (fun z hz=>?_) b0 b1]
   rcases Yai.mp hz with hz | rfl
   ·exact yam hx hy s0 s1 k z hz
   ·exact ⟨a0,a1⟩
end
noncomputable def num (zs sq:List Int):List Int:=sq.map fun o=>(sq.idxOf (app zs o):Int)
theorem Tn.inv_inv {n:Nat} {p:List Int} (hp:Tn n p):inv (inv p)=p:=by
 refine XaI (n:=n) hp.inv_tn.inv_tn.length hp.length fun s h0 h1=>?_
 obtain ⟨a0,a1⟩:=hp.inv_tn.invB h0 h1
 obtain ⟨b0,b1⟩:=hp.app h0 h1
 refine hp.inv_tn.inj a0 a1 b0 b1 ?_
 rw [hp.inv_tn.app_inv h0 h1,hp.inv_app' h0 h1]
theorem xaC {n:Nat} {zs sq:List Int} (hz:Tn n zs) (hs:Tn n sq):anew zs (inv sq)=num zs sq:=by
 unfold anew num fol
 rw [hs.inv_inv,List.map_map]
 apply List.map_congr_left
 intro o ho
 obtain ⟨o0,o1⟩:=hs.bound ho
 obtain ⟨a0,a1⟩:=hz.app o0 o1
 exact Xa2 a0 (by rw [hs.length];exact a1)
theorem Zbv {n:Nat} {p:List Int} (hp:Tn n p):∀ {sq:List Int},(∀ x∈sq,0≤x∧x < (n:Int))→∀ {y:Int},0≤y→y < (n:Int)→(sq.map (app p)).idxOf (app p y)=sq.idxOf y
 | [],_,_,_,_=>rfl
 | a :: r,hb,y,y0,y1=>by
  obtain ⟨a0,a1⟩:=hb a List.mem_cons_self
  rw [List.map_cons,List.idxOf_cons,List.idxOf_cons,Zbv hp (fun x hx=>hb x (List.mem_cons_of_mem _ hx)) y0 y1]
  by_cases e:a=y
  ·rw [e];simp
  ·have e2:app p a≠app p y:=fun z=>e (hp.inj a0 a1 y0 y1 z)
   rw [show (a == y)=false by simpa using e,show (app p a == app p y)=false by simpa using e2]
theorem zaT {n:Nat} {zs sq p:List Int} (hz:Tn n zs) (hp:Tn n p) (hb:∀ x∈sq,0≤x∧x < (n:Int)):num (anew zs p) (sq.map (app p))=num zs sq:=by
 unfold num
 rw [List.map_map]
 apply List.map_congr_left
 intro o ho
 obtain ⟨o0,o1⟩:=hb o ho
 obtain ⟨a0,a1⟩:=hz.app o0 o1
 show ((sq.map (app p)).idxOf (app (anew zs p) (app p o)):Int)=_
 rw [hz.anew_at hp o0 o1,Zbv hp hb a0 a1]
end Mth
namespace Mth
noncomputable def pw (xs:List Int) (k i:Int):Int:=if 0≤k then itr xs i k.toNat else itr (inv xs) i (-k).toNat
section
variable {n:Nat} {xs:List Int} {i:Int}
theorem Tn.itr_inv (h:Tn n xs) (i0:0≤i) (i1:i < (n:Int)):∀ (k m:Nat),Mth.itr (inv xs) (Mth.itr xs i m) k=if k≤m then Mth.itr xs i (m - k) else Mth.itr (inv xs) i (k - m)
 | 0,m=>by rw [if_pos (Nat.zero_le _),Nat.sub_zero];rfl
 | k + 1,m=>by
  show Mth.app (inv xs) (Mth.itr (inv xs) (Mth.itr xs i m) k)=_
  rw [h.itr_inv i0 i1 k m]
  by_cases hk:k≤m
  ·rw [if_pos hk]
   by_cases hk1:k + 1≤m
   ·rw [if_pos hk1]
    obtain ⟨d,hd⟩:∃ d,m - k=d + 1:=⟨m - k - 1,by omega⟩
    rw [hd,show m - (k + 1)=d by omega]
    obtain ⟨a,b⟩:=h.itr i0 i1 d
    exact h.inv_app' a b
   ·rw [if_neg hk1,show m - k=0 by omega,show k + 1 - m=1 by omega]
    rfl
  ·rw [if_neg hk,if_neg (by omega),show k + 1 - m=(k - m) + 1 by omega]
   rfl
theorem Tn.itr_inv' (h:Tn n xs) (i0:0≤i) (i1:i < (n:Int)) (k m:Nat):Mth.itr xs (Mth.itr (inv xs) i m) k=if k≤m then Mth.itr (inv xs) i (m - k) else Mth.itr xs i (k - m):=by
 have:=h.inv_tn.itr_inv i0 i1 k m
 rw [h.inv_inv] at this
 exact this
theorem Tn.pw (h:Tn n xs) (i0:0≤i) (i1:i < (n:Int)) (k:Int):0≤Mth.pw xs k i∧Mth.pw xs k i < (n:Int):=by
 unfold Mth.pw
 split
 ·exact h.itr i0 i1 _
 ·exact h.inv_tn.itr i0 i1 _
theorem Tn.pw_add (h:Tn n xs) (i0:0≤i) (i1:i < (n:Int)) (a b:Int):Mth.pw xs a (Mth.pw xs b i)=Mth.pw xs (a + b) i:=by
 by_cases ha:0≤a <;> by_cases hb:0≤b
 ·unfold Mth.pw
  rw [if_pos ha,if_pos hb,if_pos (by omega),XaL]
  congr 1
  omega
 ·have e1:Mth.pw xs b i=Mth.itr (inv xs) i (-b).toNat:=by unfold Mth.pw;rw [if_neg hb]
  have e2:∀ j,Mth.pw xs a j=Mth.itr xs j a.toNat:=fun j=>by unfold Mth.pw;rw [if_pos ha]
  rw [e1,e2,h.itr_inv' i0 i1]
  unfold Mth.pw
  split
  ·split
   ·rw [show (-b).toNat - a.toNat=0 by omega,show (a + b).toNat=0 by omega];rfl
   ·congr 1;omega
  ·rw [if_pos (by omega)];congr 1;omega
 ·have e1:Mth.pw xs b i=Mth.itr xs i b.toNat:=by unfold Mth.pw;rw [if_pos hb]
  have e2:∀ j,Mth.pw xs a j=Mth.itr (inv xs) j (-a).toNat:=fun j=>by unfold Mth.pw;rw [if_neg ha]
  rw [e1,e2,h.itr_inv i0 i1]
  unfold Mth.pw
  split
  ·rw [if_pos (by omega)];congr 1;omega
  ·rw [if_neg (by omega)];congr 1;omega
 ·unfold Mth.pw
  rw [if_neg ha,if_neg hb,if_neg (by omega),XaL]
  congr 1
  omega
end
noncomputable def pws (xs:List Int) (k:Int):List Int:=(upto xs.length).map (pw xs k)
theorem zaQ (xs:List Int) (k:Int):(pws xs k).length=xs.length:=by simp [pws,Xae]
theorem zaJ {xs:List Int} {k s:Int} (s0:0≤s) (s1:s < (xs.length:Int)):app (pws xs k) s=pw xs k s:=by
 have e:=Xam (xs:=pws xs k) s0 (by rw [zaQ];exact s1)
 unfold pws at e
 rw [List.getElem?_map,XaN (by omega)] at e
 have:=Option.some.inj e
 rw [Int.toNat_of_nonneg s0] at this
 exact this.symm
theorem Tn.pws {n:Nat} {xs:List Int} (h:Tn n xs) (k:Int):Tn n (pws xs k):=by
 have hl:=h.length
 refine Tn.of_inj (by rw [zaQ];exact hl) (fun s s0 s1=>by rw [zaJ s0 (by omega)];exact h.pw s0 s1 k) fun s t s0 s1 t0 t1 e=>?_
 rw [zaJ s0 (by omega),zaJ t0 (by omega)] at e
 have e2:=congrArg (Mth.pw xs (-k)) e
 rw [h.pw_add s0 s1,h.pw_add t0 t1,Int.add_left_neg] at e2
 exact e2
noncomputable def shr (xs ys:List Int) (k:Int):List Int:=fol (pws xs (-k)) ys
theorem Tn.shr {n:Nat} {xs ys:List Int} (hx:Tn n xs) (hy:Tn n ys) (k:Int):Tn n (shr xs ys k):=(hx.pws (-k)).fol hy
end Mth
namespace Mth
noncomputable def tb (l:Int→Nat) (p:Int→Int) (a b:Int):Bool:=if l a=l b∨l (p a)=l (p b) then false else (decide (l a < l b)).xor (decide (l (p a) < l (p b)))
section
variable {n:Nat} {L:List Int} {l:Int→Nat}
end
end Mth
namespace Mth
end Mth
namespace Mth
abbrev Sp:=Bool×Int
structure T4 where (a b c d:Int)
theorem t3 {k:Int} (h:1≤k∧k≤3):k=1∨k=2∨k=3:=by omega
end Mth
namespace Mth
noncomputable def ltL:List Int→List Int→Bool
 | [],[]=>false
 | [],_ :: _=>true
 | _ :: _,[]=>false
 | x :: xs,y :: ys=>if x=y then ltL xs ys else decide (x < y)
theorem Ya3:∀ xs:List Int,ltL xs xs=false
 | []=>rfl
 | x :: xs=>by unfold ltL;rw [if_pos rfl];exact Ya3 xs
theorem xaV:∀ {xs ys zs:List Int},ltL xs ys=true→ltL ys zs=true→ltL xs zs=true
 | [],[],_,h,_=>by cases h
 | [],_ :: _,[],_,h=>by cases h
 | [],_ :: _,_ :: _,_,_=>rfl
 | _ :: _,[],_,h,_=>by cases h
 | _ :: _,_ :: _,[],_,h=>by cases h
 | x :: xs,y :: ys,z :: zs,h1,h2=>by
  unfold ltL at h1 h2 ⊢
  by_cases a:x=y
  ·rw [if_pos a] at h1
   by_cases b:y=z
   ·rw [if_pos b] at h2
    rw [if_pos (a.trans b)];exact xaV h1 h2
   ·rw [if_neg b] at h2
    rw [if_neg (fun e=>b (a.symm.trans e))]
    rw [a];exact h2
  ·rw [if_neg a] at h1
   have h1:=of_decide_eq_true h1
   by_cases b:y=z
   ·rw [← b,if_neg a];exact decide_eq_true h1
   ·rw [if_neg b] at h2
    have h2:=of_decide_eq_true h2
    rw [if_neg (by omega)];exact decide_eq_true (by omega)
theorem zbf:∀ {xs ys:List Int},ltL xs ys=false→ltL ys xs=false→xs=ys
 | [],[],_,_=>rfl
 | [],_ :: _,h,_=>by cases h
 | _ :: _,[],_,h=>by cases h
 | x :: xs,y :: ys,h1,h2=>by
  unfold ltL at h1 h2
  by_cases a:x=y
  ·subst a
   rw [if_pos rfl] at h1 h2
   rw [zbf h1 h2]
  ·rw [if_neg a] at h1
   rw [if_neg (Ne.symm a)] at h2
   have h1:=of_decide_eq_false h1
   have h2:=of_decide_eq_false h2
   omega
abbrev Flo:=List Int×List Int
noncomputable def ltF (p q:Flo):Bool:=if p.1=q.1 then ltL p.2 q.2 else ltL p.1 q.1
theorem Ybv (p:Flo):ltF p p=false:=by unfold ltF;rw [if_pos rfl];exact Ya3 _
theorem xbv {p q r:Flo} (h1:ltF p q=true) (h2:ltF q r=true):ltF p r=true:=by
 unfold ltF at h1 h2 ⊢
 by_cases a:p.1=q.1
 ·rw [if_pos a] at h1
  by_cases b:q.1=r.1
  ·rw [if_pos b] at h2
   rw [if_pos (a.trans b)];exact xaV h1 h2
  ·rw [if_neg b] at h2
   rw [if_neg (fun e=>b (a.symm.trans e)),a];exact h2
 ·rw [if_neg a] at h1
  by_cases b:q.1=r.1
  ·rw [← b,if_neg a];exact h1
  ·rw [if_neg b] at h2
   have h:=xaV h1 h2
   rw [if_neg (fun e=>by rw [e,Ya3] at h;cases h)];exact h
theorem xbV {p q:Flo} (h1:ltF p q=false) (h2:ltF q p=false):p=q:=by
 unfold ltF at h1 h2
 by_cases a:p.1=q.1
 ·rw [if_pos a] at h1
  rw [if_pos a.symm] at h2
  exact Prod.ext a (zbf h1 h2)
 ·rw [if_neg a] at h1
  rw [if_neg (Ne.symm a)] at h2
  exact absurd (zbf h1 h2) a
noncomputable def minF:List Flo→Flo
 | []=>([],[])
 | p :: l=>l.foldl (fun b q=>if ltF q b then q else b) p
noncomputable def Lst (l:List Flo) (p:Flo):Prop:=p∈l∧∀ q∈l,ltF q p=false
theorem Lst.unique {l m:List Flo} {p q:Flo} (a:Lst l p) (b:Lst m q) (h:∀ x,x∈l↔x∈m):p=q:=xbV (b.2 p ((h p).mp a.1)) (a.2 q ((h q).mpr b.1))
theorem Lst.step {l:List Flo} {b q:Flo} (h:Lst l b):Lst (l ++ [q]) (if ltF q b then q else b):=by
 split
 ·next hq =>
  refine ⟨List.mem_append_right _ (List.mem_singleton_self _),fun x hx=>?_⟩
  rcases List.mem_append.mp hx with hx | hx
  ·cases hxq:ltF x q with
   | false=>rfl
   | true=>have:=xbv hxq hq;rw [h.2 x hx] at this;cases this
  ·rw [List.mem_singleton.mp hx];exact Ybv q
 ·next hq =>
  refine ⟨List.mem_append_left _ h.1,fun x hx=>?_⟩
  rcases List.mem_append.mp hx with hx | hx
  ·exact h.2 x hx
  ·rw [List.mem_singleton.mp hx];simpa using hq
theorem Lst.fold:∀ (l pre:List Flo) (b:Flo),Lst pre b→Lst (pre ++ l) (l.foldl (fun b q=>if ltF q b then q else b) b)
 | [],pre,b,h=>by rw [List.append_nil];exact h
 | q :: l,pre,b,h=>by
  have:=Lst.fold l (pre ++ [q]) _ (h.step (q:=q))
  rw [List.append_assoc] at this
  exact this
theorem xa3 {l:List Flo} (h:l≠[]):Lst l (minF l):=by
 cases l with
 | nil=>exact absurd rfl h
 | cons p l=>exact Lst.fold l [p] p ⟨List.mem_singleton_self _,fun q hq=>by rw [List.mem_singleton.mp hq];exact Ybv p⟩
theorem XbV {l m:List Flo} (h:∀ x,x∈l↔x∈m) (hl:l≠[]):minF l=minF m:=by
 have hm:m≠[]:=fun e=>by
  obtain ⟨x,hx⟩:=List.exists_mem_of_ne_nil l hl
  have:=(h x).mp hx
  rw [e] at this
  cases this
 exact (xa3 hl).unique (xa3 hm) h
end Mth
namespace Mth
theorem zbW (n:Nat):Tn n (upto n):=List.Perm.refl _
theorem xbj {n:Nat} {s:Int} (s0:0≤s) (s1:s < (n:Int)):app (upto n) s=s:=by
 unfold app
 rw [List.getD_eq_getElem?_getD,XaN (by omega),Option.getD_some];omega
section
variable {n:Nat} {a b c g x y:List Int}
theorem ybW (hx:Tn n x) (i j:Int):fol (pws x i) (pws x j)=pws x (i + j):=by
 refine XaI (n:=n) ((hx.pws i).fol (hx.pws j)).length (hx.pws (i + j)).length fun s s0 s1=>?_
 obtain ⟨p0,p1⟩:=hx.pw s0 s1 i
 have hl:=hx.length
 rw [xaA s0 (by rw [zaQ,hl];exact s1),zaJ s0 (by rw [hl];exact s1),zaJ p0 (by rw [hl];exact p1),zaJ s0 (by rw [hl];exact s1),hx.pw_add s0 s1,Int.add_comm j i]
theorem pws_0 (hx:Tn n x):pws x 0=upto n:=by
 refine XaI (n:=n) (hx.pws 0).length (zbW n).length fun s s0 s1=>?_
 rw [zaJ s0 (by rw [hx.length];exact s1),xbj s0 s1];rfl
end
noncomputable def Vf (n:Nat) (p:Flo):Prop:=Tn n p.1∧Tn n p.2
noncomputable def Alk (n:Nat) (p q:Flo):Prop:=∃ g,Tn n g∧q=(anew p.1 g,anew p.2 g)
noncomputable def Sh (k:Int) (p:Flo):Flo:=(p.1,shr p.1 p.2 k)
noncomputable def Qt (p:Flo):Flo:=(inv p.2,p.1)
section
variable {n:Nat} {p q r:Flo}
theorem Vf.sh (h:Vf n p) (k:Int):Vf n (Sh k p):=⟨h.1,h.1.shr h.2 k⟩
theorem Vf.qt (h:Vf n p):Vf n (Qt p):=⟨h.2.inv_tn,h.1⟩
end
noncomputable def tS (k:Int):T4:=⟨1,k,0,1⟩
section
variable {n:Nat} {p q r:Flo}
noncomputable def big:List Int→Prop
 | []=>True
 | [_]=>True
 | j :: b :: ks=>(2≤j∨j≤-2)∧big (b :: ks)
end
section
variable {n:Nat} {p q:Flo}
end
noncomputable def nbF (p:Flo) (n:Nat) (s:Int):Flo:=(num p.1 (bf p.1 p.2 s n),num p.2 (bf p.1 p.2 s n))
noncomputable def fmF (n:Nat) (p:Flo):Flo:=minF ((upto n).map (nbF p n))
theorem Xa3 {n:Nat} {p q:Flo} (n0:0 < n) (h:Vf n p) (a:Alk n p q):fmF n p=fmF n q:=by
 obtain ⟨g,hg,rfl⟩:=a
 have key:∀ s:Int,0≤s→s < (n:Int)→nbF (anew p.1 g,anew p.2 g) n (app g s)=nbF p n s:=fun s s0 s1=>by
  show (num (anew p.1 g) (bf (anew p.1 g) (anew p.2 g) (app g s) n),num (anew p.2 g) (bf (anew p.1 g) (anew p.2 g) (app g s) n))=_
  have hb:=yam h.1 h.2 s0 s1 n
  rw [Za3 h.1 h.2 hg s0 s1 n,zaT h.1 hg hb,zaT h.2 hg hb]
  rfl
 refine XbV (fun x=>?_) (fun e=>?_)
 ·constructor
  ·intro hx
   obtain ⟨s,hs,rfl⟩:=List.mem_map.mp hx
   obtain ⟨s0,s1⟩:=Xag.mp hs
   exact List.mem_map.mpr ⟨app g s,Xag.mpr (hg.app s0 s1),key s s0 s1⟩
  ·intro hx
   obtain ⟨t,ht,rfl⟩:=List.mem_map.mp hx
   obtain ⟨t0,t1⟩:=Xag.mp ht
   obtain ⟨p0,p1⟩:=hg.invB t0 t1
   refine List.mem_map.mpr ⟨app (inv g) t,Xag.mpr ⟨p0,p1⟩,?_⟩
   have:=key (app (inv g) t) p0 p1
   rw [hg.app_inv t0 t1] at this
   exact this.symm
 ·have:=congrArg List.length e
  rw [List.length_map,Xae] at this
  simp at this
  omega
end Mth
namespace Mth
section
variable {n:Nat} {p q:Flo} {g h:List Int} {s t:Int}
structure Wh (n:Nat) (p:Flo):Prop where
 v:Vf n p
 all:∀ x:Int,0≤x→x < (n:Int)→Rch p.1 p.2 x
theorem Wh.bf (w:Wh n p) (s0:0≤s) (s1:s < (n:Int)):Tn n (bf p.1 p.2 s n):=xbI w.v.1 w.v.2 s0 s1 w.all
theorem Xbv (xs ys:List Int) (s:Int) (n:Nat):app (bf xs ys s n) 0=s:=by
 have:=ZaV xs ys s 0 n
 rw [Nat.zero_add] at this
 obtain ⟨t,e⟩:=this
 rw [← e]
 rfl
noncomputable def gF (p q:Flo) (n:Nat) (s t:Int):List Int:=fol (inv (bf p.1 p.2 s n)) (bf q.1 q.2 t n)
noncomputable def Cg (n:Nat) (p q:Flo) (g:List Int):Prop:=Tn n g∧q=(anew p.1 g,anew p.2 g)
theorem gF_of (wp:Wh n p) (wq:Wh n q) (s0:0≤s) (s1:s < (n:Int)) (t0:0≤t) (t1:t < (n:Int)) (e:nbF p n s=nbF q n t):Cg n p q (gF p q n s t)∧app (gF p q n s t) s=t:=by
 have tb:=wp.bf s0 s1
 have tc:=wq.bf t0 t1
 have n0:0 < n:=by omega
 refine ⟨⟨tb.inv_tn.fol tc,?_⟩,?_⟩
 ·unfold nbF at e
  have e1:=congrArg Prod.fst e
  have e2:=congrArg Prod.snd e
  simp only at e1 e2
  rw [← xaC wp.v.1 tb,← xaC wq.v.1 tc] at e1
  rw [← xaC wp.v.2 tb,← xaC wq.v.2 tc] at e2
  have go:∀ {a b:List Int},Tn n a→Tn n b→anew a (inv (bf p.1 p.2 s n))=anew b (inv (bf q.1 q.2 t n))→b=anew a (gF p q n s t):=fun {a b} ta tb' e=>by
   unfold gF
   rw [← Tn.anew_anew ta tb.inv_tn tc,e]
   have:=Tn.anew_back tb' tc.inv_tn
   rw [tc.inv_inv] at this
   exact this.symm
  exact Prod.ext (go wp.v.1 wq.v.1 e1) (go wp.v.2 wq.v.2 e2)
 ·unfold gF
  rw [xaA s0 (by rw [yaE,tb.length];exact s1)]
  have:app (inv (bf p.1 p.2 s n)) s=0:=by
   have:=tb.inv_app' (i:=0) (by decide) (by omega)
   rw [Xbv] at this
   exact this
  rw [this,Xbv]
theorem nb_of (v:Vf n p) (c:Cg n p q g) (s0:0≤s) (s1:s < (n:Int)):nbF q n (app g s)=nbF p n s:=by
 obtain ⟨tg,rfl⟩:=c
 unfold nbF
 have hb:=yam v.1 v.2 s0 s1 n
 show (num (anew p.1 g) (bf (anew p.1 g) (anew p.2 g) (app g s) n),num (anew p.2 g) (bf (anew p.1 g) (anew p.2 g) (app g s) n))=_
 rw [Za3 v.1 v.2 tg s0 s1 n,zaT v.1 tg hb,zaT v.2 tg hb]
theorem ZbW (n:Nat):(upto n).Nodup:=by
 unfold upto
 refine List.Pairwise.map _ (fun a b h e=>h ?_) List.nodup_range
 exact Int.ofNat.inj e
theorem ybo (wp:Wh n p) (wq:Wh n q) (n0:0 < n) (s0:0≤s) (s1:s < (n:Int)) (h0:app g 0=s) (hc:∀ h,Cg n p q h→app h 0=s→g=h) :
  (Cg n p q g↔nbF q n s=nbF p n 0)∧(nbF q n s=nbF p n 0→g=gF p q n 0 s):=by
 have a:nbF q n s=nbF p n 0→g=gF p q n 0 s∧Cg n p q g:=fun e=>by
  obtain ⟨c,f⟩:=gF_of wp wq (s:=0) (by decide) (by omega) s0 s1 e.symm
  have:=hc _ c f
  exact ⟨this,by rw [this];exact c⟩
 refine ⟨⟨fun c=>?_,fun e=>(a e).2⟩,fun e=>(a e).1⟩
 have:=nb_of wp.v c (s:=0) (by decide) (by omega)
 rw [h0] at this
 exact this
theorem Xbj (xs ys:List Int):∀ k,∀ y∈bf xs ys 0 k,Rch xs ys y
 | 0,y,hy=>by rw [List.mem_singleton.mp (show y∈[(0:Int)] from hy)];exact .zero
 | k + 1,y,hy=>by
  have hy':y∈(match (bf xs ys 0 k)[k]? with | some x=>visit xs ys (bf xs ys 0 k) x | none=>bf xs ys 0 k):=hy
  split at hy'
  ·next z hz =>
   have hzr:=Xbj xs ys k z (List.mem_of_getElem? hz)
   rcases Yai.mp hy' with hy' | rfl
   ·rcases Yai.mp hy' with hy' | rfl
    ·exact Xbj xs ys k y hy'
    ·exact hzr.r
   ·exact hzr.u
  ·exact Xbj xs ys k y hy'
theorem wh_of (w:Wh n p) (v:Vf n q) (n0:0 < n) (h:∀ F:List Int,F.Nodup→(∀ x∈F,0≤x∧x < (n:Int))→Cl q.1 q.2 F→Cl p.1 p.2 F):Wh n q:=by
 refine ⟨v,fun x x0 x1=>Xbj q.1 q.2 n x ?_⟩
 have c:=h (bf q.1 q.2 0 n) (ZaG _ _ _ _) (yam v.1 v.2 (by decide) (by omega) n) (YbV v.1 v.2 (by decide) (by omega))
 refine c.all ?_ (w.all x x0 x1)
 have:=ZaV q.1 q.2 0 0 n
 rw [Nat.zero_add] at this
 exact this.subset (show (0:Int)∈[(0:Int)] by simp)
theorem ybP {zs F:List Int} (hz:Tn n zs) (nd:F.Nodup) (hb:∀ x∈F,0≤x∧x < (n:Int)) (hc:∀ x∈F,app zs x∈F):∀ x∈F,app (inv zs) x∈F:=fun x hx=>by
 obtain ⟨x0,x1⟩:=hb x hx
 obtain ⟨a0,a1⟩:=hz.invB x0 x1
 exact YaV hz nd hb hc a0 a1 (by rw [hz.app_inv x0 x1];exact hx)
theorem zbw {zs F:List Int} (hc:∀ x∈F,app zs x∈F) {x:Int} (hx:x∈F):∀ k,itr zs x k∈F
 | 0=>hx
 | k + 1=>hc _ (zbw hc hx k)
theorem cl_pw {zs F:List Int} (hz:Tn n zs) (nd:F.Nodup) (hb:∀ x∈F,0≤x∧x < (n:Int)) (hc:∀ x∈F,app zs x∈F) (k:Int) {x:Int} (hx:x∈F):pw zs k x∈F:=by
 unfold pw
 split
 ·exact zbw hc hx _
 ·exact zbw (ybP hz nd hb hc) hx _
theorem Wh.sh (w:Wh n p) (n0:0 < n) (k:Int):Wh n (Sh k p):=by
 refine wh_of w (w.v.sh k) n0 fun F nd hb hc x hx=>⟨(hc x hx).1,?_⟩
 obtain ⟨x0,x1⟩:=hb x hx
 have h1:∀ x∈F,app p.1 x∈F:=fun x hx=>(hc x hx).1
 have hy:=cl_pw w.v.1 nd hb h1 k hx
 have:=(hc _ hy).2
 obtain ⟨y0,y1⟩:=hb _ hy
 have e:app (Sh k p).2 (pw p.1 k x)=app p.2 x:=by
  show app (shr p.1 p.2 k) (pw p.1 k x)=_
  unfold shr
  have hlen:(pws p.1 (-k)).length=n:=(w.v.1.pws (-k)).length
  rw [xaA y0 (by rw [hlen];exact y1)]
  congr 1
  have e3:=ybW w.v.1 k (-k)
  rw [Int.add_right_neg,pws_0 w.v.1] at e3
  have e4:app (fol (pws p.1 k) (pws p.1 (-k))) x=app (upto n) x:=by rw [e3]
  rw [xbj x0 x1,xaA x0 (by rw [(w.v.1.pws k).length];exact x1)] at e4
  have e5:app (pws p.1 k) x=pw p.1 k x:=zaJ x0 (by rw [w.v.1.length];exact x1)
  rw [e5] at e4
  exact e4
 rw [e] at this
 exact this
theorem Wh.qt (w:Wh n p) (n0:0 < n):Wh n (Qt p):=by
 refine wh_of w w.v.qt n0 fun F nd hb hc x hx=>⟨(hc x hx).2,?_⟩
 have:=ybP w.v.2.inv_tn nd hb (fun x hx=>(hc x hx).1) x hx
 rw [w.v.2.inv_inv] at this
 exact this
noncomputable def Od (xs ys F:List Int):Prop:=F[0]?=some 0∧∀ (k:Nat) (y:Int),F[k + 1]?=some y→∃ (j:Nat) (x:Int),j≤k∧F[j]?=some x∧(y=app xs x∨y=app ys x)
theorem Od.one (xs ys:List Int):Od xs ys [0]:=⟨rfl,fun k y h=>by cases h⟩
theorem Od.snoc {xs ys F:List Int} {x y:Int} (h:Od xs ys F) (hx:x∈F) (hy:y=app xs x∨y=app ys x):Od xs ys (F ++ [y]):=by
 have hl:0 < F.length:=List.length_pos_of_mem hx
 refine ⟨by rw [List.getElem?_append_left hl];exact h.1,fun k z hz=>?_⟩
 by_cases hk:k + 1 < F.length
 ·rw [List.getElem?_append_left hk] at hz
  obtain ⟨j,x',hj,hx',e⟩:=h.2 k z hz
  exact ⟨j,x',hj,by rw [List.getElem?_append_left (by omega)];exact hx',e⟩
 ·rw [List.getElem?_append_right (by omega)] at hz
  have hz:z=y:=by
   cases h3:k + 1 - F.length with
   | zero=>rw [h3] at hz;cases hz;rfl
   | succ m=>rw [h3] at hz;cases hz
  obtain ⟨j,hj,e⟩:=List.getElem_of_mem hx
  have hkl:k + 1=F.length∨F.length < k + 1:=by omega
  refine ⟨j,x,by omega,by rw [List.getElem?_append_left hj,List.getElem?_eq_getElem hj,e],by rw [hz];exact hy⟩
structure Fo (xs ys F:List Int):Prop extends Fd xs ys F where
 od:Od xs ys F
theorem Fo.one (xs ys:List Int):Fo xs ys [0]:=⟨Fd.one xs ys,Od.one xs ys⟩
end
end Mth
namespace L4
open PySem PySem.Spec L2
inductive D where
 | non | bl (b:Bool) | int (i:Int) | str (x:Str) | ty (n:String) | tup (ds:List D) | ref (i:Nat)
instance:Inhabited D:=⟨.non⟩
inductive O where
 | lst (ds:List D) | fzn (ds:List D) | dct (kvs:List (Key×D)) | rng (lo hi:Int)
abbrev Store:=List O
abbrev DSt:=List (Option D)
abbrev Dm (α:Type):=Store→Option (α×Store)
inductive Fl where
 | nx (δ:DSt) | bk (δ:DSt) | ct (δ:DSt) | rt (d:D)
mutual
inductive Rp (K:PySem.W.Frag) (ρ:List Addr) (H:Hp):V→D→Prop
 | non:Rp K ρ H .non .non
 | bl (b:Bool):Rp K ρ H (.bl b) (.bl b)
 | int (i:Int):Rp K ρ H (.int i) (.int i)
 | str (x:Str):Rp K ρ H (.str x) (.str x)
 | ty (n:String):Rp K ρ H (.ty n) (.ty n)
 | ref {a:Addr} {i:Nat}:ρ[i]?=some a→Rp K ρ H (.ref a) (.ref i)
 | tup {a:Addr} {vs:List V} {ds:List D}:SqT K H a vs→Rps K ρ H vs ds→Rp K ρ H (.ref a) (.tup ds)
inductive Rps (K:PySem.W.Frag) (ρ:List Addr) (H:Hp):List V→List D→Prop
 | nil:Rps K ρ H [] []
 | cons {v:V} {vs:List V} {d:D} {ds:List D}:Rp K ρ H v d→Rps K ρ H vs ds→Rps K ρ H (v :: vs) (d :: ds)
end
structure Mn (K:PySem.W.Frag) (ρ:List Addr) (H:Hp) (ρ':List Addr) (H':Hp):Prop where
 r:∀ (i:Nat) (a:Addr),ρ[i]?=some a→ρ'[i]?=some a
 t:∀ a vs,SqT K H a vs→SqT K H' a vs
section
variable {K:PySem.W.Frag} {ρ ρ' ρ2:List Addr} {H H' H2:Hp}
theorem Mn.refl:Mn K ρ H ρ H:=⟨fun _ _ h=>h,fun _ _ h=>h⟩
theorem Mn.trans (m:Mn K ρ H ρ' H') (n:Mn K ρ' H' ρ2 H2):Mn K ρ H ρ2 H2:=⟨fun i a h=>n.r i a (m.r i a h),fun a vs h=>n.t a vs (m.t a vs h)⟩
mutual
theorem Rp.mn (m:Mn K ρ H ρ' H'):∀ {v:V} {d:D},Rp K ρ H v d→Rp K ρ' H' v d
 | _,_,.non=>.non
 | _,_,.bl b=>.bl b
 | _,_,.int i=>.int i
 | _,_,.str x=>.str x
 | _,_,.ty n=>.ty n
 | _,_,.ref e=>.ref (m.r _ _ e)
 | _,_,.tup q r=>.tup (m.t _ _ q) (Rps.mn m r)
theorem Rps.mn (m:Mn K ρ H ρ' H'):∀ {vs:List V} {ds:List D},Rps K ρ H vs ds→Rps K ρ' H' vs ds
 | _,_,.nil=>.nil
 | _,_,.cons a b=>.cons (Rp.mn m a) (Rps.mn m b)
end
theorem Rps.length:∀ {vs:List V} {ds:List D},Rps K ρ H vs ds→vs.length=ds.length
 | _,_,.nil=>rfl
 | _,_,.cons _ r=>by rw [List.length_cons,List.length_cons,r.length]
theorem Rps.got:∀ {vs:List V} {ds:List D},Rps K ρ H vs ds→∀ {i:Nat} {d:D},ds[i]?=some d→∃ v,vs[i]?=some v∧Rp K ρ H v d
 | _,_,.nil,i,v,e=>by simp at e
 | _,_,.cons (v:=v) a b,0,d,e=>⟨v,by simp,by have:_=d:=Option.some.inj (by simpa using e);rw [← this];exact a⟩
 | _,_,.cons a b,i + 1,d,e=>by
  obtain ⟨v,e1,r⟩:=Rps.got b (i:=i) (by simpa using e)
  exact ⟨v,by simpa using e1,r⟩
theorem Rps.append:∀ {vs:List V} {ds:List D} {ws:List V} {es:List D},Rps K ρ H vs ds→Rps K ρ H ws es→Rps K ρ H (vs ++ ws) (ds ++ es)
 | _,_,_,_,.nil,s=>s
 | _,_,_,_,.cons a b,s=>.cons a (Rps.append b s)
theorem Rps.one {v:V} {d:D} (r:Rp K ρ H v d):Rps K ρ H [v] [d]:=.cons r .nil
theorem Rps.take:∀ {vs:List V} {ds:List D} (n:Nat),Rps K ρ H vs ds→Rps K ρ H (vs.take n) (ds.take n)
 | _,_,0,_=>.nil
 | _,_,_ + 1,.nil=>.nil
 | _,_,n + 1,.cons r t=>.cons r (Rps.take n t)
theorem Rps.drop:∀ {vs:List V} {ds:List D} (n:Nat),Rps K ρ H vs ds→Rps K ρ H (vs.drop n) (ds.drop n)
 | _,_,0,r=>r
 | _,_,_ + 1,.nil=>.nil
 | _,_,n + 1,.cons _ t=>Rps.drop n t
theorem Rps.set {v:V} {d:D} (r:Rp K ρ H v d):∀ {vs:List V} {ds:List D} (i:Nat),Rps K ρ H vs ds→Rps K ρ H (vs.set i v) (ds.set i d)
 | _,_,_,.nil=>.nil
 | _,_,0,.cons _ t=>.cons r t
 | _,_,i + 1,.cons q t=>.cons q (Rps.set r i t)
theorem Rps.erase:∀ {vs:List V} {ds:List D} (i:Nat),Rps K ρ H vs ds→Rps K ρ H (vs.eraseIdx i) (ds.eraseIdx i)
 | _,_,_,.nil=>.nil
 | _,_,0,.cons _ t=>t
 | _,_,i + 1,.cons q t=>.cons q (Rps.erase i t)
theorem Rps.flat {vs:List V} {ds:List D} (r:Rps K ρ H vs ds):∀ n:Nat,Rps K ρ H (List.replicate n vs).flatten (List.replicate n ds).flatten
 | 0=>.nil
 | n + 1=>by rw [List.replicate_succ,List.replicate_succ,List.flatten_cons,List.flatten_cons];exact r.append (r.flat n)
theorem Rps.ints:∀ (ns:List Int),Rps K ρ H (ns.map V.int) (ns.map D.int)
 | []=>.nil
 | n :: r=>.cons (.int n) (Rps.ints r)
end
noncomputable def Rs (K:PySem.W.Frag) (ρ:List Addr) (H:Hp) (σ:St) (δ:DSt):Prop:=σ.length=δ.length∧∀ (i:Nat) (d:D),δ[i]?=some (some d)→∃ v,σ[i]?=some (some v)∧Rp K ρ H v d
noncomputable def Rk (K:PySem.W.Frag) (ρ:List Addr) (H:Hp):List (Key×V)→List (Key×D)→Prop:=Paired fun p q=>p.1=q.1∧Rp K ρ H p.2 q.2
noncomputable def RpO (K:PySem.W.Frag) (ρ:List Addr) (H:Hp) (a:Addr):O→Prop
 | .lst ds=>∃ vs,H a=some (.lst vs)∧Rps K ρ H vs ds
 | .fzn ds=>∃ vs,SqF K H a vs∧Rps K ρ H vs ds
 | .dct kvs=>∃ ws,H a=some (.dK ws)∧Rk K ρ H ws kvs
 | .rng lo hi=>H a=some (.rng lo hi)
noncomputable def O.mut:O→Bool
 | .fzn _=>false
 | _=>true
structure Rl (K:PySem.W.Frag) (ρ:List Addr) (H:Hp) (st:Store):Prop where
 len:ρ.length=st.length
 nd:∀ (i j:Nat) (a:Addr) (o o':O),ρ[i]?=some a→ρ[j]?=some a→st[i]?=some o→st[j]?=some o'→o.mut=true→o'.mut=true→i=j
 obj:∀ (i:Nat) (a:Addr) (o:O),ρ[i]?=some a→st[i]?=some o→RpO K ρ H a o
section
variable {K:PySem.W.Frag} {ρ ρ' ρ2:List Addr} {H H' H2:Hp} {st st':Store} {a p:Addr} {i:Nat} {o o':O} {ho:HO} {σ:St} {δ:DSt}
theorem Rs.mn (h:Rs K ρ H σ δ) (m:Mn K ρ H ρ' H'):Rs K ρ' H' σ δ:=⟨h.1,fun i d e=>let ⟨v,e1,r⟩:=h.2 i d e;⟨v,e1,r.mn m⟩⟩
theorem Rk.mn (m:Mn K ρ H ρ' H') {ws:List (Key×V)} {kvs:List (Key×D)} (h:Rk K ρ H ws kvs):Rk K ρ' H' ws kvs:=by
 induction h with
 | nil=>exact .nil
 | cons a _ ih=>exact .cons ⟨a.1,a.2.mn m⟩ ih
theorem RpO.keep (m:Mn K ρ H ρ' H') (h:∀ u,H a=some u→H' a=some u) (r:RpO K ρ H a o):RpO K ρ' H' a o:=by
 cases o with
 | lst ds=>obtain ⟨vs,e,q⟩:=r;exact ⟨vs,h _ e,q.mn m⟩
 | fzn ds =>
  obtain ⟨vs,e,q⟩:=r
  refine ⟨vs,?_,q.mn m⟩
  rcases e with ⟨u,e⟩ | e
  ·exact .inl ⟨u,h _ e⟩
  ·exact .inr e
 | dct kvs=>obtain ⟨ws,e,q⟩:=r;exact ⟨ws,h _ e,q.mn m⟩
 | rng lo hi=>exact h _ r
theorem Mn.same (s:Same H H'):Mn K ρ H ρ H':=⟨fun _ _ h=>h,fun _ _ h=>(Kp.of_same (ch:=[]) s).sqT h⟩
theorem Rl.same (l:Rl K ρ H st) (s:Same H H'):Rl K ρ H' st:=⟨l.len,l.nd,fun i a o h1 h2=>(l.obj i a o h1 h2).keep (Mn.same s) fun u e=>s _ _ e⟩
theorem Rl.at (l:Rl K ρ H st) (h1:ρ[i]?=some a) (h2:st[i]?=some o) (hm:o.mut=true):∃ u,H a=some u∧∀ x y,u≠.frz x y:=by
 have r:=l.obj i a o h1 h2
 cases o with
 | lst ds=>obtain ⟨vs,e,_⟩:=r;exact ⟨_,e,fun x y z=>nomatch z⟩
 | fzn ds=>cases hm
 | dct kvs=>obtain ⟨ws,e,_⟩:=r;exact ⟨_,e,fun x y z=>nomatch z⟩
 | rng lo hi=>exact ⟨_,r,fun x y z=>nomatch z⟩
theorem Mn.new (hp:H p=none):Mn K ρ H (ρ ++ [p]) (upd H p ho):=⟨fun i a h=>by
  obtain ⟨hi,_⟩:=List.getElem?_eq_some_iff.mp h
  rw [List.getElem?_append_left hi];exact h,fun _ _ h=>(Kp.of_same (ch:=[]) (Same.up hp)).sqT h⟩
theorem Rl.new (l:Rl K ρ H st) (hp:H p=none) (mk:RpO K (ρ ++ [p]) (upd H p ho) p o):Rl K (ρ ++ [p]) (upd H p ho) (st ++ [o]):=by
 have m:Mn K ρ H (ρ ++ [p]) (upd H p ho):=Mn.new hp
 have split:∀ (i:Nat) (a:Addr) (o':O),(ρ ++ [p])[i]?=some a→(st ++ [o])[i]?=some o'→(ρ[i]?=some a∧st[i]?=some o')∨(i=ρ.length∧a=p∧o'=o):=fun i a o' h1 h2=>by
  by_cases hi:i < ρ.length
  ·rw [List.getElem?_append_left hi] at h1
   rw [List.getElem?_append_left (by rw [← l.len];exact hi)] at h2
   exact .inl ⟨h1,h2⟩
  ·obtain ⟨hb,_⟩:=List.getElem?_eq_some_iff.mp h1
   rw [List.length_append,List.length_singleton] at hb
   have e:i=ρ.length:=by omega
   subst e
   rw [List.getElem?_append_right (Nat.le_refl _),Nat.sub_self] at h1
   rw [l.len,List.getElem?_append_right (Nat.le_refl _),Nat.sub_self] at h2
   exact .inr ⟨rfl,(Option.some.inj h1).symm,(Option.some.inj h2).symm⟩
 refine ⟨by rw [List.length_append,List.length_append,l.len];rfl,fun i j a u u' h1 h2 h3 h4 m1 m2=>?_,fun i a u h1 h2=>?_⟩
 ·rcases split i a u h1 h3 with ⟨g1,g2⟩ | ⟨rfl,rfl,rfl⟩ <;> rcases split j _ u' h2 h4 with ⟨k1,k2⟩ | ⟨k1,k2,k3⟩
  ·exact l.nd i j a u u' g1 k1 g2 k2 m1 m2
  ·subst k2
   obtain ⟨w,e,_⟩:=l.at g1 g2 m1
   rw [e] at hp;cases hp
  ·obtain ⟨w,e,_⟩:=l.at k1 k2 m2
   rw [e] at hp;cases hp
  ·exact k1.symm
 ·rcases split i a u h1 h2 with ⟨g1,g2⟩ | ⟨rfl,rfl,rfl⟩
  ·exact (l.obj i a u g1 g2).keep m fun w e=>Same.up hp _ _ e
  ·exact mk
theorem Rl.put (l:Rl K ρ H st) (hi:ρ[i]?=some a) (hs:st[i]?=some o) (hm:o.mut=true) (hm':o'.mut=true) (m:Mn K ρ H ρ (upd H a ho)) (r:RpO K ρ (upd H a ho) a o'):Rl K ρ (upd H a ho) (st.set i o'):=by
 obtain ⟨w,ew,nf⟩:=l.at hi hs hm
 have ils:i < st.length:=(List.getElem?_eq_some_iff.mp hs).1
 have old:∀ (j:Nat) (u:O),(st.set i o')[j]?=some u→(j=i∧u=o')∨(j≠i∧st[j]?=some u):=fun j u h=>by
  by_cases hj:i=j
  ·subst hj
   rw [List.getElem?_set_self ils] at h
   exact .inl ⟨rfl,(Option.some.inj h).symm⟩
  ·rw [List.getElem?_set_ne hj] at h
   exact .inr ⟨fun z=>hj z.symm,h⟩
 refine ⟨by rw [List.length_set];exact l.len,fun j k b u u' h1 h2 h3 h4 m1 m2=>?_,fun j b u h1 h2=>?_⟩
 ·rcases old j u h3 with ⟨rfl,rfl⟩ | ⟨nj,g3⟩ <;> rcases old k u' h4 with ⟨rfl,rfl⟩ | ⟨nk,g4⟩
  ·rfl
  ·exact l.nd _ _ b o u' h1 h2 hs g4 hm m2
  ·exact l.nd _ _ b u o h1 h2 g3 hs m1 hm
  ·exact l.nd _ _ b u u' h1 h2 g3 g4 m1 m2
 ·rcases old j u h2 with ⟨rfl,rfl⟩ | ⟨nj,g2⟩
  ·rw [hi] at h1;cases h1;exact r
  ·by_cases hb:b=a
   ·subst hb
    cases u with
    | fzn ds =>
     obtain ⟨vs,e,q⟩:=l.obj j b _ h1 g2
     refine ⟨vs,?_,q.mn m⟩
     rcases e with ⟨x,e⟩ | e
     ·rw [ew] at e;cases e;exact absurd rfl (nf _ _)
     ·exact .inr e
    | lst ds=>exact absurd (l.nd j i b _ o h1 hi g2 hs rfl hm) nj
    | dct ds=>exact absurd (l.nd j i b _ o h1 hi g2 hs rfl hm) nj
    | rng lo up=>exact absurd (l.nd j i b _ o h1 hi g2 hs rfl hm) nj
   ·exact (l.obj j b u h1 g2).keep m fun w e=>by rw [yai hb];exact e
theorem Mn.put {xs:List V} (e:H a=some (.lst xs)):Mn K ρ H ρ (upd H a ho):=⟨fun _ _ h=>h,fun b vs h=>(Kp.put (ch:=[a]) (o:=ho) Kp.refl (by simp) e).sqT h⟩
theorem Mn.putD {ws:List (Key×V)} (e:H a=some (.dK ws)):Mn K ρ H ρ (upd H a ho):=⟨fun _ _ h=>h,fun b vs q=>by
 have ne:∀ u,H b=some u→(∀ w,u≠.dK w)→b≠a:=fun u hu n z=>by rw [z,e] at hu;cases hu;exact n _ rfl
 rcases q with (q | ⟨o,q⟩) | q
 ·exact .inl (.inl (by rw [yai (ne _ q fun w z=>nomatch z)];exact q))
 ·exact .inl (.inr ⟨o,by rw [yai (ne _ q fun w z=>nomatch z)];exact q⟩)
 ·exact .inr q⟩
theorem Rl.newL {vs:List V} {ds:List D} (l:Rl K ρ H st) (hp:H p=none) (r:Rps K ρ H vs ds):Rl K (ρ ++ [p]) (upd H p (.lst vs)) (st ++ [.lst ds]):=l.new hp ⟨vs,xao,r.mn (Mn.new hp)⟩
theorem Rl.newD {vs:List (Key×V)} {ds:List (Key×D)} (l:Rl K ρ H st) (hp:H p=none) (r:Rk K ρ H vs ds):Rl K (ρ ++ [p]) (upd H p (.dK vs)) (st ++ [.dct ds]):=l.new hp ⟨vs,xao,r.mn (Mn.new hp)⟩
theorem newR (l:Rl K ρ H st) (v:D:=.ref st.length):(ρ ++ [p])[st.length]?=some p:=by rw [← l.len,List.getElem?_append_right (Nat.le_refl _),Nat.sub_self];rfl
theorem Rl.putL {vs:List V} {ds xs:List D} (l:Rl K ρ H st) (hi:ρ[i]?=some a) (hs:st[i]?=some (.lst xs)) (r:Rps K ρ H vs ds):Rl K ρ (upd H a (.lst vs)) (st.set i (.lst ds))∧Mn K ρ H ρ (upd H a (.lst vs)):=by
 obtain ⟨ws,e,_⟩:=l.obj i a _ hi hs
 have m:Mn K ρ H ρ (upd H a (.lst vs)):=Mn.put e
 exact ⟨l.put hi hs rfl rfl m ⟨vs,xao,r.mn m⟩,m⟩
theorem Rl.putDct {vs:List (Key×V)} {ds xs:List (Key×D)} (l:Rl K ρ H st) (hi:ρ[i]?=some a) (hs:st[i]?=some (.dct xs)) (r:Rk K ρ H vs ds):Rl K ρ (upd H a (.dK vs)) (st.set i (.dct ds))∧Mn K ρ H ρ (upd H a (.dK vs)):=by
 obtain ⟨ws,e,_⟩:=l.obj i a _ hi hs
 have m:Mn K ρ H ρ (upd H a (.dK vs)):=Mn.putD e
 exact ⟨l.put hi hs rfl rfl m ⟨vs,xao,r.mn m⟩,m⟩
noncomputable def items (st:Store) (i:Nat):Option (List D):=match st[i]? with
 | some (.lst ds)=>some ds
 | some (.fzn ds)=>some ds
 | _=>none
theorem Rl.items {ds:List D} (l:Rl K ρ H st) (hi:ρ[i]?=some a) (h:items st i=some ds):∃ vs,SqL K H a vs∧Rps K ρ H vs ds:=by
 unfold L4.items at h
 split at h
 ·next ds' hs=>cases h;obtain ⟨vs,e,r⟩:=l.obj i a _ hi hs;exact ⟨vs,.inl (.inl e),r⟩
 ·next ds' hs=>cases h;obtain ⟨vs,e,r⟩:=l.obj i a _ hi hs;exact ⟨vs,e.sq,r⟩
 ·cases h
end
noncomputable def So (K:PySem.W.Frag) {α β:Type} (R:List Addr→Hp→α→β→Prop) (t:St→Hp→(α→Hp→Prop)→Prop) (f:DSt→Dm β):Prop :=
 ∀ (ρ:List Addr) (σ:St) (H:Hp) (δ:DSt) (st:Store) (b:β) (st':Store) (Q:α→Hp→Prop),Rl K ρ H st→Rs K ρ H σ δ→f δ st=some (b,st') →
  (∀ a H' ρ',Mn K ρ H ρ' H'→Rl K ρ' H' st'→R ρ' H' a b→Q a H')→t σ H Q
abbrev SoE (K:PySem.W.Frag) (t:TE) (f:DSt→Dm D):Prop:=So K (Rp K) t f
abbrev SoT (K:PySem.W.Frag) (t:TT) (f:DSt→Dm Bool):Prop:=So K (fun _ _=>Eq) t f
abbrev SoA (K:PySem.W.Frag) (t:TA) (f:DSt→Dm (List D)):Prop:=So K (Rps K) t f
abbrev SoO (K:PySem.W.Frag) (t:TO) (f:DSt→Dm (Option Int)):Prop:=So K (fun _ _=>Eq) t f
noncomputable def So1 (K:PySem.W.Frag) (r:V→Hp→VK→Prop) (g:D→Dm D):Prop :=
 ∀ (ρ:List Addr) (H:Hp) (st:Store) (x:V) (a:D) (b:D) (st':Store) (Q:VK),Rl K ρ H st→Rp K ρ H x a→g a st=some (b,st')→(∀ v H' ρ',Mn K ρ H ρ' H'→Rl K ρ' H' st'→Rp K ρ' H' v b→Q v H')→r x H Q
noncomputable def So2 (K:PySem.W.Frag) (r:R2) (g:D→D→Dm D):Prop :=
 ∀ (ρ:List Addr) (H:Hp) (st:Store) (x y:V) (a c:D) (b:D) (st':Store) (Q:VK),Rl K ρ H st→Rp K ρ H x a→Rp K ρ H y c→g a c st=some (b,st')→(∀ v H' ρ',Mn K ρ H ρ' H'→Rl K ρ' H' st'→Rp K ρ' H' v b→Q v H')→r x y H Q
noncomputable def SoC (K:PySem.W.Frag) (r:List V→Hp→VK→Prop) (g:List D→Dm D):Prop :=
 ∀ (ρ:List Addr) (H:Hp) (st:Store) (xs:List V) (as:List D) (b:D) (st':Store) (Q:VK),Rl K ρ H st→Rps K ρ H xs as→g as st=some (b,st')→(∀ v H' ρ',Mn K ρ H ρ' H'→Rl K ρ' H' st'→Rp K ρ' H' v b→Q v H')→r xs H Q
noncomputable def SoM (K:PySem.W.Frag) (T:String) (r:V→List V→Hp→VK→Prop) (g:D→List D→Dm D):Prop :=
 ∀ (ρ:List Addr) (H:Hp) (st:Store) (x:V) (xs:List V) (a:D) (as:List D) (b:D) (st':Store) (Q:VK),Rl K ρ H st→Rp K ρ H x a→Rps K ρ H xs as→g a as st=some (b,st')→(∀ v H' ρ',Mn K ρ H ρ' H'→Rl K ρ' H' st'→Rp K ρ' H' v b→Q v H')→r x xs H Q
noncomputable def bnd {α β:Type} (m:Option (α×Store)) (k:α→Dm β):Option (β×Store):=match m with
 | some (a,st)=>k a st
 | none=>none
theorem yac {α β:Type} {m:Option (α×Store)} {k:α→Dm β} {r:β×Store} (h:bnd m k=some r):∃ a st,m=some (a,st)∧k a st=some r:=by
 cases m with
 | none=>cases h
 | some p=>exact ⟨p.1,p.2,rfl,h⟩
section
variable {K:PySem.W.Frag}
noncomputable def fVar (i:Nat):DSt→Dm D:=fun δ st=>match δ[i]? with
 | some (some d)=>some (d,st)
 | _=>none
theorem Zaa (i:Nat):SoE K (tVar i) (fVar i):=by
 intro ρ σ H δ st b st' Q l rs e q
 unfold fVar at e
 split at e
 ·next d hd=>cases e;obtain ⟨v,ev,r⟩:=rs.2 i _ hd;exact ⟨v,ev,q v H ρ .refl l r⟩
 ·cases e
noncomputable def fC (d:D):DSt→Dm D:=fun _ st=>some (d,st)
theorem so_c {v:V} {d:D} (h:∀ ρ H,Rp K ρ H v d):SoE K (tC v) (fC d):=by
 intro ρ σ H δ st b st' Q l rs e q
 cases e
 exact q v H ρ .refl l (h ρ H)
theorem Yac (i:Int):SoE K (tC (.int i)) (fC (.int i)):=so_c fun _ _=>.int i
theorem XbI (b:Bool):SoE K (tC (.bl b)) (fC (.bl b)):=so_c fun _ _=>.bl b
theorem ybw (x:Str):SoE K (tC (.str x)) (fC (.str x)):=so_c fun _ _=>.str x
noncomputable def fOp (g:D→D→Dm D) (fa fb:DSt→Dm D):DSt→Dm D:=fun δ st=>bnd (fa δ st) fun a st1=>bnd (fb δ st1) fun b st2=>g a b st2
theorem xac {r:R2} {g:D→D→Dm D} {ta tb:TE} {fa fb:DSt→Dm D} (hr:So2 K r g) (ha:SoE K ta fa) (hb:SoE K tb fb):SoE K (tOp r ta tb) (fOp g fa fb):=by
 intro ρ σ H δ st b st' Q l rs e q
 obtain ⟨a,st1,e1,e⟩:=yac e
 obtain ⟨c,st2,e2,e⟩:=yac e
 refine ha ρ σ H δ st a st1 _ l rs e1 fun x H1 ρ1 m1 l1 r1=>hb ρ1 σ H1 δ st1 c st2 _ l1 (rs.mn m1) e2 fun y H2 ρ2 m2 l2 r2=>?_
 exact hr ρ2 H2 st2 x y a c b st' Q l2 (r1.mn m2) r2 e fun v H3 ρ3 m3 l3 r3=>q v H3 ρ3 ((m1.trans m2).trans m3) l3 r3
noncomputable def fUn (g:D→Dm D) (fa:DSt→Dm D):DSt→Dm D:=fun δ st=>bnd (fa δ st) fun a st1=>g a st1
theorem so_un {r:V→Hp→VK→Prop} {g:D→Dm D} {ta:TE} {fa:DSt→Dm D} (hr:So1 K r g) (ha:SoE K ta fa):SoE K (tUn r ta) (fUn g fa):=by
 intro ρ σ H δ st b st' Q l rs e q
 obtain ⟨a,st1,e1,e⟩:=yac e
 exact ha ρ σ H δ st a st1 _ l rs e1 fun x H1 ρ1 m1 l1 r1=>hr ρ1 H1 st1 x a b st' Q l1 r1 e fun v H3 ρ3 m3 l3 r3=>q v H3 ρ3 (m1.trans m3) l3 r3
noncomputable def fNil:DSt→Dm (List D):=fun _ st=>some ([],st)
noncomputable def fCons (fa:DSt→Dm D) (fr:DSt→Dm (List D)):DSt→Dm (List D):=fun δ st=>bnd (fa δ st) fun a st1=>bnd (fr δ st1) fun r st2=>some (a :: r,st2)
theorem xaa:SoA K tNil fNil:=by
 intro ρ σ H δ st b st' Q l rs e q
 cases e
 exact q [] H ρ .refl l .nil
theorem yaa {ta:TE} {tr:TA} {fa:DSt→Dm D} {fr:DSt→Dm (List D)} (ha:SoE K ta fa) (hr:SoA K tr fr):SoA K (tCons ta tr) (fCons fa fr):=by
 intro ρ σ H δ st b st' Q l rs e q
 obtain ⟨a,st1,e1,e⟩:=yac e
 obtain ⟨c,st2,e2,e⟩:=yac e
 cases e
 exact ha ρ σ H δ st a st1 _ l rs e1 fun x H1 ρ1 m1 l1 r1=>hr ρ1 σ H1 δ st1 c _ _ l1 (rs.mn m1) e2 fun y H2 ρ2 m2 l2 r2=>q _ H2 ρ2 (m1.trans m2) l2 (.cons (r1.mn m2) r2)
noncomputable def lim (n:Nat):Bool:=Nat.ble n 100000
theorem Ya9 {n:Nat} (h:lim n=true):n≤sizeLine:=Nat.le_trans (Nat.le_of_ble_eq_true h) (by decide)
theorem Zbw {n:Nat} (h:lim n=true):n < sizeLine:=Nat.lt_of_le_of_lt (Nat.le_of_ble_eq_true h) (by decide)
noncomputable def fTup (fa:DSt→Dm (List D)):DSt→Dm D:=fun δ st=>bnd (fa δ st) fun as st1=>if lim as.length=true then some (.tup as,st1) else none
theorem YaE {ta:TA} {fa:DSt→Dm (List D)} (ha:SoA K ta fa):SoE K (tTup ta) (fTup fa):=by
 intro ρ σ H δ st b st' Q l rs e q
 obtain ⟨as,st1,e1,e⟩:=yac e
 split at e
 ·next hl =>
  cases e
  refine ha ρ σ H δ st as _ _ l rs e1 fun xs H1 ρ1 m1 l1 r1=>⟨by rw [r1.length];exact Ya9 hl,fun p hp=>?_⟩
  have m2:Mn K ρ1 H1 ρ1 (upd H1 p (.tup xs)):=Mn.same (Same.up hp)
  exact q _ _ ρ1 (m1.trans m2) (l1.same (Same.up hp)) (.tup (SqT.of xao) (r1.mn m2))
 ·cases e
noncomputable def fLst (fa:DSt→Dm (List D)):DSt→Dm D:=fun δ st=>bnd (fa δ st) fun as st1=>if lim as.length=true then some (.ref st1.length,st1 ++ [.lst as]) else none
theorem zax {ta:TA} {fa:DSt→Dm (List D)} (ha:SoA K ta fa):SoE K (tLst ta) (fLst fa):=by
 intro ρ σ H δ st b st' Q l rs e q
 obtain ⟨as,st1,e1,e⟩:=yac e
 split at e
 ·next hl =>
  cases e
  refine ha ρ σ H δ st as _ _ l rs e1 fun xs H1 ρ1 m1 l1 r1=>⟨by rw [r1.length];exact Ya9 hl,fun p hp=>?_⟩
  exact q _ _ _ (m1.trans (Mn.new hp)) (l1.newL hp r1) (.ref (newR l1))
 ·cases e
noncomputable def fTest (fa:DSt→Dm D):DSt→Dm Bool:=fun δ st=>bnd (fa δ st) fun a st1=>match a with
 | .bl b=>some (b,st1)
 | _=>none
theorem yah {ta:TE} {fa:DSt→Dm D} (ha:SoE K ta fa):SoT K (tTest ta) (fTest fa):=by
 intro ρ σ H δ st b st' Q l rs e q
 obtain ⟨a,st1,e1,e⟩:=yac e
 cases a <;> simp at e
 obtain ⟨rfl,rfl⟩:=e
 refine ha ρ σ H δ st _ _ _ l rs e1 fun x H1 ρ1 m1 l1 r1=>?_
 cases r1
 exact ⟨_,rfl,q _ H1 ρ1 m1 l1 rfl⟩
noncomputable def fNot (fa:DSt→Dm Bool):DSt→Dm Bool:=fun δ st=>bnd (fa δ st) fun a st1=>some (!a,st1)
noncomputable def fAnd (fa fb:DSt→Dm Bool):DSt→Dm Bool:=fun δ st=>bnd (fa δ st) fun a st1=>if a=true then fb δ st1 else some (false,st1)
noncomputable def fOr (fa fb:DSt→Dm Bool):DSt→Dm Bool:=fun δ st=>bnd (fa δ st) fun a st1=>if a=true then some (true,st1) else fb δ st1
theorem so_and {ta tb:TT} {fa fb:DSt→Dm Bool} (ha:SoT K ta fa) (hb:SoT K tb fb):SoT K (tAnd ta tb) (fAnd fa fb):=by
 intro ρ σ H δ st b st' Q l rs e q
 obtain ⟨a,st1,e1,e⟩:=yac e
 refine ha ρ σ H δ st _ _ _ l rs e1 fun x H1 ρ1 m1 l1 r1=>?_
 subst r1
 cases x with
 | true =>
  refine iteT ?_
  rw [if_pos rfl] at e
  exact hb ρ1 σ H1 δ st1 b st' _ l1 (rs.mn m1) e fun y H2 ρ2 m2 l2 r2=>q y H2 ρ2 (m1.trans m2) l2 r2
 | false =>
  refine iteF ?_
  rw [if_neg Bool.false_ne_true] at e
  cases e
  exact q _ H1 ρ1 m1 l1 rfl
theorem so_or {ta tb:TT} {fa fb:DSt→Dm Bool} (ha:SoT K ta fa) (hb:SoT K tb fb):SoT K (tOr ta tb) (fOr fa fb):=by
 intro ρ σ H δ st b st' Q l rs e q
 obtain ⟨a,st1,e1,e⟩:=yac e
 refine ha ρ σ H δ st _ _ _ l rs e1 fun x H1 ρ1 m1 l1 r1=>?_
 subst r1
 cases x with
 | false =>
  refine iteF ?_
  rw [if_neg Bool.false_ne_true] at e
  exact hb ρ1 σ H1 δ st1 b st' _ l1 (rs.mn m1) e fun y H2 ρ2 m2 l2 r2=>q y H2 ρ2 (m1.trans m2) l2 r2
 | true =>
  refine iteT ?_
  rw [if_pos rfl] at e
  cases e
  exact q _ H1 ρ1 m1 l1 rfl
noncomputable def fAndV (fa fb:DSt→Dm D):DSt→Dm D:=fun δ st=>bnd (fTest fa δ st) fun a st1=>if a=true then fb δ st1 else some (.bl false,st1)
noncomputable def fOrV (fa fb:DSt→Dm D):DSt→Dm D:=fun δ st=>bnd (fTest fa δ st) fun a st1=>if a=true then some (.bl true,st1) else fb δ st1
noncomputable def fNotV (fa:DSt→Dm D):DSt→Dm D:=fun δ st=>bnd (fTest fa δ st) fun a st1=>some (.bl (!a),st1)
noncomputable def fIf {β:Type} (c:DSt→Dm Bool) (fa fb:DSt→Dm β):DSt→Dm β:=fun δ st=>bnd (c δ st) fun a st1=>if a=true then fa δ st1 else fb δ st1
noncomputable def fNoPart:DSt→Dm (Option Int):=fun _ st=>some (none,st)
noncomputable def fPart (fa:DSt→Dm D):DSt→Dm (Option Int):=fun δ st=>bnd (fa δ st) fun a st1=>match a with
 | .int i=>some (some i,st1)
 | _=>none
theorem XaV:SoO K tNoPart fNoPart:=by
 intro ρ σ H δ st b st' Q l rs e q
 cases e
 exact q _ H ρ .refl l rfl
theorem ybf {ta:TE} {fa:DSt→Dm D} (ha:SoE K ta fa):SoO K (tPart ta) (fPart fa):=by
 intro ρ σ H δ st b st' Q l rs e q
 obtain ⟨a,st1,e1,e⟩:=yac e
 cases a <;> simp at e
 obtain ⟨rfl,rfl⟩:=e
 refine ha ρ σ H δ st _ _ _ l rs e1 fun x H1 ρ1 m1 l1 r1=>?_
 cases r1
 exact ⟨_,rfl,q _ H1 ρ1 m1 l1 rfl⟩
noncomputable def SoS3 (K:PySem.W.Frag) (r:V→Option Int→Option Int→Hp→VK→Prop) (g:D→Option Int→Option Int→Dm D):Prop :=
 ∀ lo hi,So1 K (fun x=>r x lo hi) (fun a=>g a lo hi)
noncomputable def fSl (g:D→Option Int→Option Int→Dm D) (fa:DSt→Dm D) (fl fh:DSt→Dm (Option Int)):DSt→Dm D:=fun δ st=>bnd (fa δ st) fun a st1=>bnd (fl δ st1) fun lo st2=>bnd (fh δ st2) fun hi st3=>g a lo hi st3
theorem YbW {r:V→Option Int→Option Int→Hp→VK→Prop} {g:D→Option Int→Option Int→Dm D} {ta:TE} {tl th:TO} {fa:DSt→Dm D} {fl fh:DSt→Dm (Option Int)} (hr:SoS3 K r g) (ha:SoE K ta fa) (hl:SoO K tl fl) (hh:SoO K th fh):SoE K (tSl r ta tl th) (fSl g fa fl fh):=by
 intro ρ σ H δ st b st' Q l rs e q
 obtain ⟨a,st1,e1,e⟩:=yac e
 obtain ⟨lo,st2,e2,e⟩:=yac e
 obtain ⟨hi,st3,e3,e⟩:=yac e
 refine ha ρ σ H δ st a st1 _ l rs e1 fun x H1 ρ1 m1 l1 r1=>hl ρ1 σ H1 δ st1 lo st2 _ l1 (rs.mn m1) e2 fun y H2 ρ2 m2 l2 r2=>hh ρ2 σ H2 δ st2 hi st3 _ l2 (rs.mn (m1.trans m2)) e3 fun z H3 ρ3 m3 l3 r3=>?_
 subst r2 r3
 exact hr y z ρ3 H3 st3 x a b st' Q l3 (r1.mn (m2.trans m3)) e fun v H4 ρ4 m4 l4 r4=>q v H4 ρ4 (((m1.trans m2).trans m3).trans m4) l4 r4
noncomputable def fCB (g:List D→Dm D) (fa:DSt→Dm (List D)):DSt→Dm D:=fun δ st=>bnd (fa δ st) fun as st1=>g as st1
theorem zag {r:List V→Hp→VK→Prop} {g:List D→Dm D} {ta:TA} {fa:DSt→Dm (List D)} (hr:SoC K r g) (ha:SoA K ta fa):SoE K (tCB r ta) (fCB g fa):=by
 intro ρ σ H δ st b st' Q l rs e q
 obtain ⟨as,st1,e1,e⟩:=yac e
 exact ha ρ σ H δ st as st1 _ l rs e1 fun x H1 ρ1 m1 l1 r1=>hr ρ1 H1 st1 x as b st' Q l1 r1 e fun v H3 ρ3 m3 l3 r3=>q v H3 ρ3 (m1.trans m3) l3 r3
noncomputable def spF (K:PySem.W.Frag) (n:Nat) (F:List D→Dm D):Sp:=fun vs H Q _=>vs.length=n∧∃ (ρ:List Addr) (st:Store) (ds:List D) (b:D) (st':Store),Rl K ρ H st∧Rps K ρ H vs ds∧F ds st=some (b,st') ∧
 ∀ v H' ρ',Mn K ρ H ρ' H'→Rl K ρ' H' st'→Rp K ρ' H' v b→Q v H'
theorem Yae {n:Nat} {F:List D→Dm D} {ta:TA} {fa:DSt→Dm (List D)} {E:XK} (ha:SoA K ta fa) (hn:∀ δ st as st',fa δ st=some (as,st')→as.length=n):SoE K (tCall (spF K n F) [] E ta) (fCB F fa):=by
 intro ρ σ H δ st b st' Q l rs e q
 obtain ⟨as,st1,e1,e⟩:=yac e
 refine ha ρ σ H δ st as st1 _ l rs e1 fun vs H1 ρ1 m1 l1 r1=>⟨?_,ρ1,st1,as,b,st',l1,?_,e,fun v H3 ρ3 m3 l3 r3=>q v H3 ρ3 (m1.trans m3) l3 r3⟩
 ·rw [List.append_nil,r1.length];exact hn _ _ _ _ e1
 ·rw [List.append_nil];exact r1
theorem xae {δ:DSt} {st st':Store} {as:List D} (h:fNil δ st=some (as,st')):as.length=0:=by cases h;rfl
theorem yab {fa:DSt→Dm D} {fr:DSt→Dm (List D)} {n:Nat} (hr:∀ δ st as st',fr δ st=some (as,st')→as.length=n):∀ δ st as st',fCons fa fr δ st=some (as,st')→as.length=n + 1:=fun δ st as st' h=>by
 obtain ⟨a,st1,e1,e⟩:=yac h
 obtain ⟨c,st2,e2,e⟩:=yac e
 cases e
 rw [List.length_cons,hr _ _ _ _ e2]
end
end L4
namespace L4
open PySem PySem.Spec L2
section
variable {K:PySem.W.Frag}
noncomputable def gI0 (h:Int→Int→D):D→D→Dm D
 | .int i,.int j,st=>some (h i j,st)
 | _,_,_=>none
theorem Ybw {gv:Int→Int→V} {h:Int→Int→D} (hh:∀ i j ρ H,Rp K ρ H (gv i j) (h i j)):So2 K (rI0 gv) (gI0 h):=by
 intro ρ H st x y a c b st' Q l rx ry e q
 unfold gI0 at e
 split at e
 ·cases e;cases rx;cases ry;exact ⟨_,_,rfl,rfl,q _ H ρ .refl l (hh _ _ ρ H)⟩
 ·cases e
noncomputable def gIC (c:Int→Int→Bool) (h:Int→Int→D):D→D→Dm D
 | .int i,.int j,st=>if c i j=true then some (h i j,st) else none
 | _,_,_=>none
theorem zbJ {C:Int→Int→Prop} {c:Int→Int→Bool} {gv:Int→Int→V} {h:Int→Int→D} (hc:∀ i j,c i j=true→C i j) (hh:∀ i j ρ H,Rp K ρ H (gv i j) (h i j)):So2 K (rI C gv) (gIC c h):=by
 intro ρ H st x y a d b st' Q l rx ry e q
 unfold gIC at e
 split at e
 ·split at e
  ·next hcc=>cases e;cases rx;cases ry;exact ⟨_,_,rfl,rfl,hc _ _ hcc,q _ H ρ .refl l (hh _ _ ρ H)⟩
  ·cases e
 ·cases e
noncomputable def gAdd:D→D→Dm D:=gI0 fun i j=>.int (i + j)
noncomputable def gSub:D→D→Dm D:=gI0 fun i j=>.int (i - j)
noncomputable def gMul:D→D→Dm D:=gIC (fun i j=>decide (-18446744073709551616 < i∧i < 18446744073709551616) || decide (-18446744073709551616 < j∧j < 18446744073709551616)) fun i j=>.int (i * j)
noncomputable def gFdiv:D→D→Dm D:=gIC (fun i j=>decide (0 < j∧j < 1073741824)) fun i j=>.int (i / j)
noncomputable def gMod:D→D→Dm D:=gIC (fun i j=>decide (0 < j)) fun i j=>.int (i % j)
noncomputable def gPow:D→D→Dm D:=gIC (fun i j=>decide (0≤j∧j≤1000000∧i.natAbs < 18446744073709551616)) fun i j=>.int (i ^ j.toNat)
noncomputable def gLt:D→D→Dm D:=gI0 fun i j=>.bl (decide (i < j))
noncomputable def gLe:D→D→Dm D:=gI0 fun i j=>.bl (decide (i≤j))
noncomputable def gGt:D→D→Dm D:=gI0 fun i j=>.bl (decide (j < i))
noncomputable def gGe:D→D→Dm D:=gI0 fun i j=>.bl (decide (j≤i))
theorem Yay:So2 K (rI0 fun i j=>.int (i + j)) gAdd:=Ybw fun _ _ _ _=>.int _
theorem xbw:So2 K (rI0 fun i j=>.int (i - j)) gSub:=Ybw fun _ _ _ _=>.int _
theorem YaR:So2 K (rI CMul fun i j=>.int (i * j)) gMul:=zbJ (fun i j h=>by
 rw [Bool.or_eq_true,decide_eq_true_eq,decide_eq_true_eq] at h
 exact h) fun _ _ _ _=>.int _
theorem Xbw:So2 K (rI CDiv fun i j=>.int (i / j)) gFdiv:=zbJ (fun i j h=>of_decide_eq_true (p:=0 < j∧j < 1073741824) h) fun _ _ _ _=>.int _
theorem xaL:So2 K (rI (fun _ j=>0 < j) fun i j=>.int (i % j)) gMod:=zbJ (fun i j h=>of_decide_eq_true h) fun _ _ _ _=>.int _
theorem ZbP:So2 K (rI CPow fun i j=>.int (i ^ j.toNat)) gPow:=zbJ (fun i j h=>by have h:=of_decide_eq_true (p:=0≤j∧j≤1000000∧i.natAbs < 18446744073709551616) h;exact ⟨h.1,h.2.1,by omega⟩) fun _ _ _ _=>.int _
theorem ybJ:So2 K (rI0 fun i j=>.bl (decide (i < j))) gLt:=Ybw fun _ _ _ _=>.bl _
theorem so_gt:So2 K (rI0 fun i j=>.bl (decide (j < i))) gGt:=Ybw fun _ _ _ _=>.bl _
theorem so_ge:So2 K (rI0 fun i j=>.bl (decide (j≤i))) gGe:=Ybw fun _ _ _ _=>.bl _
noncomputable def gNeg:D→Dm D
 | .int i,st=>some (.int (-i),st)
 | _,_=>none
theorem YbP:So1 K (rU fun i=>.int (-i)) gNeg:=by
 intro ρ H st x a b st' Q l rx e q
 unfold gNeg at e
 split at e
 ·cases e;cases rx;exact ⟨_,rfl,q _ H ρ .refl l (.int _)⟩
 ·cases e
noncomputable def sV:D→Option V
 | .non=>some .non
 | .bl b=>some (.bl b)
 | .int i=>some (.int i)
 | .str x=>some (.str x)
 | _=>none
theorem Zbo {ρ:List Addr} {H:Hp} {x v:V} {a:D} (r:Rp K ρ H x a) (h:sV a=some v):x=v:=by
 cases r <;> first | (cases h;rfl) | cases h
noncomputable def gEq (neg:Bool):D→D→Dm D:=fun a b st=>match sV a,sV b with
 | some x,some y=>if scal x y=true then some (.bl (if neg then !decide (x=y) else decide (x=y)),st) else none
 | _,_=>none
theorem Zbf:So2 K rEq (gEq false):=by
 intro ρ H st x y a c b st' Q l rx ry e q
 unfold gEq at e
 split at e
 ·next u v h1 h2 =>
  split at e
  ·next hs=>cases e;cases Zbo rx h1;cases Zbo ry h2;exact ⟨hs,q _ H ρ .refl l (.bl _)⟩
  ·cases e
 ·cases e
theorem xbW:So2 K rNe (gEq true):=by
 intro ρ H st x y a c b st' Q l rx ry e q
 unfold gEq at e
 split at e
 ·next u v h1 h2 =>
  split at e
  ·next hs=>cases e;cases Zbo rx h1;cases Zbo ry h2;exact ⟨hs,q _ H ρ .refl l (.bl _)⟩
  ·cases e
 ·cases e
noncomputable def mapO {α β:Type} (f:α→Option β):List α→Option (List β)
 | []=>some []
 | a :: r=>match f a,mapO f r with
  | some b,some s=>some (b :: s)
  | _,_=>none
theorem xaE {α β:Type} {f:α→Option β} {a:α} {r:List α} {s:List β} (h:mapO f (a :: r)=some s):∃ b t,f a=some b∧mapO f r=some t∧s=b :: t:=by
 unfold mapO at h
 split at h
 ·next b t h1 h2=>cases h;exact ⟨b,t,h1,h2,rfl⟩
 ·cases h
theorem yav {α β γ:Type} {f:α→Option β} {g:γ→α} {k:γ→β} (h:∀ c,f (g c)=some (k c)):∀ l:List γ,mapO f (l.map g)=some (l.map k)
 | []=>rfl
 | c :: r=>by
  show mapO f (g c :: r.map g)=_
  unfold mapO
  rw [h c,yav h r]
  rfl
noncomputable def toP (st:Store):Nat→D→Option PyData
 | 0,_=>none
 | _ + 1,.non=>some .none
 | _ + 1,.bl b=>some (.bool b)
 | _ + 1,.int i=>some (.int i)
 | _ + 1,.str x=>some (.str x)
 | _ + 1,.ty _=>none
 | n + 1,.tup ds=>(mapO (toP st n) ds).map PyData.tuple
 | n + 1,.ref i=>match items st i with
  | some ds=>(mapO (toP st n) ds).map PyData.list
  | none=>none
theorem xa9 {ρ:List Addr} {H:Hp} {st:Store} (l:Rl K ρ H st):∀ (n:Nat) {v:V} {d:D} {p:PyData},Rp K ρ H v d→toP st n d=some p→Rep K H v p
 | 0,_,_,_,_,h=>by simp [toP] at h
 | n + 1,v,d,p,r,h=>by
  have all:∀ {vs:List V} {ds:List D} {ps:List PyData},Rps K ρ H vs ds→mapO (toP st n) ds=some ps→Reps K H vs ps:=by
   intro vs ds ps rr
   induction vs generalizing ds ps with
   | nil=>intro hm;cases rr;cases hm;exact .nil
   | cons w ws ih =>
    intro hm
    cases rr with
    | cons ra rb =>
     obtain ⟨b,t,h1,h2,rfl⟩:=xaE hm
     exact .cons (xa9 l n ra h1) (ih rb h2)
  cases r with
  | non=>simp [toP] at h;subst h;exact .non
  | bl b=>simp [toP] at h;subst h;exact .bl b
  | int i=>simp [toP] at h;subst h;exact .int i
  | str x=>simp [toP] at h;subst h;exact .str x
  | ty n=>simp [toP] at h
  | ref hi =>
   simp only [toP] at h
   split at h
   ·next ds hd =>
    obtain ⟨ps,h1,rfl⟩:=Option.map_eq_some_iff.mp h
    obtain ⟨vs,e,rr⟩:=l.items hi hd
    exact .lst e (all rr h1)
   ·cases h
  | tup q rr =>
   simp only [toP] at h
   obtain ⟨ps,h1,rfl⟩:=Option.map_eq_some_iff.mp h
   exact .tup q (all rr h1)
noncomputable def gEqD (neg:Bool):D→D→Dm D:=fun a b st=>match toP st 20 a,toP st 20 b with
 | some p,some q=>if (PyData.canLay0 p && PyData.canLay0 q && decide (min p.depth q.depth≤60))=true then some (.bl (if neg then !PyData.eqv p q else PyData.eqv p q),st) else none
 | _,_=>none
theorem zaW (neg:Bool):So2 K (rEqD K neg) (gEqD neg):=by
 intro ρ H st x y a c b st' Q l rx ry e q
 unfold gEqD at e
 split at e
 ·next u v h1 h2 =>
  split at e
  ·next hs =>
   cases e
   rw [Bool.and_eq_true,Bool.and_eq_true,decide_eq_true_eq] at hs
   exact ⟨u,v,xa9 l 20 rx h1,xa9 l 20 ry h2,hs.1.1,hs.1.2,hs.2,q _ H ρ .refl l (.bl _)⟩
  ·cases e
 ·cases e
theorem at_of {ρ:List Addr} {H:Hp} {vs:List V} {ds:List D} {i:Int} {d:D} (r:Rps K ρ H vs ds) (h:atI ds i=some d):∃ v,atI vs i=some v∧Rp K ρ H v d:=by
 unfold atI at h ⊢
 rw [r.length]
 cases hx:ixN ds.length i with
 | none=>rw [hx] at h;cases h
 | some j =>
  rw [hx] at h
  exact r.got h
noncomputable def gIxT:D→D→Dm D
 | .tup ds,.int i,st=>match atI ds i with
  | some d=>some (d,st)
  | none=>none
 | _,_,_=>none
theorem yaj:So2 K (rIxT K) gIxT:=by
 intro ρ H st x y a c b st' Q l rx ry e q
 unfold gIxT at e
 split at e
 ·split at e
  ·next d hd =>
   cases e
   cases ry
   cases rx with
   | tup s r =>
    obtain ⟨v,hv,rv⟩:=at_of r hd
    exact ⟨_,_,_,v,rfl,rfl,s,hv,q v H ρ .refl l rv⟩
  ·cases e
 ·cases e
noncomputable def gIxL:D→D→Dm D
 | .ref r,.int i,st=>match items st r with
  | some ds=>match atI ds i with
   | some d=>some (d,st)
   | none=>none
  | none=>none
 | _,_,_=>none
theorem Xas:So2 K (rIxL K) gIxL:=by
 intro ρ H st x y a c b st' Q l rx ry e q
 unfold gIxL at e
 split at e
 ·split at e
  ·next ds hi =>
   split at e
   ·next d hd =>
    cases e
    cases ry
    cases rx with
    | ref hr =>
     obtain ⟨vs,s,r⟩:=l.items hr hi
     obtain ⟨v,hv,rv⟩:=at_of r hd
     exact ⟨_,_,_,v,rfl,rfl,s,hv,q v H ρ .refl l rv⟩
   ·cases e
  ·cases e
 ·cases e
noncomputable def gIxS:D→D→Dm D
 | .str z,.int i,st=>if lim z.length=true then match atI z.cps.toList i with
   | some c=>some (.str ⟨#[c]⟩,st)
   | none=>none
  else none
 | _,_,_=>none
noncomputable def cutD (xs:List D) (lo hi:Option Int):List D:=(xs.drop (HT.sIx xs.length 0 lo)).take (HT.sIx xs.length xs.length hi - HT.sIx xs.length 0 lo)
theorem Rps.cut {ρ:List Addr} {H:Hp} {vs:List V} {ds:List D} (r:Rps K ρ H vs ds) (lo hi:Option Int):Rps K ρ H (cutV vs lo hi) (cutD ds lo hi):=by
 unfold cutV cutD
 rw [r.length]
 exact (r.drop _).take _
noncomputable def gSlT:D→Option Int→Option Int→Dm D
 | .tup ds,lo,hi,st=>some (.tup (cutD ds lo hi),st)
 | _,_,_,_=>none
theorem got {ρ:List Addr} {H:Hp} {st:Store} {vs:List V} {ds:List D} {Q:VK} (l:Rl K ρ H st) (r:Rps K ρ H vs ds) (q:∀ v H' ρ',Mn K ρ H ρ' H'→Rl K ρ' H' st→Rp K ρ' H' v (.tup ds)→Q v H'):GotT K H vs Q :=
 fun p H' s e=>q _ H' ρ (Mn.same e) (l.same e) (.tup s (r.mn (Mn.same e)))
noncomputable def gSlL:D→Option Int→Option Int→Dm D
 | .ref r,lo,hi,st=>match items st r with
  | some ds=>some (.ref st.length,st ++ [.lst (cutD ds lo hi)])
  | none=>none
 | _,_,_,_=>none
theorem zbx:SoS3 K (rSlL K) gSlL:=by
 intro lo hi ρ H st x a b st' Q l rx e q
 cases a with
 | ref i =>
  simp only [gSlL] at e
  split at e
  ·next ds hd =>
   cases e
   cases rx with
   | ref hr =>
    obtain ⟨vs,s,r⟩:=l.items hr hd
    exact ⟨_,_,rfl,s,fun p hp=>q _ _ _ (Mn.new hp) (l.newL hp (r.cut lo hi)) (.ref (newR l))⟩
  ·cases e
 | _=>cases e
noncomputable def gCatT:D→D→Dm D
 | .tup a,.tup b,st=>if lim (a.length + b.length)=true then some (.tup (a ++ b),st) else none
 | _,_,_=>none
theorem XbW:So2 K (rCatTA K) gCatT:=by
 intro ρ H st x y a c b st' Q l rx ry e q
 unfold gCatT at e
 split at e
 ·split at e
  ·next hl =>
   cases e
   cases rx with
   | tup s r =>
    cases ry with
    | tup s' r'=>exact ⟨_,_,_,_,rfl,rfl,s,s',by rw [r.length,r'.length];exact Ya9 hl,got l (r.append r') q⟩
  ·cases e
 ·cases e
noncomputable def own (st:Store) (i:Nat):Option (List D):=match st[i]? with
 | some (.lst ds)=>some ds
 | _=>none
theorem Zav {st:Store} {i:Nat} {ds:List D} (h:own st i=some ds):st[i]?=some (.lst ds):=by
 unfold own at h
 split at h
 ·next ds' hs=>cases h;exact hs
 ·cases h
noncomputable def gCat:D→D→Dm D
 | .ref i,.ref j,st=>match own st i,own st j with
  | some a,some b=>if lim (a.length + b.length)=true then some (.ref st.length,st ++ [.lst (a ++ b)]) else none
  | _,_=>none
 | _,_,_=>none
theorem xaR:So2 K rCat gCat:=by
 intro ρ H st x y a c b st' Q l rx ry e q
 unfold gCat at e
 split at e
 ·split at e
  ·next a b h1 h2 =>
   split at e
   ·next hl =>
    cases e
    cases rx with
    | ref hi =>
     cases ry with
     | ref hj =>
      obtain ⟨vs,e1,r1⟩:=l.obj _ _ _ hi (Zav h1)
      obtain ⟨ws,e2,r2⟩:=l.obj _ _ _ hj (Zav h2)
      exact ⟨_,_,_,_,rfl,rfl,e1,e2,by rw [r1.length,r2.length];exact Ya9 hl,fun p hp=>q _ _ _ (Mn.new hp) (l.newL hp (r1.append r2)) (.ref (newR l))⟩
   ·cases e
  ·cases e
 ·cases e
noncomputable def gRep:D→D→Dm D
 | .ref i,.int k,st=>match own st i with
  | some a=>if (decide (-9223372036854775808≤k∧k < 9223372036854775808) && lim (a.length * k.toNat))=true then some (.ref st.length,st ++ [.lst (List.replicate k.toNat a).flatten]) else none
  | _=>none
 | _,_,_=>none
theorem xbP {ρ:List Addr} {H:Hp}:∀ {ws vs:List V} {ds:List D},Rps K ρ H ws ds→mapO sV ds=some vs→ws=vs
 | _,_,_,.nil,h=>by cases h;rfl
 | _,_,_,.cons a b,h=>by
  obtain ⟨x,t,h1,h2,rfl⟩:=xaE h
  rw [Zbo a h1,xbP b h2]
theorem ybx {a:D} {v:V} (h:sV a=some v):flatV v=true:=by cases a <;> first | (cases h;rfl) | cases h
theorem zbk:∀ {ds:List D} {vs:List V},mapO sV ds=some vs→vs.all flatV=true
 | [],_,h=>by cases h;rfl
 | d :: r,_,h=>by
  obtain ⟨x,t,h1,h2,rfl⟩:=xaE h
  rw [List.all_cons,ybx h1,zbk h2];rfl
noncomputable def seqOf (st:Store):D→Option (List D)
 | .tup ds=>some ds
 | .ref i=>items st i
 | _=>none
theorem ybk {ρ:List Addr} {H:Hp} {st:Store} {x:V} {a:D} {ds:List D} (l:Rl K ρ H st) (r:Rp K ρ H x a) (h:seqOf st a=some ds):∃ p vs,x=.ref p∧(SqL K H p vs∨SqT K H p vs)∧Rps K ρ H vs ds:=by
 cases r <;> first | (cases h;done) | skip
 ·next hi=>obtain ⟨vs,s,r⟩:=l.items hi h;exact ⟨_,vs,rfl,.inl s,r⟩
 ·next s r=>cases h;exact ⟨_,_,rfl,.inr s,r⟩
noncomputable def gIn (neg:Bool):D→D→Dm D:=fun a c st=>match sV a,(seqOf st c).bind (mapO sV) with
 | some x,some vs=>some (.bl (if neg then !inV x vs else inV x vs),st)
 | _,_=>none
theorem Zbx (neg:Bool):So2 K (rIn K neg) (gIn neg):=by
 intro ρ H st x y a c b st' Q l rx ry e q
 unfold gIn at e
 split at e
 ·next u vs h1 h2 =>
  cases e
  obtain ⟨ds,h3,h4⟩:=Option.bind_eq_some_iff.mp h2
  obtain ⟨p,ws,rfl,s,r⟩:=ybk l ry h3
  cases Zbo rx h1
  cases xbP r h4
  exact ⟨p,_,rfl,s,ybx h1,zbk h4,q _ H ρ .refl l (.bl _)⟩
 ·cases e
theorem Rps.one' {ρ:List Addr} {H:Hp} {vs:List V} {d:D} (r:Rps K ρ H vs [d]):∃ v,vs=[v]∧Rp K ρ H v d:=by cases r with | cons a b=>cases b;exact ⟨_,rfl,a⟩
theorem Rps.two' {ρ:List Addr} {H:Hp} {vs:List V} {d e:D} (r:Rps K ρ H vs [d,e]):∃ v w,vs=[v,w]∧Rp K ρ H v d∧Rp K ρ H w e:=by
 cases r with
 | cons a b=>obtain ⟨w,rfl,r⟩:=b.one';exact ⟨_,_,rfl,a,r⟩
noncomputable def gLen:List D→Dm D
 | [a],st=>match seqOf st a with
  | some ds=>some (.int ds.length,st)
  | none=>none
 | _,_=>none
theorem Xap:SoC K (fun xs H Q=>∃ p ys,xs=[.ref p]∧(SqL K H p ys∨SqT K H p ys)∧Q (.int ys.length) H) gLen:=by
 intro ρ H st xs as b st' Q l rx e q
 unfold gLen at e
 split at e
 ·split at e
  ·next ds hd =>
   cases e
   obtain ⟨v,rfl,r⟩:=rx.one'
   obtain ⟨p,vs,rfl,s,r⟩:=ybk l r hd
   exact ⟨p,vs,rfl,s,q _ H ρ .refl l (by rw [r.length];exact .int _)⟩
  ·cases e
 ·cases e
noncomputable def gList:List D→Dm D
 | [a],st=>match seqOf st a with
  | some ds=>some (.ref st.length,st ++ [.lst ds])
  | none=>none
 | _,_=>none
theorem Ybf:SoC K (fun xs H Q=>∃ p ys,xs=[.ref p]∧(SqL K H p ys∨SqT K H p ys)∧∀ l,H l=none→Q (.ref l) (upd H l (.lst ys))) gList:=by
 intro ρ H st xs as b st' Q l rx e q
 unfold gList at e
 split at e
 ·split at e
  ·next ds hd =>
   cases e
   obtain ⟨v,rfl,r⟩:=rx.one'
   obtain ⟨p,vs,rfl,s,r⟩:=ybk l r hd
   exact ⟨p,vs,rfl,s,fun p hp=>q _ _ _ (Mn.new hp) (l.newL hp r) (.ref (newR l))⟩
  ·cases e
 ·cases e
noncomputable def gTuple:List D→Dm D
 | [a],st=>match seqOf st a with
  | some ds=>some (.tup ds,st)
  | none=>none
 | _,_=>none
theorem zal:SoC K (fun xs H Q=>∃ p ys,xs=[.ref p]∧((SqL K H p ys∧∀ l,H l=none→Q (.ref l) (upd H l (.tup ys)))∨(SqT K H p ys∧Q (.ref p) H))) gTuple:=by
 intro ρ H st xs as b st' Q l rx e q
 unfold gTuple at e
 split at e
 ·split at e
  ·next ds hd =>
   cases e
   obtain ⟨v,rfl,r⟩:=rx.one'
   obtain ⟨p,vs,rfl,s,r'⟩:=ybk l r hd
   refine ⟨p,vs,rfl,?_⟩
   rcases s with s | s
   ·exact .inl ⟨s,(got l r' q).new⟩
   ·exact .inr ⟨s,(got l r' q).it s⟩
  ·cases e
 ·cases e
noncomputable def gMax2:List D→Dm D
 | [.int i,.int j],st=>some (.int (if j > i then j else i),st)
 | _,_=>none
noncomputable def gMin2:List D→Dm D
 | [.int i,.int j],st=>some (.int (if j < i then j else i),st)
 | _,_=>none
theorem zbX:SoC K (fun xs H Q=>∃ i j,xs=[.int i,.int j]∧Q (.int (if j > i then j else i)) H) gMax2:=by
 intro ρ H st xs as b st' Q l rx e q
 unfold gMax2 at e
 split at e
 ·cases e
  obtain ⟨v,w,rfl,r1,r2⟩:=rx.two'
  cases r1;cases r2
  exact ⟨_,_,rfl,q _ H ρ .refl l (.int _)⟩
 ·cases e
noncomputable def gInt1:List D→Dm D
 | [.int i],st=>some (.int i,st)
 | [.bl k],st=>some (.int (if k then 1 else 0),st)
 | _,_=>none
noncomputable def gRange1:List D→Dm D
 | [.int j],st=>some (.ref st.length,st ++ [.rng 0 j])
 | _,_=>none
noncomputable def gRange2:List D→Dm D
 | [.int i,.int j],st=>some (.ref st.length,st ++ [.rng i j])
 | _,_=>none
theorem yaJ:SoC K (fun xs H Q=>∃ j:Int,xs=[.int j]∧∀ p,H p=none→Q (.ref p) (upd H p (.rng 0 j))) gRange1:=by
 intro ρ H st xs as b st' Q l rx e q
 unfold gRange1 at e
 split at e
 ·cases e
  obtain ⟨v,rfl,r⟩:=rx.one'
  cases r
  exact ⟨_,rfl,fun p hp=>q _ _ _ (Mn.new hp) (l.new hp (show RpO K _ _ p (.rng _ _) from xao)) (.ref (newR l))⟩
 ·cases e
theorem XaE:SoC K (fun xs H Q=>∃ i j:Int,xs=[.int i,.int j]∧∀ p,H p=none→Q (.ref p) (upd H p (.rng i j))) gRange2:=by
 intro ρ H st xs as b st' Q l rx e q
 unfold gRange2 at e
 split at e
 ·cases e
  obtain ⟨v,w,rfl,r1,r2⟩:=rx.two'
  cases r1;cases r2
  exact ⟨_,_,rfl,fun p hp=>q _ _ _ (Mn.new hp) (l.new hp (show RpO K _ _ p (.rng _ _) from xao)) (.ref (newR l))⟩
 ·cases e
noncomputable def rangeD (lo:Int) (n:Nat):List D:=(List.range n).map fun (k:Nat)=>D.int (lo + k)
theorem Ybx {ρ:List Addr} {H:Hp} (lo:Int) (n:Nat):Rps K ρ H (rangeV lo n) (rangeD lo n):=by
 unfold rangeV rangeD
 induction (List.range n) with
 | nil=>exact .nil
 | cons a r ih=>exact .cons (.int _) ih
noncomputable def okR (lo hi:Int):Bool:=decide (-4611686018427387904≤lo∧lo < 4611686018427387904∧-4611686018427387904≤hi∧hi < 4611686018427387904) && lim (hi - lo).toNat
theorem XbP {lo hi:Int} (h:okR lo hi=true):(-(2 ^ 62)≤lo∧lo < 2 ^ 62∧-(2 ^ 62)≤hi∧hi < 2 ^ 62)∧(hi - lo).toNat≤2 ^ 24:=by
 unfold okR at h
 rw [Bool.and_eq_true,decide_eq_true_eq] at h
 exact ⟨by omega,Nat.le_trans (Nat.le_of_ble_eq_true h.2) (by decide)⟩
noncomputable def rngOf (st:Store):D→Option (Int×Int)
 | .ref i=>match st[i]? with
  | some (.rng lo hi)=>some (lo,hi)
  | _=>none
 | _=>none
theorem rng_of {ρ:List Addr} {H:Hp} {st:Store} {x:V} {a:D} {lo hi:Int} (l:Rl K ρ H st) (r:Rp K ρ H x a) (h:rngOf st a=some (lo,hi)):∃ p,x=.ref p∧H p=some (.rng lo hi):=by
 cases r <;> first | (cases h;done) | skip
 ·next hi' =>
  simp only [rngOf] at h
  split at h
  ·next lo' hi'' hs=>cases h;exact ⟨_,rfl,l.obj _ _ _ hi' hs⟩
  ·cases h
noncomputable def gListR:List D→Dm D
 | [a],st=>match rngOf st a with
  | some (lo,hi)=>if okR lo hi=true then some (.ref st.length,st ++ [.lst (rangeD lo (hi - lo).toNat)]) else none
  | none=>none
 | _,_=>none
theorem zat:SoC K (fun xs H Q=>∃ p lo hi,xs=[.ref p]∧H p=some (.rng lo hi)∧(-(2 ^ 62)≤lo∧lo < 2 ^ 62∧-(2 ^ 62)≤hi∧hi < 2 ^ 62)∧(hi - lo).toNat≤2 ^ 24 ∧
  ∀ l,H l=none→Q (.ref l) (upd H l (.lst (rangeV lo (hi - lo).toNat)))) gListR:=by
 intro ρ H st xs as b st' Q l rx e q
 unfold gListR at e
 split at e
 ·split at e
  ·next lo hi hd =>
   split at e
   ·next ok =>
    cases e
    obtain ⟨v,rfl,r⟩:=rx.one'
    obtain ⟨p,rfl,s⟩:=rng_of l r hd
    exact ⟨p,lo,hi,rfl,s,(XbP ok).1,(XbP ok).2,fun p hp=>q _ _ _ (Mn.new hp) (l.newL hp (Ybx lo _)) (.ref (newR l))⟩
   ·cases e
  ·cases e
 ·cases e
noncomputable def gTupleR:List D→Dm D
 | [a],st=>match rngOf st a with
  | some (lo,hi)=>if okR lo hi=true then some (.tup (rangeD lo (hi - lo).toNat),st) else none
  | none=>none
 | _,_=>none
noncomputable def iV:D→Option Int
 | .int i=>some i
 | _=>none
theorem Zbk {ρ:List Addr} {H:Hp}:∀ {ws:List V} {ds:List D} {ns:List Int},Rps K ρ H ws ds→mapO iV ds=some ns→ws=ns.map V.int
 | _,_,_,.nil,h=>by cases h;rfl
 | _,_,_,.cons a b,h=>by
  obtain ⟨x,t,h1,h2,rfl⟩:=xaE h
  rw [Zbk b h2]
  cases a <;> first | (cases h1;rfl) | cases h1
noncomputable def sortI (ns:List Int):List Int:=ns.mergeSort fun a b=>decide (a≤b)
theorem Xa9 {ms ns:List Int} (p:ms.Perm ns) (s:ms.Pairwise (·≤·)):ms=sortI ns:=by
 have p2:(sortI ns).Perm ns:=List.mergeSort_perm _ _
 have s2:(sortI ns).Pairwise (·≤·):=by
  have:=List.pairwise_mergeSort (le:=fun a b:Int=>decide (a≤b)) (fun a b c h1 h2=>by simp only [decide_eq_true_eq] at *;omega) (fun a b=>by simp only [Bool.or_eq_true,decide_eq_true_eq];omega) ns
  exact this.imp fun h=>of_decide_eq_true h
 exact (p.trans p2.symm).eq_of_pairwise (fun a b _ _ h1 h2=>Int.le_antisymm h1 h2) s s2
noncomputable def gSorted:List D→Dm D
 | [a],st=>match (seqOf st a).bind (mapO iV) with
  | some ns=>if ns.length < 64 then some (.ref st.length,st ++ [.lst ((sortI ns).map D.int)]) else none
  | none=>none
 | _,_=>none
noncomputable def gRepr:List D→Dm D
 | [a],st=>match toP st 20 a with
  | some p=>if (p.showable && p.canLay0 && decide (p.shown.length≤sizeLine) && decide (p.depth≤60))=true then some (.str p.shown,st) else none
  | none=>none
 | _,_=>none
theorem xbx:SoC K (fun xs H Q=>∃ (x:V) (d:PyData),xs=[x]∧Rep K H x d∧d.showable=true∧d.canLay0=true∧d.shown.length≤sizeLine∧d.depth≤60∧Q (.str d.shown) H) gRepr:=by
 intro ρ H st xs as b st' Q l rx e q
 unfold gRepr at e
 split at e
 ·split at e
  ·next p hp =>
   split at e
   ·next ok =>
    cases e
    rw [Bool.and_eq_true,Bool.and_eq_true,Bool.and_eq_true,decide_eq_true_eq,decide_eq_true_eq] at ok
    obtain ⟨v,rfl,r⟩:=rx.one'
    exact ⟨v,p,rfl,xa9 l 20 r hp,ok.1.1.1,ok.1.1.2,ok.1.2,ok.2,q _ H ρ .refl l (.str _)⟩
   ·cases e
  ·cases e
 ·cases e
noncomputable def bV:D→Option Bool
 | .bl i=>some i
 | _=>none
theorem zbQ {ρ:List Addr} {H:Hp}:∀ {ws:List V} {ds:List D} {ns:List Bool},Rps K ρ H ws ds→mapO bV ds=some ns→ws=ns.map V.bl
 | _,_,_,.nil,h=>by cases h;rfl
 | _,_,_,.cons a b,h=>by
  obtain ⟨x,t,h1,h2,rfl⟩:=xaE h
  rw [zbQ b h2]
  cases a <;> first | (cases h1;rfl) | cases h1
noncomputable def gAll:List D→Dm D
 | [.ref i],st=>match (items st i).bind (mapO bV) with
  | some bs=>some (.bl (bs.all id),st)
  | none=>none
 | _,_=>none
theorem so_all:SoC K (fun xs H Q=>∃ (p:Addr) (bs:List Bool),xs=[.ref p]∧SqL K H p (bs.map V.bl)∧Q (.bl (bs.all id)) H) gAll:=by
 intro ρ H st xs as b st' Q l rx e q
 unfold gAll at e
 split at e
 ·split at e
  ·next bs hd =>
   cases e
   obtain ⟨v,rfl,r⟩:=rx.one'
   obtain ⟨ds,h3,h4⟩:=Option.bind_eq_some_iff.mp hd
   cases r with
   | ref hi =>
    obtain ⟨vs,s,r⟩:=l.items hi h3
    cases zbQ r h4
    exact ⟨_,bs,rfl,s,q _ H ρ .refl l (.bl _)⟩
  ·cases e
 ·cases e
noncomputable def tyD (T:String) (st:Store):D→Bool
 | .str _=>T == "str"
 | .tup _=>T == "tuple"
 | .ref i=>T == "list" && (items st i).isSome
 | _=>false
theorem tyD_of {ρ:List Addr} {H:Hp} {st:Store} {x:V} {a:D} {T:String} (l:Rl K ρ H st) (r:Rp K ρ H x a) (h:tyD T st a=true):tyV K T x H:=by
 cases r <;> first | (cases h;done) | skip
 ·exact eq_of_beq h
 ·next hi =>
  simp only [tyD,Bool.and_eq_true] at h
  obtain ⟨ds,hd⟩:=Option.isSome_iff_exists.mp h.2
  obtain ⟨vs,s,_⟩:=l.items hi hd
  exact .inl ⟨eq_of_beq h.1,vs,s⟩
 ·next s r=>exact .inr (.inl ⟨eq_of_beq h,_,s⟩)
noncomputable def fBM (T:String) (g:D→List D→Dm D) (fo:DSt→Dm D) (fa:DSt→Dm (List D)):DSt→Dm D:=fun δ st=>bnd (fo δ st) fun o st1=>if tyD T st1 o=true then bnd (fa δ st1) fun as st2=>g o as st2 else none
theorem zaO {T:String} {r:V→List V→Hp→VK→Prop} {g:D→List D→Dm D} {to:TE} {ta:TA} {fo:DSt→Dm D} {fa:DSt→Dm (List D)} (hr:SoM K T r g) (ho:SoE K to fo) (ha:SoA K ta fa):SoE K (tBM K T r to ta) (fBM T g fo fa):=by
 intro ρ σ H δ st b st' Q l rs e q
 obtain ⟨o,st1,e1,e⟩:=yac e
 split at e
 ·next ht =>
  obtain ⟨as,st2,e2,e⟩:=yac e
  refine ho ρ σ H δ st o st1 _ l rs e1 fun x H1 ρ1 m1 l1 r1=>⟨tyD_of l1 r1 ht,ha ρ1 σ H1 δ st1 as st2 _ l1 (rs.mn m1) e2 fun xs H2 ρ2 m2 l2 r2=>?_⟩
  exact hr ρ2 H2 st2 x xs o as b st' Q l2 (r1.mn m2) r2 e fun v H3 ρ3 m3 l3 r3=>q v H3 ρ3 ((m1.trans m2).trans m3) l3 r3
 ·cases e
noncomputable def gAppend:D→List D→Dm D
 | .ref i,[y],st=>match own st i with
  | some xs=>if lim xs.length=true then some (.non,st.set i (.lst (xs ++ [y]))) else none
  | none=>none
 | _,_,_=>none
theorem yax:SoM K "list" rAppend gAppend:=by
 intro ρ H st x xs a as b st' Q l rx rxs e q
 unfold gAppend at e
 split at e
 ·split at e
  ·next ys hy =>
   split at e
   ·next hl =>
    cases e
    obtain ⟨v,rfl,r⟩:=rxs.one'
    cases rx with
    | ref hi =>
     obtain ⟨vs,e1,r1⟩:=l.obj _ _ _ hi (Zav hy)
     obtain ⟨l2,m2⟩:=l.putL hi (Zav hy) (r1.append (.one r))
     exact ⟨_,vs,v,rfl,rfl,e1,by rw [r1.length];exact Zbw hl,q _ _ ρ m2 l2 .non⟩
   ·cases e
  ·cases e
 ·cases e
noncomputable def gExtend:D→List D→Dm D
 | .ref i,[.ref j],st=>match own st i,own st j with
  | some xs,some ys=>if lim (xs.length + ys.length)=true then some (.non,st.set i (.lst (xs ++ ys))) else none
  | _,_=>none
 | _,_,_=>none
noncomputable def gPopAt:D→List D→Dm D
 | .ref i,[.int k],st=>match own st i with
  | some xs=>if decide (-9223372036854775808≤k∧k < 9223372036854775808)=true then match seqIndex? k xs.length with
    | some j=>match xs[j]? with
     | some y=>some (y,st.set i (.lst (xs.eraseIdx j)))
     | none=>none
    | none=>none
   else none
  | none=>none
 | _,_,_=>none
theorem ZbJ:SoM K "list" rPopAt gPopAt:=by
 intro ρ H st x xs a as b st' Q l rx rxs e q
 unfold gPopAt at e
 split at e
 ·split at e
  ·next ys hy =>
   split at e
   ·next hk =>
    split at e
    ·next j hj =>
     split at e
     ·next y hy' =>
      cases e
      obtain ⟨v,rfl,r⟩:=rxs.one'
      cases r
      cases rx with
      | ref hi =>
       obtain ⟨vs,e1,r1⟩:=l.obj _ _ _ hi (Zav hy)
       obtain ⟨w,hw,rw'⟩:=r1.got hy'
       obtain ⟨l2,m2⟩:=l.putL hi (Zav hy) (r1.erase j)
       have hk:=of_decide_eq_true hk
       exact ⟨_,vs,_,j,w,rfl,rfl,e1,by omega,by omega,by rw [r1.length];exact hj,hw,q _ _ ρ m2 l2 (rw'.mn m2)⟩
     ·cases e
    ·cases e
   ·cases e
  ·cases e
 ·cases e
noncomputable def gIndex:D→List D→Dm D
 | .tup ds,[.int v],st=>match mapO iV ds with
  | some ns=>match ns.findIdx? (fun i=>decide (i=v)) with
   | some j=>some (.int (j:Int),st)
   | none=>none
  | none=>none
 | _,_,_=>none
theorem za4:SoM K "tuple" (rIndex K) gIndex:=by
 intro ρ H st x xs a as b st' Q l rx rxs e q
 unfold gIndex at e
 split at e
 ·split at e
  ·next ns hn =>
   split at e
   ·next j hj =>
    cases e
    obtain ⟨v,rfl,r⟩:=rxs.one'
    cases r
    cases rx with
    | tup s r =>
     cases Zbk r hn
     obtain ⟨h1,h2,h3⟩:=List.findIdx?_eq_some_iff_getElem.mp hj
     refine ⟨_,ns,_,j,rfl,rfl,s,?_,fun i hi z=>?_,q _ H ρ .refl l (.int _)⟩
     ·rw [List.getElem?_eq_getElem h1];exact congrArg some (of_decide_eq_true h2)
     ·have:=h3 i hi
      obtain ⟨hl,ez⟩:=List.getElem?_eq_some_iff.mp z
      rw [ez] at this
      simp at this
   ·cases e
  ·cases e
 ·cases e
noncomputable def gIndexL:D→List D→Dm D
 | .ref i,[.int v],st=>match (items st i).bind (mapO iV) with
  | some ns=>if v∈ns∧ns.length≤1000∧∀ i∈ns,-1000000000000000000≤i∧i≤1000000000000000000 then some (.int (ns.idxOf v:Int),st) else none
  | none=>none
 | _,_,_=>none
noncomputable def tyNm (st:Store):D→Option String
 | .non=>some "NoneType"
 | .bl _=>some "bool"
 | .int _=>some "int"
 | .str _=>some "str"
 | .tup _=>some "tuple"
 | .ref i=>match st[i]? with
  | some (.lst _)=>some "list"
  | some (.dct _)=>some "dict"
  | _=>none
 | .ty _=>none
noncomputable def gIsinst:List D→Dm D
 | [a,.ty c],st=>match tyNm st a with
  | some T=>if T=c then some (.bl true,st) else none
  | none=>none
 | _,_=>none
end
end L4
namespace L4
open PySem PySem.Spec L2
section
variable {K:PySem.W.Frag}
theorem so_rep:So2 K rRep gRep:=by
 intro ρ H st x y a c b st' Q l rx ry e q
 unfold gRep at e
 split at e
 ·split at e
  ·next ds hd =>
   split at e
   ·next ok =>
    cases e
    rw [Bool.and_eq_true,decide_eq_true_eq] at ok
    cases ry
    cases rx with
    | ref hi =>
     obtain ⟨vs,e1,r1⟩:=l.obj _ _ _ hi (Zav hd)
     exact ⟨_,_,vs,rfl,rfl,e1,by omega,by omega,by rw [r1.length];exact Ya9 ok.2,fun p hp=>q _ _ _ (Mn.new hp) (l.newL hp (r1.flat _)) (.ref (newR l))⟩
   ·cases e
  ·cases e
 ·cases e
theorem Rs.set {ρ:List Addr} {H:Hp} {σ:St} {δ:DSt} {v:V} {d:D} {i:Nat} (h:Rs K ρ H σ δ) (r:Rp K ρ H v d):Rs K ρ H (σ.set i (some v)) (δ.set i (some d)):=by
 refine ⟨by rw [List.length_set,List.length_set];exact h.1,fun j e hj=>?_⟩
 by_cases hij:i=j
 ·subst hij
  have hl:i < δ.length:=by
   have:=(List.getElem?_eq_some_iff.mp hj).1
   rwa [List.length_set] at this
  rw [List.getElem?_set_self hl] at hj
  cases hj
  exact ⟨v,by rw [List.getElem?_set_self (by rw [h.1];exact hl)],r⟩
 ·rw [List.getElem?_set_ne hij] at hj
  obtain ⟨w,hw,rw'⟩:=h.2 j e hj
  exact ⟨w,by rw [List.getElem?_set_ne hij];exact hw,rw'⟩
noncomputable def SoG (K:PySem.W.Frag) (g:TG) (f:D→DSt→Dm DSt):Prop :=
 ∀ (ρ:List Addr) (σ:St) (H:Hp) (δ:DSt) (st:Store) (v:V) (d:D) (δ':DSt) (st':Store) (Q:St→Hp→Prop),Rl K ρ H st→Rs K ρ H σ δ→Rp K ρ H v d→f d δ st=some (δ',st') →
  (∀ σ' H' ρ',Mn K ρ H ρ' H'→Rl K ρ' H' st'→Rs K ρ' H' σ' δ'→Q σ' H')→g v σ H Q
noncomputable def SoGs (K:PySem.W.Frag) (g:TGs) (f:List D→DSt→Dm DSt):Prop :=
 ∀ (ρ:List Addr) (σ:St) (H:Hp) (δ:DSt) (st:Store) (v:List V) (d:List D) (δ':DSt) (st':Store) (Q:St→Hp→Prop),Rl K ρ H st→Rs K ρ H σ δ→Rps K ρ H v d→f d δ st=some (δ',st') →
  (∀ σ' H' ρ',Mn K ρ H ρ' H'→Rl K ρ' H' st'→Rs K ρ' H' σ' δ'→Q σ' H')→g v σ H Q
noncomputable def hName (i:Nat):D→DSt→Dm DSt:=fun d δ st=>some (δ.set i (some d),st)
theorem Zab (i:Nat):SoG K (gName i) (hName i):=by
 intro ρ σ H δ st v d δ' st' Q l rs r e q
 cases e
 exact q _ H ρ .refl l (rs.set r)
noncomputable def hNil:List D→DSt→Dm DSt
 | [],δ,st=>some (δ,st)
 | _,_,_=>none
noncomputable def hCons (f:D→DSt→Dm DSt) (g:List D→DSt→Dm DSt):List D→DSt→Dm DSt
 | d :: ds,δ,st=>bnd (f d δ st) fun δ1 st1=>g ds δ1 st1
 | _,_,_=>none
theorem yaQ:SoGs K gNil hNil:=by
 intro ρ σ H δ st v d δ' st' Q l rs r e q
 cases r with
 | nil=>cases e;exact ⟨rfl,q _ H ρ .refl l rs⟩
 | cons a b=>cases e
theorem zap {t:TG} {u:TGs} {f:D→DSt→Dm DSt} {g:List D→DSt→Dm DSt} (hf:SoG K t f) (hg:SoGs K u g):SoGs K (gCons t u) (hCons f g):=by
 intro ρ σ H δ st v d δ' st' Q l rs r e q
 cases r with
 | nil=>cases e
 | cons a b =>
  obtain ⟨δ1,st1,e1,e⟩:=yac e
  exact ⟨_,_,rfl,hf ρ σ H δ st _ _ δ1 st1 _ l rs a e1 fun σ1 H1 ρ1 m1 l1 r1=>hg ρ1 σ1 H1 δ1 st1 _ _ δ' st' Q l1 r1 (b.mn m1) e fun σ2 H2 ρ2 m2 l2 r2=>q σ2 H2 ρ2 (m1.trans m2) l2 r2⟩
noncomputable def hTup (n:Nat) (f:List D→DSt→Dm DSt):D→DSt→Dm DSt
 | .tup ds,δ,st=>if ds.length=n then f ds δ st else none
 | _,_,_=>none
theorem ZaQ {n:Nat} {t:TGs} {f:List D→DSt→Dm DSt} (hf:SoGs K t f):SoG K (gTup K n t) (hTup n f):=by
 intro ρ σ H δ st v d δ' st' Q l rs r e q
 cases r <;> first | (cases e;done) | skip
 ·next s r =>
  simp only [hTup] at e
  split at e
  ·next hl=>exact ⟨_,_,rfl,s,by rw [r.length];exact hl,hf ρ σ H δ st _ _ δ' st' Q l rs r e q⟩
  ·cases e
noncomputable def hSub (fo fi:DSt→Dm D):D→DSt→Dm DSt:=fun d δ st=>bnd (fo δ st) fun o st1=>bnd (fi δ st1) fun i st2=>match o,i with
 | .ref r,.int k=>match own st2 r with
  | some xs=>match ixN xs.length k with
   | some j=>some (δ,st2.set r (.lst (xs.set j d)))
   | none=>none
  | none=>none
 | _,_=>none
theorem yaW {to ti:TE} {fo fi:DSt→Dm D} (ho:SoE K to fo) (hi:SoE K ti fi):SoG K (L2.gSub to ti rSetL) (hSub fo fi):=by
 intro ρ σ H δ st v d δ' st' Q l rs r e q
 obtain ⟨o,st1,e1,e⟩:=yac e
 obtain ⟨i,st2,e2,e⟩:=yac e
 refine ho ρ σ H δ st o st1 _ l rs e1 fun x H1 ρ1 m1 l1 r1=>hi ρ1 σ H1 δ st1 i st2 _ l1 (rs.mn m1) e2 fun y H2 ρ2 m2 l2 r2=>?_
 split at e
 ·split at e
  ·next xs hx =>
   split at e
   ·next j hj =>
    cases e
    cases r2
    cases r1 with
    | ref hr =>
     have hr2:=m2.r _ _ hr
     obtain ⟨vs,e3,r3⟩:=l2.obj _ _ _ hr2 (Zav hx)
     obtain ⟨l3,m3⟩:=l2.putL hr2 (Zav hx) (r3.set (r.mn (m1.trans m2)) j)
     exact ⟨_,vs,_,j,rfl,rfl,e3,by rw [r3.length];exact hj,q σ _ ρ2 ((m1.trans m2).trans m3) l3 (rs.mn ((m1.trans m2).trans m3))⟩
   ·cases e
  ·cases e
 ·cases e
noncomputable def Go (K:PySem.W.Frag) (ρ:List Addr) (H:Hp) (st':Store) (E:Ends):Fl→Prop
 | .nx δ=>∀ σ' H' ρ',Mn K ρ H ρ' H'→Rl K ρ' H' st'→Rs K ρ' H' σ' δ→E.nx σ' H'
 | .bk δ=>∀ σ' H' ρ',Mn K ρ H ρ' H'→Rl K ρ' H' st'→Rs K ρ' H' σ' δ→E.bk σ' H'
 | .ct δ=>∀ σ' H' ρ',Mn K ρ H ρ' H'→Rl K ρ' H' st'→Rs K ρ' H' σ' δ→E.ct σ' H'
 | .rt d=>∀ v H' ρ',Mn K ρ H ρ' H'→Rl K ρ' H' st'→Rp K ρ' H' v d→E.rt v H'
theorem Go.mn {ρ ρ1:List Addr} {H H1:Hp} {st':Store} {E:Ends} {fl:Fl} (g:Go K ρ H st' E fl) (m:Mn K ρ H ρ1 H1):Go K ρ1 H1 st' E fl:=by
 cases fl <;> exact fun v H' ρ' m' l r=>g v H' ρ' (m.trans m') l r
noncomputable def SoS (K:PySem.W.Frag) (t:TS) (f:DSt→Dm Fl):Prop :=
 ∀ (ρ:List Addr) (σ:St) (H:Hp) (δ:DSt) (st:Store) (fl:Fl) (st':Store) (E:Ends),Rl K ρ H st→Rs K ρ H σ δ→f δ st=some (fl,st')→Go K ρ H st' E fl→t E σ H
noncomputable def fNext:DSt→Dm Fl:=fun δ st=>some (.nx δ,st)
theorem yaq:SoS K tNext fNext:=by
 intro ρ σ H δ st fl st' E l rs e g
 cases e
 exact g σ H ρ .refl l rs
noncomputable def fSeq (f g:DSt→Dm Fl):DSt→Dm Fl:=fun δ st=>bnd (f δ st) fun fl st1=>match fl with
 | .nx δ1=>g δ1 st1
 | x=>some (x,st1)
theorem zae {t u:TS} {f g:DSt→Dm Fl} (hf:SoS K t f) (hg:SoS K u g):SoS K (tSeq t u) (fSeq f g):=by
 intro ρ σ H δ st fl st' E l rs e q
 obtain ⟨x,st1,e1,e⟩:=yac e
 refine hf ρ σ H δ st x st1 _ l rs e1 ?_
 cases x with
 | nx δ1=>exact fun σ1 H1 ρ1 m1 l1 r1=>hg ρ1 σ1 H1 δ1 st1 fl st' E l1 r1 e (q.mn m1)
 | bk δ1=>cases e;exact q
 | ct δ1=>cases e;exact q
 | rt d=>cases e;exact q
theorem xau {c:TT} {t u:TS} {fc:DSt→Dm Bool} {f g:DSt→Dm Fl} (hc:SoT K c fc) (hf:SoS K t f) (hg:SoS K u g):SoS K (tIfS c t u) (fIf fc f g):=by
 intro ρ σ H δ st fl st' E l rs e q
 obtain ⟨a,st1,e1,e⟩:=yac e
 refine hc ρ σ H δ st _ _ _ l rs e1 fun x H1 ρ1 m1 l1 r1=>?_
 subst r1
 cases x with
 | true =>
  refine iteT ?_
  rw [if_pos rfl] at e
  exact hf ρ1 σ H1 δ st1 fl st' E l1 (rs.mn m1) e (q.mn m1)
 | false =>
  refine iteF ?_
  rw [if_neg Bool.false_ne_true] at e
  exact hg ρ1 σ H1 δ st1 fl st' E l1 (rs.mn m1) e (q.mn m1)
noncomputable def fDrop (f:DSt→Dm D):DSt→Dm Fl:=fun δ st=>bnd (f δ st) fun _ st1=>some (.nx δ,st1)
theorem YaG {t:TE} {f:DSt→Dm D} (hf:SoE K t f):SoS K (tDrop t) (fDrop f):=by
 intro ρ σ H δ st fl st' E l rs e q
 obtain ⟨a,st1,e1,e⟩:=yac e
 cases e
 exact hf ρ σ H δ st a _ _ l rs e1 fun x H1 ρ1 m1 l1 r1=>q σ H1 ρ1 m1 l1 (rs.mn m1)
noncomputable def fRet (f:DSt→Dm D):DSt→Dm Fl:=fun δ st=>bnd (f δ st) fun d st1=>some (.rt d,st1)
theorem Yaj {t:TE} {f:DSt→Dm D} (hf:SoE K t f):SoS K (tRet t) (fRet f):=by
 intro ρ σ H δ st fl st' E l rs e q
 obtain ⟨a,st1,e1,e⟩:=yac e
 cases e
 exact hf ρ σ H δ st a _ _ l rs e1 fun x H1 ρ1 m1 l1 r1=>q x H1 ρ1 m1 l1 r1
noncomputable def fAsg (f:DSt→Dm D) (h:D→DSt→Dm DSt):DSt→Dm Fl:=fun δ st=>bnd (f δ st) fun d st1=>bnd (h d δ st1) fun δ1 st2=>some (.nx δ1,st2)
theorem zaf {t:TE} {g:TG} {f:DSt→Dm D} {h:D→DSt→Dm DSt} (hf:SoE K t f) (hh:SoG K g h):SoS K (tAsg t g) (fAsg f h):=by
 intro ρ σ H δ st fl st' E l rs e q
 obtain ⟨a,st1,e1,e⟩:=yac e
 obtain ⟨δ1,st2,e2,e⟩:=yac e
 cases e
 exact hf ρ σ H δ st a st1 _ l rs e1 fun x H1 ρ1 m1 l1 r1=>hh ρ1 σ H1 δ st1 x a δ1 _ _ l1 (rs.mn m1) r1 e2 fun σ2 H2 ρ2 m2 l2 r2=>q σ2 H2 ρ2 (m1.trans m2) l2 r2
noncomputable def fPar (i j:Nat) (fa:DSt→Dm (List D)):DSt→Dm Fl:=fun δ st=>bnd (fa δ st) fun as st1=>match as with
 | [a,b]=>some (.nx ((δ.set i (some a)).set j (some b)),st1)
 | _=>none
theorem Xbx {i j:Nat} {t:TA} {fa:DSt→Dm (List D)} (ha:SoA K t fa):SoS K (tPar i j t) (fPar i j fa):=by
 intro ρ σ H δ st fl st' E l rs e q
 obtain ⟨as,st1,e1,e⟩:=yac e
 split at e
 ·cases e
  refine ha ρ σ H δ st _ _ _ l rs e1 fun x H1 ρ1 m1 l1 r1=>?_
  obtain ⟨v,w,rfl,r,r'⟩:=r1.two'
  exact ⟨v,w,rfl,q _ H1 ρ1 m1 l1 (((rs.mn m1).set r).set r')⟩
 ·cases e
noncomputable def fWhileGo (c:DSt→Dm Bool) (b:DSt→Dm Fl):Nat→DSt→Dm Fl
 | 0,_,_=>none
 | n + 1,δ,st=>bnd (c δ st) fun t st1=>if t=true then bnd (b δ st1) fun fl st2=>match fl with
   | .nx δ2=>fWhileGo c b n δ2 st2
   | .ct δ2=>fWhileGo c b n δ2 st2
   | .bk δ2=>some (.nx δ2,st2)
   | .rt d=>some (.rt d,st2)
  else some (.nx δ,st1)
noncomputable def fuel:Nat:=1000000
noncomputable def fWhile (c:DSt→Dm Bool) (b:DSt→Dm Fl):DSt→Dm Fl:=fWhileGo c b fuel
theorem yaT {tc:TT} {tb:TS} {c:DSt→Dm Bool} {b:DSt→Dm Fl} (hc:SoT K tc c) (hb:SoS K tb b):SoS K (tWhile tc tb) (fWhile c b):=by
 intro ρ σ H δ st fl st' E l rs e q
 refine ⟨fun m σ1 H1=>∃ ρ1 δ1 st1,Mn K ρ H ρ1 H1∧Rl K ρ1 H1 st1∧Rs K ρ1 H1 σ1 δ1∧fWhileGo c b m δ1 st1=some (fl,st'),⟨fuel,ρ,δ,st,.refl,l,rs,e⟩,?_⟩
 rintro m σ1 H1 ⟨ρ1,δ1,st1,m1,l1,rs1,e1⟩
 cases m with
 | zero=>cases e1
 | succ m =>
  obtain ⟨t,st2,e2,e1⟩:=yac e1
  refine hc ρ1 σ1 H1 δ1 st1 _ _ _ l1 rs1 e2 fun x H2 ρ2 m2 l2 r2=>?_
  subst r2
  cases x with
  | true =>
   refine iteT ?_
   rw [if_pos rfl] at e1
   obtain ⟨f2,st3,e3,e1⟩:=yac e1
   refine ⟨fun σ3 H3=>∃ m',m' < m + 1∧∃ ρ1 δ1 st1,Mn K ρ H ρ1 H3∧Rl K ρ1 H3 st1∧Rs K ρ1 H3 σ3 δ1∧fWhileGo c b m' δ1 st1=some (fl,st'),fun _ _ h=>h,hb ρ2 σ1 H2 δ1 st2 f2 st3 _ l2 (rs1.mn m2) e3 ?_⟩
   cases f2 with
   | nx δ3=>exact fun σ3 H3 ρ3 m3 l3 r3=>⟨m,Nat.lt_succ_self m,ρ3,δ3,st3,(m1.trans m2).trans m3,l3,r3,e1⟩
   | ct δ3=>exact fun σ3 H3 ρ3 m3 l3 r3=>⟨m,Nat.lt_succ_self m,ρ3,δ3,st3,(m1.trans m2).trans m3,l3,r3,e1⟩
   | bk δ3=>cases e1;exact q.mn (m1.trans m2)
   | rt d=>cases e1;exact q.mn (m1.trans m2)
  | false =>
   refine iteF ?_
   rw [if_neg Bool.false_ne_true] at e1
   cases e1
   exact q.mn (m1.trans m2) σ1 H2 ρ2 .refl l2 (rs1.mn m2)
inductive Src where
 | fix (ds:List D) | live (i:Nat) | enm (i:Nat)
noncomputable def Src.at:Src→Nat→Store→Option (Option D)
 | .fix ds,i,_=>if i≤ds.length then some ds[i]? else none
 | .live r,i,st=>(items st r).map fun ds=>ds[i]?
 | .enm r,i,st=>(items st r).bind fun ds=>if i≤ds.length then some (ds.mapIdx fun i d=>D.tup [.int (i:Int),d])[i]? else none
theorem XaR {ds:List D} {i:Nat} {st:Store} {o:Option D} (h:Src.at (.fix ds) i st=some o):i≤ds.length∧ds[i]?=o:=by
 simp only [Src.at] at h
 split at h
 ·next hl=>exact ⟨hl,Option.some.inj h⟩
 ·cases h
noncomputable def ItOk (K:PySem.W.Frag) (ρ:List Addr) (H:Hp) (J:It) (S:Src):Prop :=
 ∀ (ρ2:List Addr) (H2:Hp) (st2:Store) (i:Nat),Mn K ρ H ρ2 H2→Rl K ρ2 H2 st2 →
  (S.at i st2=some none→J.stop i H2)∧∀ d,S.at i st2=some (some d)→J.go i H2∧∀ x H3,J.yld i H2 x H3→Mn K ρ2 H2 ρ2 H3∧Rl K ρ2 H3 st2∧Rp K ρ2 H3 x d
abbrev SoI (K:PySem.W.Frag) (t:TI) (f:DSt→Dm Src):Prop:=So K (ItOk K) t f
noncomputable def fForGo (S:Src) (g:D→DSt→Dm DSt) (b:DSt→Dm Fl):Nat→Nat→DSt→Dm Fl
 | 0,_,_,_=>none
 | n + 1,i,δ,st=>match S.at i st with
  | none=>none
  | some none=>some (.nx δ,st)
  | some (some d)=>bnd (g d δ st) fun δ1 st1=>bnd (b δ1 st1) fun fl st2=>match fl with
   | .nx δ2=>fForGo S g b n (i + 1) δ2 st2
   | .ct δ2=>fForGo S g b n (i + 1) δ2 st2
   | .bk δ2=>some (.nx δ2,st2)
   | .rt d=>some (.rt d,st2)
noncomputable def fFor (fi:DSt→Dm Src) (g:D→DSt→Dm DSt) (b:DSt→Dm Fl):DSt→Dm Fl:=fun δ st=>bnd (fi δ st) fun S st1=>fForGo S g b fuel 0 δ st1
theorem XaC {wi:TI} {tg:TG} {tb:TS} {fi:DSt→Dm Src} {g:D→DSt→Dm DSt} {b:DSt→Dm Fl} (hi:SoI K wi fi) (hg:SoG K tg g) (hb:SoS K tb b):SoS K (tFor wi tg tb) (fFor fi g b):=by
 intro ρ σ H δ st fl st' E l rs e q
 obtain ⟨S,st0,e0,e⟩:=yac e
 refine hi ρ σ H δ st S st0 _ l rs e0 fun J H0 ρ0 m0 l0 ok=>?_
 refine ⟨fun i m σ1 H1=>∃ ρ1 δ1 st1,Mn K ρ0 H0 ρ1 H1∧Rl K ρ1 H1 st1∧Rs K ρ1 H1 σ1 δ1∧fForGo S g b m i δ1 st1=some (fl,st'),⟨fuel,ρ0,δ,st0,.refl,l0,rs.mn m0,e⟩,?_⟩
 rintro i m σ1 H1 ⟨ρ1,δ1,st1,m1,l1,rs1,e1⟩
 cases m with
 | zero=>cases e1
 | succ m =>
  obtain ⟨hstop,hgo⟩:=ok ρ1 H1 st1 i m1 l1
  unfold fForGo at e1
  split at e1
  ·cases e1
  ·next hs=>cases e1;exact .inl ⟨hstop hs,q.mn (m0.trans m1) σ1 H1 ρ1 .refl l1 rs1⟩
  ·next d hs =>
   obtain ⟨δ2,st2,e2,e1⟩:=yac e1
   obtain ⟨f3,st3,e3,e1⟩:=yac e1
   obtain ⟨go,yld⟩:=hgo d hs
   refine .inr ⟨go,fun σ3 H3=>∃ m',m' < m + 1∧∃ ρ1 δ1 st1,Mn K ρ0 H0 ρ1 H3∧Rl K ρ1 H3 st1∧Rs K ρ1 H3 σ3 δ1∧fForGo S g b m' (i + 1) δ1 st1=some (fl,st'),fun _ _ h=>h,fun x H2 hy=>?_⟩
   obtain ⟨m2,l2,r2⟩:=yld x H2 hy
   refine hg ρ1 σ1 H2 δ1 st1 x d δ2 st2 _ l2 (rs1.mn m2) r2 e2 fun σ4 H4 ρ4 m4 l4 r4=>hb ρ4 σ4 H4 δ2 st2 f3 st3 _ l4 r4 e3 ?_
   have m5:=((m1.trans m2).trans m4)
   cases f3 with
   | nx δ3=>exact fun σ5 H5 ρ5 m6 l5 r5=>⟨m,Nat.lt_succ_self m,ρ5,δ3,st3,m5.trans m6,l5,r5,e1⟩
   | ct δ3=>exact fun σ5 H5 ρ5 m6 l5 r5=>⟨m,Nat.lt_succ_self m,ρ5,δ3,st3,m5.trans m6,l5,r5,e1⟩
   | bk δ3=>cases e1;exact q.mn (m0.trans m5)
   | rt d=>cases e1;exact q.mn (m0.trans m5)
noncomputable def iTupF (fa:DSt→Dm D):DSt→Dm Src:=fun δ st=>bnd (fa δ st) fun a st1=>match a with
 | .tup ds=>some (.fix ds,st1)
 | _=>none
theorem zaM {t:TE} {fa:DSt→Dm D} (ha:SoE K t fa):SoI K (iTup K t) (iTupF fa):=by
 intro ρ σ H δ st S st' Q l rs e q
 obtain ⟨a,st1,e1,e⟩:=yac e
 cases a <;> simp at e
 obtain ⟨rfl,rfl⟩:=e
 refine ha ρ σ H δ st _ _ _ l rs e1 fun x H1 ρ1 m1 l1 r1=>?_
 cases r1 with
 | tup s r =>
  refine ⟨_,rfl,⟨_,s⟩,q _ H1 ρ1 m1 l1 fun ρ2 H2 st2 i m2 l2=>⟨fun h=>?_,fun d h=>?_⟩⟩
  ·exact ⟨_,m2.t _ _ s,by rw [r.length];exact List.getElem?_eq_none_iff.mp (XaR h).2⟩
  ·obtain ⟨v,hv,rv⟩:=r.got (XaR h).2
   refine ⟨⟨_,v,m2.t _ _ s,hv⟩,fun x H3 y=>?_⟩
   obtain ⟨rfl,hx⟩:=y
   have:=hx _ (m2.t _ _ s)
   rw [hv] at this
   cases this
   exact ⟨.refl,l2,rv.mn m2⟩
noncomputable def iListF (fa:DSt→Dm D):DSt→Dm Src:=fun δ st=>bnd (fa δ st) fun a st1=>match a with
 | .ref i=>match items st1 i with
  | some _=>some (.live i,st1)
  | none=>none
 | _=>none
theorem yaO {t:TE} {fa:DSt→Dm D} (ha:SoE K t fa):SoI K (iList K t) (iListF fa):=by
 intro ρ σ H δ st S st' Q l rs e q
 obtain ⟨a,st1,e1,e⟩:=yac e
 split at e
 ·next k =>
  split at e
  ·next ds hd =>
   cases e
   refine ha ρ σ H δ st _ _ _ l rs e1 fun x H1 ρ1 m1 l1 r1=>?_
   cases r1 with
   | ref hi =>
    obtain ⟨vs,s,r⟩:=l1.items hi hd
    refine ⟨_,rfl,⟨_,s⟩,q _ H1 ρ1 m1 l1 fun ρ2 H2 st2 i m2 l2=>⟨fun h=>?_,fun d h=>?_⟩⟩
    ·obtain ⟨ds2,hd2,h⟩:=Option.map_eq_some_iff.mp h
     obtain ⟨vs2,s2,r2⟩:=l2.items (m2.r _ _ hi) hd2
     exact ⟨vs2,s2,by rw [r2.length];exact List.getElem?_eq_none_iff.mp h⟩
    ·obtain ⟨ds2,hd2,h⟩:=Option.map_eq_some_iff.mp h
     obtain ⟨vs2,s2,r2⟩:=l2.items (m2.r _ _ hi) hd2
     obtain ⟨v,hv,rv⟩:=r2.got h
     refine ⟨⟨_,v,s2,hv⟩,fun x H3 y=>?_⟩
     obtain ⟨rfl,hx⟩:=y
     have:=hx _ s2
     rw [hv] at this
     cases this
     exact ⟨.refl,l2,rv⟩
  ·cases e
 ·cases e
noncomputable def iRng1F (fa:DSt→Dm (List D)):DSt→Dm Src:=fun δ st=>bnd (fa δ st) fun as st1=>match as with
 | [.int j]=>if decide (-4611686018427387904≤j∧j < 4611686018427387904)=true then some (.fix (rangeD 0 j.toNat),st1) else none
 | _=>none
noncomputable def iRng2F (fa:DSt→Dm (List D)):DSt→Dm Src:=fun δ st=>bnd (fa δ st) fun as st1=>match as with
 | [.int i,.int j]=>if decide ((-4611686018427387904≤i∧i < 4611686018427387904)∧-4611686018427387904≤j∧j < 4611686018427387904)=true then some (.fix (rangeD i (j - i).toNat),st1) else none
 | _=>none
theorem xab (lo:Int) (n:Nat):(rangeD lo n).length=n:=by simp [rangeD]
theorem YaK {lo:Int} {n k:Nat} (h:k < n):(rangeD lo n)[k]?=some (.int (lo + k)):=by simp [rangeD,h]
theorem it_rng {ρ:List Addr} {H:Hp} (lo:Int) (n:Nat):ItOk K ρ H (Itr lo n) (.fix (rangeD lo n)):=by
 intro ρ2 H2 st2 i m2 l2
 refine ⟨fun h=>?_,fun d h=>?_⟩
 ·have:=List.getElem?_eq_none_iff.mp (XaR h).2
  rw [xab] at this
  exact this
 ·have h:=(XaR h).2
  have hl:=(List.getElem?_eq_some_iff.mp h).1
  rw [xab] at hl
  rw [YaK hl] at h
  cases h
  refine ⟨hl,fun x H3 y=>?_⟩
  obtain ⟨rfl,rfl⟩:=y
  exact ⟨.refl,l2,.int _⟩
theorem Zam {t:TA} {fa:DSt→Dm (List D)} (ha:SoA K t fa):SoI K (iRng1 t) (iRng1F fa):=by
 intro ρ σ H δ st S st' Q l rs e q
 obtain ⟨as,st1,e1,e⟩:=yac e
 split at e
 ·split at e
  ·next ok =>
   cases e
   have ok:=of_decide_eq_true ok
   refine ha ρ σ H δ st _ _ _ l rs e1 fun x H1 ρ1 m1 l1 r1=>?_
   obtain ⟨v,rfl,r⟩:=r1.one'
   cases r
   exact ⟨_,rfl,by omega,by omega,q _ H1 ρ1 m1 l1 (it_rng 0 _)⟩
  ·cases e
 ·cases e
noncomputable def enumD (ds:List D):List D:=ds.mapIdx fun i d=>.tup [.int (i:Int),d]
theorem ZaJ (ds:List D):(enumD ds).length=ds.length:=by simp [enumD]
theorem zba {ds:List D} {i:Nat} {x:D} (h:(enumD ds)[i]?=some x):∃ d,ds[i]?=some d∧x=.tup [.int (i:Int),d]:=by
 unfold enumD at h
 rw [List.getElem?_mapIdx] at h
 obtain ⟨d,h1,h2⟩:=Option.map_eq_some_iff.mp h
 exact ⟨d,h1,h2.symm⟩
noncomputable def iEnumF (fa:DSt→Dm (List D)):DSt→Dm Src:=fun δ st=>bnd (fa δ st) fun as st1=>match as with
 | [.tup ds]=>some (.fix (enumD ds),st1)
 | _=>none
theorem YbJ {t:TA} {fa:DSt→Dm (List D)} (ha:SoA K t fa):SoI K (iEnum K t) (iEnumF fa):=by
 intro ρ σ H δ st S st' Q l rs e q
 obtain ⟨as,st1,e1,e⟩:=yac e
 split at e
 ·cases e
  refine ha ρ σ H δ st _ _ _ l rs e1 fun x H1 ρ1 m1 l1 r1=>?_
  obtain ⟨v,rfl,r⟩:=r1.one'
  cases r with
  | tup s r =>
   refine ⟨_,rfl,⟨_,s⟩,q _ H1 ρ1 m1 l1 fun ρ2 H2 st2 i m2 l2=>⟨fun h=>?_,fun d h=>?_⟩⟩
   ·obtain ⟨h1,h2⟩:=XaR h
    have h2:=List.getElem?_eq_none_iff.mp h2
    rw [ZaJ] at h1 h2
    exact ⟨_,m2.t _ _ s,by rw [r.length];omega⟩
   ·obtain ⟨h1,h2⟩:=XaR h
    obtain ⟨d',hd',rfl⟩:=zba h2
    obtain ⟨v,hv,rv⟩:=r.got hd'
    refine ⟨⟨_,v,m2.t _ _ s,hv⟩,fun x H3 y=>?_⟩
    obtain ⟨p,z,rfl,hp,rfl,hx⟩:=y
    have:=hx _ (m2.t _ _ s)
    rw [hv] at this
    cases this
    have m3:Mn K ρ2 H2 ρ2 (upd H2 p (.tup [.int (i:Int),v])):=Mn.same (Same.up hp)
    exact ⟨m3,l2.same (Same.up hp),.tup (SqT.of xao) (.cons (.int _) (.one ((rv.mn m2).mn m3)))⟩
 ·cases e
noncomputable def fCompGo (S:Src) (g:D→DSt→Dm DSt) (tc:DSt→Dm Bool) (te:DSt→Dm D):Nat→Nat→List D→DSt→Dm (List D)
 | 0,_,_,_,_=>none
 | n + 1,i,ys,δ,st=>if lim ys.length=true then match S.at i st with
  | none=>none
  | some none=>some (ys,st)
  | some (some d)=>bnd (g d δ st) fun δ1 st1=>bnd (tc δ1 st1) fun t st2=>if t=true then bnd (te δ1 st2) fun y st3=>fCompGo S g tc te n (i + 1) (ys ++ [y]) δ1 st3 else fCompGo S g tc te n (i + 1) ys δ1 st2
  else none
noncomputable def compD (n:Nat) (js:List Nat) (δ:DSt):DSt:=List.replicate n none ++ js.map fun j=>δ.getD j none
noncomputable def fComp (fi:DSt→Dm Src) (n:Nat) (js:List Nat) (g:D→DSt→Dm DSt) (tc:DSt→Dm Bool) (te:DSt→Dm D):DSt→Dm D:=fun δ st=>bnd (fi δ st) fun S st1=>bnd (fCompGo S g tc te fuel 0 [] (compD n js δ) st1) fun ys st2=>some (.ref st2.length,st2 ++ [.lst ys])
theorem Rs.comp {ρ:List Addr} {H:Hp} {σ:St} {δ:DSt} (h:Rs K ρ H σ δ) (n:Nat) (js:List Nat):Rs K ρ H (compSt n js σ) (compD n js δ):=by
 unfold compSt compD
 refine ⟨by simp,fun i d hd=>?_⟩
 by_cases hi:i < n
 ·rw [List.getElem?_append_left (by simpa using hi),List.getElem?_replicate,if_pos hi] at hd
  cases hd
 ·rw [List.getElem?_append_right (by simpa using Nat.le_of_not_lt hi),List.getElem?_map] at hd
  rw [List.getElem?_append_right (by simpa using Nat.le_of_not_lt hi),List.getElem?_map]
  simp only [List.length_replicate] at hd ⊢
  cases hj:js[i - n]? with
  | none=>rw [hj] at hd;cases hd
  | some j =>
   rw [hj] at hd
   have hd:δ.getD j none=some d:=Option.some.inj hd
   rw [List.getD_eq_getElem?_getD] at hd
   have hd':δ[j]?=some (some d):=by
    cases hx:δ[j]? with
    | none=>rw [hx] at hd;cases hd
    | some y=>rw [hx] at hd;exact congrArg some hd
   obtain ⟨v,hv,r⟩:=h.2 j d hd'
   exact ⟨v,by show some (σ.getD j none)=_;rw [List.getD_eq_getElem?_getD,hv];rfl,r⟩
theorem yat {wi:TI} {tg:TG} {tc:TT} {te:TE} {fi:DSt→Dm Src} {n:Nat} {js:List Nat} {g:D→DSt→Dm DSt} {c:DSt→Dm Bool} {f:DSt→Dm D} (hi:SoI K wi fi) (hg:SoG K tg g) (hc:SoT K tc c) (hf:SoE K te f):SoE K (tComp wi n js tg tc te) (fComp fi n js g c f):=by
 intro ρ σ H δ st b st' Q l rs e q
 obtain ⟨S,st0,e0,e⟩:=yac e
 obtain ⟨zs,st9,e9,e⟩:=yac e
 cases e
 refine hi ρ σ H δ st S st0 _ l rs e0 fun J H0 ρ0 m0 l0 ok=>?_
 refine ⟨fun i m ys σ1 H1=>∃ ρ1 δ1 st1 ws,Mn K ρ0 H0 ρ1 H1∧Rl K ρ1 H1 st1∧Rs K ρ1 H1 σ1 δ1∧Rps K ρ1 H1 ys ws∧fCompGo S g c f m i ws δ1 st1=some (zs,st9),⟨fuel,ρ0,_,st0,[],.refl,l0,(rs.mn m0).comp n js,.nil,e9⟩,?_⟩
 rintro i m ys σ1 H1 ⟨ρ1,δ1,st1,ws,m1,l1,rs1,rw1,e1⟩
 cases m with
 | zero=>cases e1
 | succ m =>
  obtain ⟨hstop,hgo⟩:=ok ρ1 H1 st1 i m1 l1
  unfold fCompGo at e1
  split at e1
  ·next hl =>
   refine ⟨by rw [rw1.length];exact Zbw hl,?_⟩
   split at e1
   ·cases e1
   ·next hs =>
    cases e1
    exact .inl ⟨hstop hs,fun p hp=>q _ _ _ ((m0.trans m1).trans (Mn.new hp)) (l1.newL hp rw1) (.ref (newR l1))⟩
   ·next d hs =>
    obtain ⟨δ2,st2,e2,e1⟩:=yac e1
    obtain ⟨t,st3,e3,e1⟩:=yac e1
    obtain ⟨go,yld⟩:=hgo d hs
    refine .inr ⟨go,fun x H2 hy=>?_⟩
    obtain ⟨m2,l2,r2⟩:=yld x H2 hy
    refine hg ρ1 σ1 H2 δ1 st1 x d δ2 st2 _ l2 (rs1.mn m2) r2 e2 fun σ4 H4 ρ4 m4 l4 r4=>hc ρ4 σ4 H4 δ2 st2 t st3 _ l4 r4 e3 fun t' H5 ρ5 m5 l5 r5=>?_
    subst r5
    have m6:=(((m1.trans m2).trans m4).trans m5)
    cases t' with
    | true =>
     refine iteT ?_
     rw [if_pos rfl] at e1
     obtain ⟨y,st6,e6,e1⟩:=yac e1
     exact hf ρ5 σ4 H5 δ2 st3 y st6 _ l5 (r4.mn m5) e6 fun v H7 ρ7 m7 l7 r7=>⟨m,Nat.lt_succ_self m,ρ7,δ2,st6,ws ++ [y],m6.trans m7,l7,r4.mn (m5.trans m7),(rw1.mn (((m2.trans m4).trans m5).trans m7)).append (.one r7),e1⟩
    | false =>
     refine iteF ?_
     rw [if_neg Bool.false_ne_true] at e1
     exact ⟨m,Nat.lt_succ_self m,ρ5,δ2,st3,ws,m6,l5,r4.mn m5,rw1.mn ((m2.trans m4).trans m5),e1⟩
  ·cases e1
noncomputable def fTrue:DSt→Dm Bool:=fun _ st=>some (true,st)
noncomputable def fnF (n:Nat) (b:DSt→Dm Fl):List D→Dm D:=fun ds st=>bnd (b (ds.map some ++ List.replicate (n - ds.length) none) st) fun fl st1=>match fl with
 | .rt d=>some (d,st1)
 | .nx _=>some (.non,st1)
 | _=>none
theorem Rs.start {ρ:List Addr} {H:Hp} {vs:List V} {ds:List D} (r:Rps K ρ H vs ds) (N:List Str):Rs K ρ H (start N vs) (ds.map some ++ List.replicate (N.length - ds.length) none):=by
 unfold L2.start
 rw [r.length]
 refine ⟨by simp [r.length],fun i d hd=>?_⟩
 by_cases hi:i < ds.length
 ·rw [List.getElem?_append_left (by simpa using hi),List.getElem?_map] at hd
  rw [List.getElem?_append_left (by rw [List.length_map,r.length];exact hi),List.getElem?_map]
  cases hx:ds[i]? with
  | none=>rw [hx] at hd;cases hd
  | some y =>
   rw [hx] at hd
   cases hd
   obtain ⟨v,hv,rv⟩:=r.got hx
   exact ⟨v,by rw [hv];rfl,rv⟩
 ·rw [List.getElem?_append_right (by simpa using Nat.le_of_not_lt hi),List.getElem?_replicate] at hd
  split at hd <;> cases hd
theorem yaC {N:List Str} {k n:Nat} {t:TS} {b:DSt→Dm Fl} {vs:List V} {H:Hp} {Q:VK} {E:XK} (hb:SoS K t b) (hn:N.length=n) (h:spF K k (fnF n b) vs H Q E):t { nx:=fun _ H'=>Q .non H',rt:=Q } (start N vs) H:=by
 obtain ⟨hk,ρ,st,ds,d,st',l,r,e,q⟩:=h
 subst hn
 obtain ⟨fl,st1,e1,e⟩:=yac e
 refine hb ρ _ H _ st fl st1 _ l (Rs.start r N) e1 ?_
 cases fl with
 | rt v=>cases e;exact q
 | nx δ=>cases e;exact fun σ' H' ρ' m l' r'=>q .non H' ρ' m l' .non
 | bk δ=>cases e
 | ct δ=>cases e
end
end L4
namespace L4
open PySem PySem.Spec L2
section
variable {X:Cx} {K:PySem.W.Frag}
theorem xa0 {N:List Str} {scope1:Scope} {cells:List (Str×Addr)} {C:Addr} {fp:List Addr} {s:Shared} {H:Hp} {scope2:Scope} {own fr:List Str} (h:CompS (relabelS scope1 X.env.scope) scope2 own fr):CompS (cxComp X N scope1 cells C fp s H).env.scope scope2 own fr:=h
theorem yay:SoT K (fun _ H Q=>Q true H) fTrue:=by
 intro ρ σ H δ st b st' Q l rs e q
 cases e
 exact q _ H ρ .refl l rfl
end
noncomputable def spLaw (K:PySem.W.Frag):Sp:=fun vs H Q _=>∃ (a:Addr) (ns:List Int),vs=[.ref a]∧SqF K H a (ns.map V.int)∧ns.length≤63∧∀ H',Q (.bl true) H'
theorem law_of {P:Program} {w:World} {K:PySem.W.Frag} {mg:Str→Option Value} {base:Heap} {k:Nat} {f:Addr} {fd:FuncData} {ps:List Str} {F:List D→Dm D} (G:FnOk P w K mg base CX0 k f fd ps (spF K 1 F))
  (h:∀ ns:List Int,ns.length≤63→∃ st',F [.ref 0] [.fzn (ns.map D.int)]=some (.bl true,st')):FnOk P w K mg base CX0 k f fd ps (spLaw K):=by
 refine G.imp fun vs H Q E hs=>?_
 obtain ⟨a,ns,rfl,hS,hn,q⟩:=hs
 obtain ⟨st',e⟩:=h ns hn
 have one:∀ i (b:Addr),([a]:List Addr)[i]?=some b→i=0∧b=a:=fun i b h=>by
  cases i with
  | zero=>exact ⟨rfl,(Option.some.inj h).symm⟩
  | succ i=>simp at h
 refine ⟨rfl,[a],[.fzn (ns.map D.int)],[.ref 0],.bl true,st',⟨rfl,fun i j b o o' h1 h2 _ _ _ _=>by rw [(one i b h1).1,(one j b h2).1],fun i b o h1 h2=>?_⟩,.one (.ref rfl),e,fun v H' ρ' m l r=>by cases r;exact q H'⟩
 obtain ⟨rfl,rfl⟩:=one i b h1
 cases (Option.some.inj h2)
 exact ⟨ns.map V.int,hS,Rps.ints ns⟩
noncomputable def Wp {α:Type} (m:Option (α×Store)) (Q:α→Store→Prop):Prop:=∃ a st,m=some (a,st)∧Q a st
section
variable {α β:Type} {Q Q':α→Store→Prop} {st:Store} {δ:DSt}
theorem Yab {m:Option (α×Store)} (h:Wp m Q) (hq:∀ a st,Q a st→Q' a st):Wp m Q':=let ⟨a,st,e,q⟩:=h;⟨a,st,e,hq a st q⟩
theorem zab {a:α}:Wp (some (a,st)) Q↔Q a st:=⟨fun ⟨_,_,e,q⟩=>by cases e;exact q,fun q=>⟨a,st,rfl,q⟩⟩
theorem yad:Wp (none:Option (α×Store)) Q↔False:=⟨fun ⟨_,_,e,_⟩=>(by cases e),False.elim⟩
theorem yae {R:β→Store→Prop} {m:Option (α×Store)} {k:α→Dm β}:Wp (bnd m k) R↔Wp m fun a st1=>Wp (k a st1) R:=by
 cases m with
 | none=>exact ⟨fun ⟨_,_,e,_⟩=>(by cases e),fun ⟨_,_,e,_⟩=>(by cases e)⟩
 | some p=>exact ⟨fun h=>⟨p.1,p.2,rfl,h⟩,fun ⟨a,s,e,h⟩=>by cases e;exact h⟩
theorem zan {c:Prop} [Decidable c] {m n:Option (α×Store)}:Wp (if c then m else n) Q↔if c then Wp m Q else Wp n Q:=by split <;> exact Iff.rfl
end
section
variable {st:Store} {δ:DSt} {Q:D→Store→Prop}
theorem wp_var {i:Nat}:Wp (fVar i δ st) Q↔∃ d,δ[i]?=some (some d)∧Q d st:=by
 unfold fVar
 split
 ·next d hd=>rw [zab];exact ⟨fun h=>⟨d,hd,h⟩,fun ⟨e,he,h⟩=>by rw [hd] at he;cases he;exact h⟩
 ·next h=>rw [yad];exact ⟨False.elim,fun ⟨e,he,_⟩=>h e he⟩
theorem wp_c {d:D}:Wp (fC d δ st) Q↔Q d st:=zab
theorem wp_op {g:D→D→Dm D} {fa fb:DSt→Dm D}:Wp (fOp g fa fb δ st) Q↔Wp (fa δ st) fun a st1=>Wp (fb δ st1) fun b st2=>Wp (g a b st2) Q:=by
 unfold fOp;rw [yae];simp only [yae]
theorem wp_un {g:D→Dm D} {fa:DSt→Dm D}:Wp (fUn g fa δ st) Q↔Wp (fa δ st) fun a st1=>Wp (g a st1) Q:=yae
theorem wp_cb {g:List D→Dm D} {fa:DSt→Dm (List D)}:Wp (fCB g fa δ st) Q↔Wp (fa δ st) fun a st1=>Wp (g a st1) Q:=yae
theorem wp_nil {R:List D→Store→Prop}:Wp (fNil δ st) R↔R [] st:=zab
theorem ybX {R:List D→Store→Prop} {fa:DSt→Dm D} {fr:DSt→Dm (List D)}:Wp (fCons fa fr δ st) R↔Wp (fa δ st) fun a st1=>Wp (fr δ st1) fun r st2=>R (a :: r) st2:=by
 unfold fCons;rw [yae];simp only [yae,zab]
theorem wp_tup {fa:DSt→Dm (List D)}:Wp (fTup fa δ st) Q↔Wp (fa δ st) fun as st1=>lim as.length=true∧Q (.tup as) st1:=by
 unfold fTup;rw [yae];simp only [zan,zab,yad]
 constructor <;> exact fun h=>Yab h fun a s h=>by first | (split at h;exact ⟨by assumption,h⟩;exact h.elim) | (rw [if_pos h.1];exact h.2)
theorem wp_lst {fa:DSt→Dm (List D)}:Wp (fLst fa δ st) Q↔Wp (fa δ st) fun as st1=>lim as.length=true∧Q (.ref st1.length) (st1 ++ [.lst as]):=by
 unfold fLst;rw [yae];simp only [zan,zab,yad]
 constructor <;> exact fun h=>Yab h fun a s h=>by first | (split at h;exact ⟨by assumption,h⟩;exact h.elim) | (rw [if_pos h.1];exact h.2)
theorem ZbX {R:Bool→Store→Prop} {fa:DSt→Dm D}:Wp (fTest fa δ st) R↔Wp (fa δ st) fun a st1=>∃ b,a=.bl b∧R b st1:=by
 unfold fTest;rw [yae]
 constructor <;> refine fun h=>Yab h fun a s h=>?_
 ·cases a <;> simp only [zab,yad] at h
  exact ⟨_,rfl,h⟩
 ·obtain ⟨b,rfl,h⟩:=h
  exact zab.mpr h
theorem wp_not {R:Bool→Store→Prop} {fa:DSt→Dm Bool}:Wp (fNot fa δ st) R↔Wp (fa δ st) fun a st1=>R (!a) st1:=by
 unfold fNot;rw [yae];simp only [zab]
theorem wp_and {R:Bool→Store→Prop} {fa fb:DSt→Dm Bool}:Wp (fAnd fa fb δ st) R↔Wp (fa δ st) fun a st1=>if a=true then Wp (fb δ st1) R else R false st1:=by
 unfold fAnd;rw [yae];simp only [zan,zab]
theorem wp_or {R:Bool→Store→Prop} {fa fb:DSt→Dm Bool}:Wp (fOr fa fb δ st) R↔Wp (fa δ st) fun a st1=>if a=true then R true st1 else Wp (fb δ st1) R:=by
 unfold fOr;rw [yae];simp only [zan,zab]
theorem wp_if {α:Type} {R:α→Store→Prop} {c:DSt→Dm Bool} {fa fb:DSt→Dm α}:Wp (fIf c fa fb δ st) R↔Wp (c δ st) fun a st1=>if a=true then Wp (fa δ st1) R else Wp (fb δ st1) R:=by
 unfold fIf;rw [yae];simp only [zan]
theorem YbX {fa fb:DSt→Dm D}:Wp (fAndV fa fb δ st) Q↔Wp (fTest fa δ st) fun a st1=>if a=true then Wp (fb δ st1) Q else Q (.bl false) st1:=by
 unfold fAndV;rw [yae];simp only [zan,zab]
theorem wp_orV {fa fb:DSt→Dm D}:Wp (fOrV fa fb δ st) Q↔Wp (fTest fa δ st) fun a st1=>if a=true then Q (.bl true) st1 else Wp (fb δ st1) Q:=by
 unfold fOrV;rw [yae];simp only [zan,zab]
theorem xbX {fa:DSt→Dm D}:Wp (fNotV fa δ st) Q↔Wp (fTest fa δ st) fun a st1=>Q (.bl (!a)) st1:=by
 unfold fNotV;rw [yae];simp only [zab]
theorem zby {R:Option Int→Store→Prop}:Wp (fNoPart δ st) R↔R none st:=zab
theorem XbX {R:Option Int→Store→Prop} {fa:DSt→Dm D}:Wp (fPart fa δ st) R↔Wp (fa δ st) fun a st1=>∃ i,a=.int i∧R (some i) st1:=by
 unfold fPart;rw [yae]
 constructor <;> refine fun h=>Yab h fun a s h=>?_
 ·cases a <;> simp only [zab,yad] at h
  exact ⟨_,rfl,h⟩
 ·obtain ⟨b,rfl,h⟩:=h
  exact zab.mpr h
theorem wp_sl {g:D→Option Int→Option Int→Dm D} {fa:DSt→Dm D} {fl fh:DSt→Dm (Option Int)}:Wp (fSl g fa fl fh δ st) Q↔Wp (fa δ st) fun a st1=>Wp (fl δ st1) fun lo st2=>Wp (fh δ st2) fun hi st3=>Wp (g a lo hi st3) Q:=by
 unfold fSl;rw [yae];simp only [yae]
theorem wp_bm {T:String} {g:D→List D→Dm D} {fo:DSt→Dm D} {fa:DSt→Dm (List D)}:Wp (fBM T g fo fa δ st) Q↔Wp (fo δ st) fun o st1=>tyD T st1 o=true∧Wp (fa δ st1) fun as st2=>Wp (g o as st2) Q:=by
 unfold fBM;rw [yae];simp only [zan,yae,yad]
 constructor <;> exact fun h=>Yab h fun a s h=>by first | (split at h;exact ⟨by assumption,h⟩;exact h.elim) | (rw [if_pos h.1];exact h.2)
variable {i j:Int} {ds es:List D} {k:Nat}
theorem wp_add:Wp (gAdd (.int i) (.int j) st) Q↔Q (.int (i + j)) st:=zab
theorem wp_sub:Wp (gSub (.int i) (.int j) st) Q↔Q (.int (i - j)) st:=zab
theorem wp_lt:Wp (gLt (.int i) (.int j) st) Q↔Q (.bl (decide (i < j))) st:=zab
theorem wp_le:Wp (gLe (.int i) (.int j) st) Q↔Q (.bl (decide (i≤j))) st:=zab
theorem wp_gt:Wp (gGt (.int i) (.int j) st) Q↔Q (.bl (decide (j < i))) st:=zab
theorem wp_ge:Wp (gGe (.int i) (.int j) st) Q↔Q (.bl (decide (j≤i))) st:=zab
theorem wp_neg:Wp (gNeg (.int i) st) Q↔Q (.int (-i)) st:=zab
theorem xbJ {c:Int→Int→Bool} {h:Int→Int→D}:Wp (gIC c h (.int i) (.int j) st) Q↔c i j=true∧Q (h i j) st:=by
 show Wp (if c i j=true then some (h i j,st) else none) Q↔_
 rw [zan,zab,yad]
 split
 ·next h=>exact ⟨fun q=>⟨h,q⟩,fun q=>q.2⟩
 ·next h=>exact ⟨False.elim,fun q=>h q.1⟩
theorem wp_mul:Wp (gMul (.int i) (.int j) st) Q↔((-18446744073709551616 < i∧i < 18446744073709551616)∨(-18446744073709551616 < j∧j < 18446744073709551616))∧Q (.int (i * j)) st:=by
 unfold gMul;rw [xbJ,Bool.or_eq_true,decide_eq_true_eq,decide_eq_true_eq]
theorem zbY:Wp (gFdiv (.int i) (.int j) st) Q↔(0 < j∧j < 1073741824)∧Q (.int (i / j)) st:=by unfold gFdiv;rw [xbJ,decide_eq_true_eq]
theorem wp_mod:Wp (gMod (.int i) (.int j) st) Q↔0 < j∧Q (.int (i % j)) st:=by unfold gMod;rw [xbJ,decide_eq_true_eq]
theorem wp_pow:Wp (gPow (.int i) (.int j) st) Q↔(0≤j∧j≤1000000∧i.natAbs < 18446744073709551616)∧Q (.int (i ^ j.toNat)) st:=by unfold gPow;rw [xbJ,decide_eq_true_eq]
theorem wp_eqI {neg:Bool}:Wp (gEq neg (.int i) (.int j) st) Q↔Q (.bl (if neg then !decide (i=j) else decide (i=j))) st:=by
 have e:decide (V.int i=V.int j)=decide (i=j):=by
  by_cases h:i=j
  ·subst h;simp
  ·simp [h]
 show Wp (if scal (V.int i) (V.int j)=true then some (D.bl (if neg then !decide (V.int i=V.int j) else decide (V.int i=V.int j)),st) else none) Q↔_
 rw [if_pos (show scal _ _=true from rfl),zab,e]
theorem wp_eqS {neg:Bool} {x y:Str}:Wp (gEq neg (.str x) (.str y) st) Q↔Q (.bl (if neg then !decide (x=y) else decide (x=y))) st:=by
 have e:decide (V.str x=V.str y)=decide (x=y):=by
  by_cases h:x=y
  ·subst h;simp
  ·simp [h]
 show Wp (if scal (V.str x) (V.str y)=true then some (D.bl (if neg then !decide (V.str x=V.str y) else decide (V.str x=V.str y)),st) else none) Q↔_
 rw [if_pos (show scal _ _=true from rfl),zab,e]
theorem wp_ixT:Wp (gIxT (.tup ds) (.int i) st) Q↔∃ d,atI ds i=some d∧Q d st:=by
 show Wp (match atI ds i with | some d=>some (d,st) | none=>none) Q↔_
 cases atI ds i with
 | none=>rw [yad];exact ⟨False.elim,fun ⟨_,e,_⟩=>by cases e⟩
 | some d=>rw [zab];exact ⟨fun q=>⟨d,rfl,q⟩,fun ⟨_,e,q⟩=>by cases e;exact q⟩
theorem wp_ixL:Wp (gIxL (.ref k) (.int i) st) Q↔∃ ds d,items st k=some ds∧atI ds i=some d∧Q d st:=by
 show Wp (match items st k with | some ds=>(match atI ds i with | some d=>some (d,st) | none=>none) | none=>none) Q↔_
 cases items st k with
 | none=>rw [yad];exact ⟨False.elim,fun ⟨_,_,e,_⟩=>by cases e⟩
 | some ds =>
  show Wp (match atI ds i with | some d=>some (d,st) | none=>none) Q↔_
  cases h:atI ds i with
  | none=>rw [yad];exact ⟨False.elim,fun ⟨_,_,e,e',_⟩=>by cases e;rw [h] at e';cases e'⟩
  | some d=>rw [zab];exact ⟨fun q=>⟨ds,d,rfl,h,q⟩,fun ⟨_,_,e,e',q⟩=>by cases e;rw [h] at e';cases e';exact q⟩
theorem wp_slT {lo hi:Option Int}:Wp (gSlT (.tup ds) lo hi st) Q↔Q (.tup (cutD ds lo hi)) st:=zab
theorem wp_slL {lo hi:Option Int}:Wp (gSlL (.ref k) lo hi st) Q↔∃ ds,items st k=some ds∧Q (.ref st.length) (st ++ [.lst (cutD ds lo hi)]):=by
 show Wp (match items st k with | some ds=>some (D.ref st.length,st ++ [O.lst (cutD ds lo hi)]) | none=>none) Q↔_
 cases items st k with
 | none=>rw [yad];exact ⟨False.elim,fun ⟨_,e,_⟩=>by cases e⟩
 | some ds=>rw [zab];exact ⟨fun q=>⟨ds,rfl,q⟩,fun ⟨_,e,q⟩=>by cases e;exact q⟩
theorem ybY:Wp (gCatT (.tup ds) (.tup es) st) Q↔lim (ds.length + es.length)=true∧Q (.tup (ds ++ es)) st:=by
 show Wp (if lim (ds.length + es.length)=true then some (D.tup (ds ++ es),st) else none) Q↔_
 rw [zan,zab,yad]
 split
 ·next h=>exact ⟨fun q=>⟨h,q⟩,fun q=>q.2⟩
 ·next h=>exact ⟨False.elim,fun q=>h q.1⟩
theorem wp_cat {a b:Nat}:Wp (gCat (.ref a) (.ref b) st) Q↔∃ xs ys,own st a=some xs∧own st b=some ys∧lim (xs.length + ys.length)=true∧Q (.ref st.length) (st ++ [.lst (xs ++ ys)]):=by
 show Wp (match own st a,own st b with | some xs,some ys=>if lim (xs.length + ys.length)=true then some (D.ref st.length,st ++ [O.lst (xs ++ ys)]) else none | _,_=>none) Q↔_
 cases ha:own st a <;> cases hb:own st b
 ·simp only [yad];exact ⟨False.elim,fun ⟨_,_,e,_⟩=>by cases e⟩
 ·simp only [yad];exact ⟨False.elim,fun ⟨_,_,e,_⟩=>by cases e⟩
 ·simp only [yad];exact ⟨False.elim,fun ⟨_,_,_,e,_⟩=>by cases e⟩
 ·next xs ys =>
  show Wp (if lim (xs.length + ys.length)=true then some (D.ref st.length,st ++ [O.lst (xs ++ ys)]) else none) Q↔_
  rw [zan,zab,yad]
  split
  ·next h=>exact ⟨fun q=>⟨_,_,rfl,rfl,h,q⟩,fun ⟨_,_,e,e',_,q⟩=>by cases e;cases e';exact q⟩
  ·next h=>exact ⟨False.elim,fun ⟨_,_,e,e',q,_⟩=>by cases e;cases e';exact h q⟩
theorem wp_len {a:D}:Wp (gLen [a] st) Q↔∃ ds,seqOf st a=some ds∧Q (.int ds.length) st:=by
 show Wp (match seqOf st a with | some ds=>some (D.int ds.length,st) | none=>none) Q↔_
 cases seqOf st a with
 | none=>rw [yad];exact ⟨False.elim,fun ⟨_,e,_⟩=>by cases e⟩
 | some ds=>rw [zab];exact ⟨fun q=>⟨ds,rfl,q⟩,fun ⟨_,e,q⟩=>by cases e;exact q⟩
theorem ZbY {a:D}:Wp (gList [a] st) Q↔∃ ds,seqOf st a=some ds∧Q (.ref st.length) (st ++ [.lst ds]):=by
 show Wp (match seqOf st a with | some ds=>some (D.ref st.length,st ++ [O.lst ds]) | none=>none) Q↔_
 cases seqOf st a with
 | none=>rw [yad];exact ⟨False.elim,fun ⟨_,e,_⟩=>by cases e⟩
 | some ds=>rw [zab];exact ⟨fun q=>⟨ds,rfl,q⟩,fun ⟨_,e,q⟩=>by cases e;exact q⟩
theorem XbJ {a:D}:Wp (gTuple [a] st) Q↔∃ ds,seqOf st a=some ds∧Q (.tup ds) st:=by
 show Wp (match seqOf st a with | some ds=>some (D.tup ds,st) | none=>none) Q↔_
 cases seqOf st a with
 | none=>rw [yad];exact ⟨False.elim,fun ⟨_,e,_⟩=>by cases e⟩
 | some ds=>rw [zab];exact ⟨fun q=>⟨ds,rfl,q⟩,fun ⟨_,e,q⟩=>by cases e;exact q⟩
theorem YbY:Wp (gMax2 [.int i,.int j] st) Q↔Q (.int (if j > i then j else i)) st:=zab
theorem xbY:Wp (gMin2 [.int i,.int j] st) Q↔Q (.int (if j < i then j else i)) st:=zab
theorem XbY:Wp (gInt1 [.int i] st) Q↔Q (.int i) st:=zab
theorem zbK {b:Bool}:Wp (gInt1 [.bl b] st) Q↔Q (.int (if b then 1 else 0)) st:=zab
theorem yby:Wp (gRange1 [.int j] st) Q↔Q (.ref st.length) (st ++ [.rng 0 j]):=zab
theorem Zby:Wp (gRange2 [.int i,.int j] st) Q↔Q (.ref st.length) (st ++ [.rng i j]):=zab
theorem Yby {y:D}:Wp (gAppend (.ref k) [y] st) Q↔∃ xs,own st k=some xs∧lim xs.length=true∧Q .non (st.set k (.lst (xs ++ [y]))):=by
 show Wp (match own st k with | some xs=>if lim xs.length=true then some (D.non,st.set k (O.lst (xs ++ [y]))) else none | none=>none) Q↔_
 cases own st k with
 | none=>rw [yad];exact ⟨False.elim,fun ⟨_,e,_⟩=>by cases e⟩
 | some xs =>
  show Wp (if lim xs.length=true then some (D.non,st.set k (O.lst (xs ++ [y]))) else none) Q↔_
  rw [zan,zab,yad]
  split
  ·next h=>exact ⟨fun q=>⟨_,rfl,h,q⟩,fun ⟨_,e,_,q⟩=>by cases e;exact q⟩
  ·next h=>exact ⟨False.elim,fun ⟨_,e,q,_⟩=>by cases e;exact h q⟩
end
noncomputable def Ws (m:Option (Fl×Store)) (N B C:DSt→Store→Prop) (R:D→Store→Prop):Prop:=Wp m fun fl st=>match fl with
 | .nx δ=>N δ st
 | .bk δ=>B δ st
 | .ct δ=>C δ st
 | .rt d=>R d st
section
variable {st:Store} {δ:DSt} {N B C:DSt→Store→Prop} {R:D→Store→Prop} {f g:DSt→Dm Fl} {e:DSt→Dm D}
theorem YaQ {m:Option (Fl×Store)} {N':DSt→Store→Prop} (h:Ws m N B C R) (hn:∀ δ st,N δ st→N' δ st):Ws m N' B C R:=Yab h fun fl st q=>by
 cases fl with
 | nx δ=>exact hn δ st q
 | bk δ=>exact q
 | ct δ=>exact q
 | rt d=>exact q
theorem Xad (h:Ws (f δ st) (fun δ1 st1=>Ws (g δ1 st1) N B C R) B C R):Ws (fSeq f g δ st) N B C R:=by
 unfold Ws fSeq
 rw [yae]
 refine Yab h fun fl st1 q=>?_
 cases fl with
 | nx δ1=>exact q
 | bk δ1=>exact zab.mpr q
 | ct δ1=>exact zab.mpr q
 | rt d=>exact zab.mpr q
theorem yan (h:N δ st):Ws (fNext δ st) N B C R:=zab.mpr h
theorem zaS {t:D→DSt→Dm DSt} (h:Wp (e δ st) fun d st1=>Wp (t d δ st1) N):Ws (fAsg e t δ st) N B C R:=by
 unfold Ws fAsg
 rw [yae]
 refine Yab h fun d st1 q=>?_
 rw [yae]
 exact Yab q fun δ1 st2 q=>zab.mpr q
theorem yag {i:Nat} (h:Wp (e δ st) fun d st1=>N (δ.set i (some d)) st1):Ws (fAsg e (hName i) δ st) N B C R:=zaS (Yab h fun d st1 q=>zab.mpr q)
theorem xaG (h:Wp (e δ st) fun _ st1=>N δ st1):Ws (fDrop e δ st) N B C R:=by
 unfold Ws fDrop
 rw [yae]
 exact Yab h fun d st1 q=>zab.mpr q
theorem Zak (h:Wp (e δ st) R):Ws (fRet e δ st) N B C R:=by
 unfold Ws fRet
 rw [yae]
 exact Yab h fun d st1 q=>zab.mpr q
theorem YaD {c:DSt→Dm Bool} (h:Wp (c δ st) fun b st1=>(b=true→Ws (f δ st1) N B C R)∧(b=false→Ws (g δ st1) N B C R)):Ws (fIf c f g δ st) N B C R:=by
 unfold Ws
 rw [wp_if]
 refine Yab h fun b st1 q=>?_
 cases b with
 | true=>rw [if_pos rfl];exact q.1 rfl
 | false=>rw [if_neg Bool.false_ne_true];exact q.2 rfl
theorem xby {i j:Nat} {fa:DSt→Dm (List D)} (h:Wp (fa δ st) fun as st1=>∃ a b,as=[a,b]∧N ((δ.set i (some a)).set j (some b)) st1):Ws (fPar i j fa δ st) N B C R:=by
 unfold Ws fPar
 rw [yae]
 refine Yab h fun as st1 q=>?_
 obtain ⟨a,b,rfl,q⟩:=q
 exact zab.mpr q
theorem Xay {n:Nat} {b:DSt→Dm Fl} {ds:List D} (h:Ws (b (ds.map some ++ List.replicate (n - ds.length) none) st) (fun _ st1=>R .non st1) (fun _ _=>False) (fun _ _=>False) R):Wp (fnF n b ds st) R:=by
 unfold fnF
 rw [yae]
 refine Yab h fun fl st1 q=>?_
 cases fl with
 | nx δ1=>exact zab.mpr q
 | bk δ1=>exact q.elim
 | ct δ1=>exact q.elim
 | rt d=>exact zab.mpr q
theorem ZaT {c:DSt→Dm Bool} {b:DSt→Dm Fl} (W:Nat→DSt→Store→Prop) (m:Nat) (hm:m < fuel) (h0:W m δ st)
  (step:∀ m δ st,W m δ st→Wp (c δ st) fun t st1=>(t=true→Ws (b δ st1) (fun δ2 st2=>∃ m',m' < m∧W m' δ2 st2) N (fun δ2 st2=>∃ m',m' < m∧W m' δ2 st2) R)∧(t=false→N δ st1)):Ws (fWhile c b δ st) N B C R:=by
 have key:∀ (k m:Nat) (δ:DSt) (st:Store),m < k→W m δ st→Ws (fWhileGo c b k δ st) N B C R:=by
  intro k
  induction k with
  | zero=>intro m δ st h;exact absurd h (Nat.not_lt_zero _)
  | succ k ih =>
   intro m δ st hk hw
   unfold Ws fWhileGo
   rw [yae]
   refine Yab (step m δ st hw) fun t st1 q=>?_
   cases t with
   | false=>rw [if_neg Bool.false_ne_true];exact zab.mpr (q.2 rfl)
   | true =>
    rw [if_pos rfl,yae]
    refine Yab (q.1 rfl) fun fl st2 q=>?_
    cases fl with
    | nx δ2=>obtain ⟨m',hm',w⟩:=q;exact ih m' δ2 st2 (by omega) w
    | ct δ2=>obtain ⟨m',hm',w⟩:=q;exact ih m' δ2 st2 (by omega) w
    | bk δ2=>exact zab.mpr q
    | rt d=>exact zab.mpr q
 exact key fuel m δ st hm h0
theorem zaI {fi:DSt→Dm Src} {t:D→DSt→Dm DSt} {b:DSt→Dm Fl} (ds:List D) (Pv:Nat→DSt→Store→Prop) (hi:Wp (fi δ st) fun S st1=>S=.fix ds∧Pv 0 δ st1) (hl:ds.length < 100000)
  (step:∀ i d δ st,ds[i]?=some d→Pv i δ st→Wp (t d δ st) fun δ1 st1=>Ws (b δ1 st1) (Pv (i + 1)) N (Pv (i + 1)) R) (fin:∀ δ st,Pv ds.length δ st→N δ st):Ws (fFor fi t b δ st) N B C R:=by
 unfold Ws fFor
 rw [yae]
 refine Yab hi fun S st0 q=>?_
 obtain ⟨rfl,h0⟩:=q
 have key:∀ (k i:Nat) (δ:DSt) (st:Store),i≤ds.length→ds.length - i < k→Pv i δ st→Ws (fForGo (.fix ds) t b k i δ st) N B C R:=by
  intro k
  induction k with
  | zero=>intro i δ st _ h;exact absurd h (Nat.not_lt_zero _)
  | succ k ih =>
   intro i δ st hi hk hw
   unfold Ws fForGo
   have e:Src.at (.fix ds) i st=some ds[i]?:=by show (if i≤ds.length then some ds[i]? else none)=_;rw [if_pos hi]
   rw [e]
   cases hd:ds[i]? with
   | none =>
    have:=List.getElem?_eq_none_iff.mp hd
    have e:i=ds.length:=by omega
    exact zab.mpr (fin δ st (e ▸ hw))
   | some d =>
    have hlt:=(List.getElem?_eq_some_iff.mp hd).1
    show Wp (bnd _ _) _
    rw [yae]
    refine Yab (step i d δ st hd hw) fun δ1 st1 q=>?_
    rw [yae]
    refine Yab q fun fl st2 q=>?_
    cases fl with
    | nx δ2=>exact ih (i + 1) δ2 st2 (by omega) (by omega) q
    | ct δ2=>exact ih (i + 1) δ2 st2 (by omega) (by omega) q
    | bk δ2=>exact zab.mpr q
    | rt d=>exact zab.mpr q
 exact key fuel 0 δ st0 (Nat.zero_le _) (Nat.lt_trans (by omega) (show 100000 < fuel by decide)) h0
theorem xbf {fi:DSt→Dm Src} {t:D→DSt→Dm DSt} {b:DSt→Dm Fl} (ds:List D) (r:Nat) (Pv:Nat→DSt→Store→Prop) (hi:Wp (fi δ st) fun S st1=>S=.live r∧Pv 0 δ st1) (hl:ds.length < 100000) (hk:∀ i δ st,Pv i δ st→items st r=some ds)
  (step:∀ i d δ st,ds[i]?=some d→Pv i δ st→Wp (t d δ st) fun δ1 st1=>Ws (b δ1 st1) (Pv (i + 1)) N (Pv (i + 1)) R) (fin:∀ δ st,Pv ds.length δ st→N δ st):Ws (fFor fi t b δ st) N B C R:=by
 unfold Ws fFor
 rw [yae]
 refine Yab hi fun S st0 q=>?_
 obtain ⟨rfl,h0⟩:=q
 have key:∀ (k i:Nat) (δ:DSt) (st:Store),i≤ds.length→ds.length - i < k→Pv i δ st→Ws (fForGo (.live r) t b k i δ st) N B C R:=by
  intro k
  induction k with
  | zero=>intro i δ st _ h;exact absurd h (Nat.not_lt_zero _)
  | succ k ih =>
   intro i δ st hi hk' hw
   unfold Ws fForGo
   have e:Src.at (.live r) i st=some ds[i]?:=by show (items st r).map _=_;rw [hk i δ st hw];rfl
   rw [e]
   cases hd:ds[i]? with
   | none =>
    have:=List.getElem?_eq_none_iff.mp hd
    have e:i=ds.length:=by omega
    exact zab.mpr (fin δ st (e ▸ hw))
   | some d =>
    have hlt:=(List.getElem?_eq_some_iff.mp hd).1
    show Wp (bnd _ _) _
    rw [yae]
    refine Yab (step i d δ st hd hw) fun δ1 st1 q=>?_
    rw [yae]
    refine Yab q fun fl st2 q=>?_
    cases fl with
    | nx δ2=>exact ih (i + 1) δ2 st2 (by omega) (by omega) q
    | ct δ2=>exact ih (i + 1) δ2 st2 (by omega) (by omega) q
    | bk δ2=>exact zab.mpr q
    | rt d=>exact zab.mpr q
 exact key fuel 0 δ st0 (Nat.zero_le _) (Nat.lt_trans (by omega) (show 100000 < fuel by decide)) h0
theorem Xbf {fi:DSt→Dm Src} {n:Nat} {js:List Nat} {t:D→DSt→Dm DSt} {c:DSt→Dm Bool} {f:DSt→Dm D} {Q:D→Store→Prop} (ds:List D) (Pv:Nat→List D→DSt→Store→Prop)
  (hi:Wp (fi δ st) fun S st1=>(∀ i ys δ st,i≤ds.length→Pv i ys δ st→S.at i st=some ds[i]?)∧Pv 0 [] (compD n js δ) st1) (hl:ds.length < 100000) (hy:∀ i ys δ st,Pv i ys δ st→ys.length≤i)
  (step:∀ i d ys δ st,ds[i]?=some d→Pv i ys δ st→Wp (t d δ st) fun δ1 st1=>Wp (c δ1 st1) fun b st2=>(b=true→Wp (f δ1 st2) fun y st3=>Pv (i + 1) (ys ++ [y]) δ1 st3)∧(b=false→Pv (i + 1) ys δ1 st2))
  (fin:∀ ys δ st,Pv ds.length ys δ st→Q (.ref st.length) (st ++ [.lst ys])):Wp (fComp fi n js t c f δ st) Q:=by
 unfold fComp
 rw [yae]
 refine Yab hi fun S st0 q=>?_
 obtain ⟨hS,h0⟩:=q
 have key:∀ (k i:Nat) (ys:List D) (δ:DSt) (st:Store),i≤ds.length→ds.length - i < k→Pv i ys δ st→Wp (fCompGo S t c f k i ys δ st) fun zs st9=>∃ δ9,Pv ds.length zs δ9 st9:=by
  intro k
  induction k with
  | zero=>intro i ys δ st _ h;exact absurd h (Nat.not_lt_zero _)
  | succ k ih =>
   intro i ys δ st hi hk' hw
   unfold fCompGo
   have hlim:lim ys.length=true:=Nat.ble_eq_true_of_le (by have:=hy i ys δ st hw;omega)
   rw [if_pos hlim,hS i ys δ st hi hw]
   cases hd:ds[i]? with
   | none =>
    have:=List.getElem?_eq_none_iff.mp hd
    have e:i=ds.length:=by omega
    exact zab.mpr ⟨δ,e ▸ hw⟩
   | some d =>
    have hlt:=(List.getElem?_eq_some_iff.mp hd).1
    show Wp (bnd _ _) _
    rw [yae]
    refine Yab (step i d ys δ st hd hw) fun δ1 st1 q=>?_
    rw [yae]
    refine Yab q fun b st2 q=>?_
    cases b with
    | true =>
     rw [if_pos rfl,yae]
     exact Yab (q.1 rfl) fun y st3 q=>ih (i + 1) _ δ1 st3 (by omega) (by omega) q
    | false =>
     rw [if_neg Bool.false_ne_true]
     exact ih (i + 1) ys δ1 st2 (by omega) (by omega) (q.2 rfl)
 rw [yae]
 exact Yab (key fuel 0 [] _ st0 (Nat.zero_le _) (Nat.lt_trans (by omega) (show 100000 < fuel by decide)) h0) fun zs st9 ⟨δ9,q⟩=>zab.mpr (fin zs δ9 st9 q)
end
end L4
namespace L4
open PySem PySem.Spec L2
noncomputable def keyOf:D→Option Key
 | .int i=>some (.inl i)
 | .str x=>some (.inr x)
 | _=>none
noncomputable def dctOf (st:Store):D→Option (List (Key×D))
 | .ref i=>match st[i]? with
  | some (.dct kvs)=>some kvs
  | _=>none
 | _=>none
noncomputable def valD (kvs:List (Key×D)) (k:Key):Option D:=(kvs.find? fun kv=>decide (kv.1=k)).map (·.2)
noncomputable def putD (kvs:List (Key×D)) (k:Key) (v:D):List (Key×D) :=
 if (kvs.any fun kv=>decide (kv.1=k))=true then kvs.map (fun kv=>if kv.1=k then (kv.1,v) else kv) else kvs ++ [(k,v)]
section
variable {K:PySem.W.Frag} {ρ:List Addr} {H:Hp} {st:Store}
theorem yaZ {x:V} {y:D} {k:Key} (r:Rp K ρ H x y) (h:keyOf y=some k):x=kV k:=by
 cases r <;> first | (cases h;rfl) | cases h
theorem Ybk {x:V} {a:D} {kvs:List (Key×D)} (l:Rl K ρ H st) (r:Rp K ρ H x a) (h:dctOf st a=some kvs):∃ p i ws,x=.ref p∧a=.ref i∧ρ[i]?=some p∧st[i]?=some (.dct kvs)∧H p=some (.dK ws)∧Rk K ρ H ws kvs:=by
 cases r <;> first | (cases h;done) | skip
 next hi =>
  simp only [dctOf] at h
  split at h
  ·next kvs' hs =>
   cases h
   obtain ⟨ws,e,r⟩:=l.obj _ _ _ hi hs
   exact ⟨_,_,ws,rfl,rfl,hi,hs,e,r⟩
  ·cases h
theorem Rk.val {ws:List (Key×V)} {kvs:List (Key×D)} (r:Rk K ρ H ws kvs) (k:Key):(∀ d,valD kvs k=some d→∃ v,valV ws k=some v∧Rp K ρ H v d)∧(valV ws k).isSome=(valD kvs k).isSome:=by
 induction r with
 | nil=>exact ⟨fun d h=>(by cases h),rfl⟩
 | @cons p q ps qs h t ih =>
  obtain ⟨h1,h2⟩:=h
  unfold valD valV at ih ⊢
  rw [List.find?_cons,List.find?_cons]
  by_cases e:p.1=k
  ·rw [decide_eq_true e,decide_eq_true (h1 ▸ e)]
   exact ⟨fun d hd=>by cases hd;exact ⟨_,rfl,h2⟩,rfl⟩
  ·rw [decide_eq_false e,decide_eq_false (h1 ▸ e)]
   exact ih
theorem Rk.app {ws ws':List (Key×V)} {kvs kvs':List (Key×D)} (r:Rk K ρ H ws kvs) (r':Rk K ρ H ws' kvs'):Rk K ρ H (ws ++ ws') (kvs ++ kvs'):=by
 induction r with
 | nil=>exact r'
 | cons h _ ih=>exact .cons h ih
theorem Rk.put {ws:List (Key×V)} {kvs:List (Key×D)} {v:V} {d:D} (r:Rk K ρ H ws kvs) (k:Key) (rv:Rp K ρ H v d):Rk K ρ H (putK ws k v) (putD kvs k d):=by
 have hany:(ws.any fun kv=>decide (kv.1=k))=(kvs.any fun kv=>decide (kv.1=k)):=by
  induction r with
  | nil=>rfl
  | cons h _ ih=>rw [List.any_cons,List.any_cons,ih,h.1]
 have hmap:Rk K ρ H (ws.map fun kv=>if kv.1=k then (kv.1,v) else kv) (kvs.map fun kv=>if kv.1=k then (kv.1,d) else kv):=by
  clear hany
  induction r with
  | nil=>exact .nil
  | @cons p q ps qs h _ ih =>
   refine .cons ?_ ih
   dsimp only
   by_cases e:p.1=k
   ·rw [if_pos e,if_pos (h.1 ▸ e)];exact ⟨h.1,rv⟩
   ·rw [if_neg e,if_neg (h.1 ▸ e)];exact h
 unfold putK putD
 rw [hany]
 split
 ·exact hmap
 ·exact r.app (.cons ⟨rfl,rv⟩ .nil)
theorem Rk.length {ws:List (Key×V)} {kvs:List (Key×D)} (r:Rk K ρ H ws kvs):ws.length=kvs.length:=by
 induction r with
 | nil=>rfl
 | cons _ _ ih=>rw [List.length_cons,List.length_cons,ih]
end
section
variable {K:PySem.W.Frag}
noncomputable def fDNew:DSt→Dm D:=fun _ st=>some (.ref st.length,st ++ [.dct []])
noncomputable def fDGet (fd fy:DSt→Dm D):DSt→Dm D:=fun δ st=>bnd (fd δ st) fun x st1=>bnd (fy δ st1) fun y st2=>match dctOf st2 x,keyOf y with
 | some kvs,some k=>match valD kvs k with
  | some v=>some (v,st2)
  | none=>none
 | _,_=>none
theorem Xby {td ty:TE} {fd fy:DSt→Dm D} (hd:SoE K td fd) (hy:SoE K ty fy):SoE K (tDGet td ty) (fDGet fd fy):=by
 intro ρ σ H δ st b st' Q l rs e q
 obtain ⟨x,st1,e1,e⟩:=yac e
 obtain ⟨y,st2,e2,e⟩:=yac e
 refine hd ρ σ H δ st x st1 _ l rs e1 fun vx H1 ρ1 m1 l1 r1=>hy ρ1 σ H1 δ st1 y st2 _ l1 (rs.mn m1) e2 fun vy H2 ρ2 m2 l2 r2=>?_
 split at e
 ·next kvs k hx hk =>
  split at e
  ·next v hv =>
   cases e
   obtain ⟨p,i,ws,rfl,rfl,hi,hs,hp,rk⟩:=Ybk l2 (r1.mn m2) hx
   obtain ⟨w,hw,rw'⟩:=(rk.val k).1 _ hv
   refine ⟨p,w,rfl,?_,q w H2 ρ2 (m1.trans m2) l2 rw'⟩
   rw [← hw,yaZ r2 hk]
   exact DGet.k hp
  ·cases e
 ·cases e
noncomputable def fDIn (neg:Bool) (fy fd:DSt→Dm D):DSt→Dm D:=fun δ st=>bnd (fy δ st) fun y st1=>bnd (fd δ st1) fun x st2=>match dctOf st2 x,keyOf y with
 | some kvs,some k=>some (.bl (if neg then !(valD kvs k).isSome else (valD kvs k).isSome),st2)
 | _,_=>none
noncomputable def fPNil:DSt→Dm (List (D×D)):=fun _ st=>some ([],st)
noncomputable def fPCons (fk fv:DSt→Dm D) (fr:DSt→Dm (List (D×D))):DSt→Dm (List (D×D)):=fun δ st=>bnd (fk δ st) fun k st1=>bnd (fv δ st1) fun v st2=>bnd (fr δ st2) fun r st3=>some ((k,v) :: r,st3)
noncomputable def Rpp (K:PySem.W.Frag) (ρ:List Addr) (H:Hp):List (V×V)→List (D×D)→Prop:=Paired fun p q=>Rp K ρ H p.1 q.1∧Rp K ρ H p.2 q.2
noncomputable def SoP (K:PySem.W.Frag) (trs:List (TE×TE)) (f:DSt→Dm (List (D×D))):Prop:=So K (Rpp K) (tPairs trs) f
theorem zbZ:SoP K [] fPNil:=by
 intro ρ σ H δ st b st' Q l rs e q
 cases e
 exact q [] H ρ .refl l .nil
theorem ybK {tk tv:TE} {trs:List (TE×TE)} {fk fv:DSt→Dm D} {fr:DSt→Dm (List (D×D))} (hk:SoE K tk fk) (hv:SoE K tv fv) (hr:SoP K trs fr):SoP K ((tk,tv) :: trs) (fPCons fk fv fr):=by
 intro ρ σ H δ st b st' Q l rs e q
 obtain ⟨k,st1,e1,e⟩:=yac e
 obtain ⟨v,st2,e2,e⟩:=yac e
 obtain ⟨r,st3,e3,e⟩:=yac e
 cases e
 exact hk ρ σ H δ st k st1 _ l rs e1 fun x H1 ρ1 m1 l1 r1=>hv ρ1 σ H1 δ st1 v st2 _ l1 (rs.mn m1) e2 fun y H2 ρ2 m2 l2 r2=>hr ρ2 σ H2 δ st2 r _ _ l2 (rs.mn (m1.trans m2)) e3 fun ps H3 ρ3 m3 l3 r3 =>
  q _ H3 ρ3 ((m1.trans m2).trans m3) l3 (.cons ⟨r1.mn (m2.trans m3),r2.mn m3⟩ r3)
noncomputable def keysOf:List (D×D)→Option (List (Key×D))
 | []=>some []
 | (k,v) :: r=>match keyOf k,keysOf r with
  | some k',some r'=>some ((k',v) :: r')
  | _,_=>none
theorem ybZ {ρ:List Addr} {H:Hp} {ps:List (V×V)} {qs:List (D×D)} (r:Rpp K ρ H ps qs):∀ {kvs:List (Key×D)},keysOf qs=some kvs→∃ ws:List (Key×V),ps=ws.map (fun kv=>(kV kv.1,kv.2))∧Rk K ρ H ws kvs:=by
 induction r with
 | nil=>intro kvs h;cases h;exact ⟨[],rfl,.nil⟩
 | @cons p q ps qs h _ ih =>
  intro kvs hk
  obtain ⟨q1,q2⟩:=q
  obtain ⟨p1,p2⟩:=p
  simp only [keysOf] at hk
  split at hk
  ·next k' r' h1 h2 =>
   cases hk
   obtain ⟨ws,rfl,rw'⟩:=ih h2
   refine ⟨(k',p2) :: ws,?_,.cons ⟨rfl,h.2⟩ rw'⟩
   rw [List.map_cons,← yaZ h.1 h1]
  ·cases hk
noncomputable def mergeD (kvs more:List (Key×D)):List (Key×D):=more.foldl (fun acc kv=>putD acc kv.1 kv.2) kvs
theorem Rk.merge {ρ:List Addr} {H:Hp} {more:List (Key×V)} {more':List (Key×D)} (r:Rk K ρ H more more'):∀ {ws:List (Key×V)} {kvs:List (Key×D)},Rk K ρ H ws kvs→Rk K ρ H (mergeK ws more) (mergeD kvs more'):=by
 induction r with
 | nil=>intro ws kvs h;exact h
 | @cons p q _ _ h _ ih =>
  intro ws kvs r0
  have:=r0.put p.1 h.2
  rw [show putD kvs p.1 q.2=putD kvs q.1 q.2 by rw [h.1]] at this
  exact ih this
noncomputable def fDisp (fp:DSt→Dm (List (D×D))):DSt→Dm D:=fun δ st=>bnd (fp δ (st ++ [.dct []])) fun ps st2=>match st2[st.length]?,keysOf ps with
 | some (.dct []),some kvs=>if kvs.length≤15 then some (.ref st.length,st2.set st.length (.dct (mergeD [] kvs))) else none
 | _,_=>none
theorem ZbZ {trs:List (TE×TE)} {fp:DSt→Dm (List (D×D))} (hp:SoP K trs fp):SoE K (tDisp trs) (fDisp fp):=by
 intro ρ σ H δ st b st' Q l rs e q
 obtain ⟨ps,st2,e1,e⟩:=yac e
 intro p hpn
 have m0:Mn K ρ H (ρ ++ [p]) (upd H p (.dK [])):=Mn.new hpn
 have l0:Rl K (ρ ++ [p]) (upd H p (.dK [])) (st ++ [.dct []]):=l.newD hpn .nil
 refine hp (ρ ++ [p]) σ _ δ _ ps st2 _ l0 (rs.mn m0) e1 fun vs H2 ρ2 m2 l2 r2=>?_
 split at e
 ·next kvs hs hk =>
  split at e
  ·next hl =>
   cases e
   have hi:=m2.r _ _ (newR (p:=p) l)
   obtain ⟨ws,e3,r3⟩:=l2.obj _ _ _ hi hs
   cases r3
   obtain ⟨kws,rfl,rk⟩:=ybZ r2 hk
   obtain ⟨l4,m4⟩:=l2.putDct hi hs (rk.merge .nil)
   exact ⟨e3,kws,rfl,by rw [rk.length];exact hl,q _ _ ρ2 ((m0.trans m2).trans m4) l4 (.ref (m4.r _ _ hi))⟩
  ·cases e
 ·cases e
end
section
variable {st:Store} {δ:DSt} {Q:D→Store→Prop}
theorem YbZ:Wp (fDNew δ st) Q↔Q (.ref st.length) (st ++ [.dct []]):=zab
theorem zbg {fd fy:DSt→Dm D}:Wp (fDGet fd fy δ st) Q↔Wp (fd δ st) fun x st1=>Wp (fy δ st1) fun y st2=>∃ kvs k v,dctOf st2 x=some kvs∧keyOf y=some k∧valD kvs k=some v∧Q v st2:=by
 unfold fDGet;rw [yae];simp only [yae]
 constructor <;> refine fun h=>Yab h fun x s h=>Yab h fun y s2 h=>?_
 ·split at h
  ·next kvs k h1 h2 =>
   split at h
   ·next v h3=>exact ⟨kvs,k,v,by assumption,by assumption,h3,zab.mp h⟩
   ·exact (yad.mp h).elim
  ·exact (yad.mp h).elim
 ·obtain ⟨kvs,k,v,h1,h2,h3,h⟩:=h
  rw [h1,h2]
  simp only [h3]
  exact zab.mpr h
theorem wp_din {neg:Bool} {fd fy:DSt→Dm D}:Wp (fDIn neg fy fd δ st) Q↔Wp (fy δ st) fun y st1=>Wp (fd δ st1) fun x st2=>∃ kvs k,dctOf st2 x=some kvs∧keyOf y=some k∧Q (.bl (if neg then !(valD kvs k).isSome else (valD kvs k).isSome)) st2:=by
 unfold fDIn;rw [yae];simp only [yae]
 constructor <;> refine fun h=>Yab h fun x s h=>Yab h fun y s2 h=>?_
 ·split at h
  ·next kvs k h1 h2=>exact ⟨kvs,k,by assumption,by assumption,zab.mp h⟩
  ·exact (yad.mp h).elim
 ·obtain ⟨kvs,k,h1,h2,h⟩:=h
  rw [h1,h2]
  exact zab.mpr h
theorem zbz {R:List (D×D)→Store→Prop}:Wp (fPNil δ st) R↔R [] st:=zab
theorem xbk {fk fv:DSt→Dm D} {fr:DSt→Dm (List (D×D))} {R:List (D×D)→Store→Prop}:Wp (fPCons fk fv fr δ st) R↔Wp (fk δ st) fun k st1=>Wp (fv δ st1) fun v st2=>Wp (fr δ st2) fun r st3=>R ((k,v) :: r) st3:=by
 unfold fPCons;rw [yae];simp only [yae,zab]
theorem ybz {fp:DSt→Dm (List (D×D))}:Wp (fDisp fp δ st) Q↔Wp (fp δ (st ++ [.dct []])) fun ps st2=>st2[st.length]?=some (.dct [])∧∃ kvs,keysOf ps=some kvs∧kvs.length≤15∧Q (.ref st.length) (st2.set st.length (.dct (mergeD [] kvs))):=by
 unfold fDisp;rw [yae]
 constructor <;> refine fun h=>Yab h fun ps s h=>?_
 ·split at h
  ·next kvs h1 h2 =>
   rw [zan,zab,yad] at h
   split at h
   ·next hl=>exact ⟨by assumption,kvs,by assumption,hl,h⟩
   ·exact h.elim
  ·exact (yad.mp h).elim
 ·obtain ⟨h1,kvs,h2,h3,h⟩:=h
  rw [h1,h2]
  simp only [if_pos h3]
  exact zab.mpr h
end
end L4
namespace L4
open PySem PySem.Spec L2
structure Ex (c:List Nat) (st st':Store):Prop where
 len:st.length≤st'.length
 keep:∀ (i:Nat) (o:O),st[i]?=some o→i ∉ c→st'[i]?=some o
section
variable {c c':List Nat} {st st1 st2:Store} {i:Nat} {o:O} {ds:List D}
theorem Ex.refl:Ex c st st:=⟨Nat.le_refl _,fun _ _ h _=>h⟩
theorem Ex.trans (a:Ex c st st1) (b:Ex c st1 st2):Ex c st st2:=⟨Nat.le_trans a.len b.len,fun i o h n=>b.keep i o (a.keep i o h n) n⟩
theorem Ex.mono (a:Ex c st st1) (h:∀ x∈c,x∈c'):Ex c' st st1:=⟨a.len,fun i o e n=>a.keep i o e fun z=>n (h i z)⟩
theorem Ex.any (a:Ex [] st st1):Ex c st st1:=a.mono fun x h=>nomatch h
theorem Zad {α:Type} {l:List α} {i:Nat} {o:α} (h:l[i]?=some o):i < l.length:=(List.getElem?_eq_some_iff.mp h).1
theorem zam {l m:List O} (h:l[i]?=some o):(l ++ m)[i]?=some o:=by rw [List.getElem?_append_left (Zad h)];exact h
theorem Zah {l:List O}:(l ++ [o])[l.length]?=some o:=by rw [List.getElem?_append_right (Nat.le_refl _),Nat.sub_self];rfl
theorem Ex.app (a:Ex c st st1) (m:List O):Ex c st (st1 ++ m):=⟨by rw [List.length_append];exact Nat.le_trans a.len (Nat.le_add_right _ _),fun i o h n=>zam (a.keep i o h n)⟩
theorem Ex.app0 (m:List O):Ex c st (st ++ m):=Ex.refl.app m
theorem Ex.put (a:Ex c st st1) (h:i∈c):Ex c st (st1.set i o):=⟨by rw [List.length_set];exact a.len,fun j u e n=>by rw [List.getElem?_set_ne (fun z=>n (by rw [← z];exact h))];exact a.keep j u e n⟩
theorem Ex.loc (a:Ex c st st1) (h:st.length≤i):Ex c st (st1.set i o):=⟨by rw [List.length_set];exact a.len,fun j u e n=>by rw [List.getElem?_set_ne (by have:=Zad e;omega)];exact a.keep j u e n⟩
theorem zac (h:st[i]?=some (.lst ds)):items st i=some ds:=by unfold items;rw [h]
theorem Zbz (h:st[i]?=some (.fzn ds)):items st i=some ds:=by unfold items;rw [h]
theorem Xai (h:st[i]?=some (.lst ds)):own st i=some ds:=by unfold own;rw [h]
theorem Zaq:items (st ++ [.lst ds]) st.length=some ds:=zac Zah
theorem xbZ:own (st ++ [.lst ds]) st.length=some ds:=Xai Zah
theorem Ybo {o':O}:items (st ++ [.lst ds] ++ [o']) st.length=some ds:=zac (zam Zah)
theorem ZbK {o':O}:own (st ++ [.lst ds] ++ [o']) st.length=some ds:=Xai (zam Zah)
theorem xbo {o' o2:O}:items (st ++ [.lst ds] ++ [o'] ++ [o2]) st.length=some ds:=zac (zam (zam Zah))
theorem YbK {o' o2:O}:own (st ++ [.lst ds] ++ [o'] ++ [o2]) st.length=some ds:=Xai (zam (zam Zah))
theorem Ybz {lo hi:Int}:rngOf (st ++ [.rng lo hi]) (.ref st.length)=some (lo,hi):=by simp only [rngOf,Zah]
theorem XbZ:seqOf st (.tup ds)=some ds:=rfl
theorem xbz:seqOf st (.ref i)=items st i:=rfl
theorem Yav (h:(items st i).isSome=true):tyD "list" st (.ref i)=true:=by simp only [tyD,h];rfl
theorem Xbz:tyD "tuple" st (.tup ds)=true:=by simp only [tyD];rfl
theorem Yaq {n:Nat} (h:n≤100000):lim n=true:=Nat.ble_eq_true_of_le h
end
section
variable {st:Store} {Q:D→Store→Prop} {i j:Int} {k:Nat} {ds es:List D}
theorem xbK {a:D}:Wp (gListR [a] st) Q↔∃ p,rngOf st a=some p∧okR p.1 p.2=true∧Q (.ref st.length) (st ++ [.lst (rangeD p.1 (p.2 - p.1).toNat)]):=by
 show Wp (match rngOf st a with | some (lo,hi)=>if okR lo hi=true then some (D.ref st.length,st ++ [O.lst (rangeD lo (hi - lo).toNat)]) else none | none=>none) Q↔_
 cases rngOf st a with
 | none=>rw [yad];exact ⟨False.elim,fun ⟨_,e,_⟩=>by cases e⟩
 | some p =>
  obtain ⟨lo,hi⟩:=p
  show Wp (if okR lo hi=true then some (D.ref st.length,st ++ [O.lst (rangeD lo (hi - lo).toNat)]) else none) Q↔_
  rw [zan,zab,yad]
  split
  ·next h=>exact ⟨fun q=>⟨_,rfl,h,q⟩,fun ⟨_,e,_,q⟩=>by cases e;exact q⟩
  ·next h=>exact ⟨False.elim,fun ⟨_,e,q,_⟩=>by cases e;exact h q⟩
theorem zbA {a:D}:Wp (gTupleR [a] st) Q↔∃ p,rngOf st a=some p∧okR p.1 p.2=true∧Q (.tup (rangeD p.1 (p.2 - p.1).toNat)) st:=by
 show Wp (match rngOf st a with | some (lo,hi)=>if okR lo hi=true then some (D.tup (rangeD lo (hi - lo).toNat),st) else none | none=>none) Q↔_
 cases rngOf st a with
 | none=>rw [yad];exact ⟨False.elim,fun ⟨_,e,_⟩=>by cases e⟩
 | some p =>
  obtain ⟨lo,hi⟩:=p
  show Wp (if okR lo hi=true then some (D.tup (rangeD lo (hi - lo).toNat),st) else none) Q↔_
  rw [zan,zab,yad]
  split
  ·next h=>exact ⟨fun q=>⟨_,rfl,h,q⟩,fun ⟨_,e,_,q⟩=>by cases e;exact q⟩
  ·next h=>exact ⟨False.elim,fun ⟨_,e,q,_⟩=>by cases e;exact h q⟩
theorem wp_rep:Wp (gRep (.ref k) (.int j) st) Q↔∃ xs,own st k=some xs∧(-9223372036854775808≤j∧j < 9223372036854775808)∧lim (xs.length * j.toNat)=true∧Q (.ref st.length) (st ++ [.lst (List.replicate j.toNat xs).flatten]):=by
 show Wp (match own st k with | some a=>if (decide (-9223372036854775808≤j∧j < 9223372036854775808) && lim (a.length * j.toNat))=true then some (D.ref st.length,st ++ [O.lst (List.replicate j.toNat a).flatten]) else none | _=>none) Q↔_
 cases own st k with
 | none=>simp only [yad];exact ⟨False.elim,fun ⟨_,e,_⟩=>by cases e⟩
 | some xs =>
  show Wp (if (decide (-9223372036854775808≤j∧j < 9223372036854775808) && lim (xs.length * j.toNat))=true then some (D.ref st.length,st ++ [O.lst (List.replicate j.toNat xs).flatten]) else none) Q↔_
  rw [zan,zab,yad]
  split
  ·next h=>rw [Bool.and_eq_true,decide_eq_true_eq] at h;exact ⟨fun q=>⟨_,rfl,h.1,h.2,q⟩,fun ⟨_,e,_,_,q⟩=>by cases e;exact q⟩
  ·next h=>rw [Bool.and_eq_true,decide_eq_true_eq] at h;exact ⟨False.elim,fun ⟨_,e,q,q',_⟩=>by cases e;exact h ⟨q,q'⟩⟩
theorem XbK:Wp (gPopAt (.ref k) [.int i] st) Q↔∃ xs j y,own st k=some xs∧(-9223372036854775808≤i∧i < 9223372036854775808)∧seqIndex? i xs.length=some j∧xs[j]?=some y∧Q y (st.set k (.lst (xs.eraseIdx j))):=by
 constructor
 ·rintro ⟨a,s,e,q⟩
  simp only [gPopAt] at e
  split at e
  ·next xs hx =>
   split at e
   ·next hk =>
    split at e
    ·next j hj =>
     split at e
     ·next y hy=>cases e;exact ⟨xs,j,_,hx,of_decide_eq_true hk,hj,hy,q⟩
     ·cases e
    ·cases e
   ·cases e
  ·cases e
 ·rintro ⟨xs,j,y,hx,hk,hj,hy,q⟩
  refine ⟨_,_,?_,q⟩
  simp only [gPopAt,hx,hj,hy,decide_eq_true hk]
  rfl
theorem ybA {b:Nat}:Wp (gExtend (.ref k) [.ref b] st) Q↔∃ xs ys,own st k=some xs∧own st b=some ys∧lim (xs.length + ys.length)=true∧Q .non (st.set k (.lst (xs ++ ys))):=by
 constructor
 ·rintro ⟨a,s,e,q⟩
  simp only [gExtend] at e
  split at e
  ·next xs ys hx hy =>
   split at e
   ·next hl=>cases e;exact ⟨xs,ys,hx,hy,hl,q⟩
   ·cases e
  ·cases e
 ·rintro ⟨xs,ys,hx,hy,hl,q⟩
  refine ⟨_,_,?_,q⟩
  simp only [gExtend,hx,hy,hl]
  rfl
theorem Xbk {v:Int}:Wp (gIndex (.tup ds) [.int v] st) Q↔∃ ns j,mapO iV ds=some ns∧ns.findIdx? (fun i=>decide (i=v))=some j∧Q (.int (j:Int)) st:=by
 constructor
 ·rintro ⟨a,s,e,q⟩
  simp only [gIndex] at e
  split at e
  ·next ns hn =>
   split at e
   ·next j hj=>cases e;exact ⟨ns,j,hn,hj,q⟩
   ·cases e
  ·cases e
 ·rintro ⟨ns,j,hn,hj,q⟩
  refine ⟨_,_,?_,q⟩
  simp only [gIndex,hn,hj]
theorem ZaW {v:Int} {ns:List Int} (h:items st k=some (ns.map D.int)) (hv:v∈ns) (hl:ns.length≤1000) (hb:∀ i∈ns,-1000000000000000000≤i∧i≤1000000000000000000):Wp (gIndexL (.ref k) [.int v] st) Q↔Q (.int (ns.idxOf v:Int)) st:=by
 have e:mapO iV (ns.map D.int)=some ns:=by
  have:=yav (f:=iV) (g:=D.int) (k:=id) (fun _=>rfl) ns
  rw [this,List.map_id]
 have e2:gIndexL (.ref k) [.int v] st=some (.int (ns.idxOf v:Int),st):=by
  simp only [gIndexL,h,Option.bind_some,e]
  rw [if_pos ⟨hv,hl,hb⟩]
 rw [e2,zab]
theorem ybQ:Wp (gAll [.ref k] st) Q↔∃ ds bs,items st k=some ds∧mapO bV ds=some bs∧Q (.bl (bs.all id)) st:=by
 constructor
 ·rintro ⟨a,s,e,q⟩
  simp only [gAll] at e
  split at e
  ·next bs hb =>
   cases e
   obtain ⟨ds,h1,h2⟩:=Option.bind_eq_some_iff.mp hb
   exact ⟨ds,bs,h1,h2,q⟩
  ·cases e
 ·rintro ⟨ds,bs,h1,h2,q⟩
  refine ⟨_,_,?_,q⟩
  simp only [gAll,h1,Option.bind_some,h2]
theorem wp_in {neg:Bool} {a c:D}:Wp (gIn neg a c st) Q↔∃ x ds vs,sV a=some x∧seqOf st c=some ds∧mapO sV ds=some vs∧Q (.bl (if neg then !inV x vs else inV x vs)) st:=by
 constructor
 ·rintro ⟨b,s,e,q⟩
  simp only [gIn] at e
  split at e
  ·next x vs h1 h2 =>
   cases e
   obtain ⟨ds,h3,h4⟩:=Option.bind_eq_some_iff.mp h2
   exact ⟨x,ds,vs,h1,h3,h4,q⟩
  ·cases e
 ·rintro ⟨x,ds,vs,h1,h2,h3,q⟩
  refine ⟨_,_,?_,q⟩
  simp only [gIn,h1,h2,Option.bind_some,h3]
theorem ZbA (ns:List Int):mapO sV (ns.map D.int)=some (ns.map V.int):=yav (f:=sV) (g:=D.int) (k:=V.int) (fun _=>rfl) ns
theorem YbA (ns:List Int):mapO iV (ns.map D.int)=some ns:=by
 have:=yav (f:=iV) (g:=D.int) (k:=id) (fun _=>rfl) ns
 rw [this,List.map_id]
theorem ZbQ {neg:Bool} {a b:D}:Wp (gEqD neg a b st) Q↔∃ p q,toP st 20 a=some p∧toP st 20 b=some q∧(PyData.canLay0 p=true∧PyData.canLay0 q=true∧min p.depth q.depth≤60)∧Q (.bl (if neg then !PyData.eqv p q else PyData.eqv p q)) st:=by
 constructor
 ·rintro ⟨c,s,e,q⟩
  simp only [gEqD] at e
  split at e
  ·next x y h1 h2 =>
   split at e
   ·next hs =>
    cases e
    rw [Bool.and_eq_true,Bool.and_eq_true,decide_eq_true_eq] at hs
    exact ⟨x,y,h1,h2,⟨hs.1.1,hs.1.2,hs.2⟩,q⟩
   ·cases e
  ·cases e
 ·rintro ⟨x,y,h1,h2,⟨h3,h4,h5⟩,q⟩
  refine ⟨_,_,?_,q⟩
  simp only [gEqD,h1,h2,h3,h4,decide_eq_true h5]
  rfl
theorem zb0 {a:D}:Wp (gRepr [a] st) Q↔∃ p,toP st 20 a=some p∧(p.showable=true∧p.canLay0=true∧p.shown.length≤sizeLine∧p.depth≤60)∧Q (.str p.shown) st:=by
 constructor
 ·rintro ⟨c,s,e,q⟩
  simp only [gRepr] at e
  split at e
  ·next p h1 =>
   split at e
   ·next hs =>
    cases e
    rw [Bool.and_eq_true,Bool.and_eq_true,Bool.and_eq_true,decide_eq_true_eq,decide_eq_true_eq] at hs
    exact ⟨p,h1,⟨hs.1.1.1,hs.1.1.2,hs.1.2,hs.2⟩,q⟩
   ·cases e
  ·cases e
 ·rintro ⟨p,h1,⟨h3,h4,h5,h6⟩,q⟩
  refine ⟨_,_,?_,q⟩
  simp only [gRepr,h1,h3,h4,decide_eq_true h5,decide_eq_true h6]
  rfl
theorem wp_ixS {z:Str}:Wp (gIxS (.str z) (.int i) st) Q↔∃ c,lim z.length=true∧atI z.cps.toList i=some c∧Q (.str ⟨#[c]⟩) st:=by
 constructor
 ·rintro ⟨c,s,e,q⟩
  simp only [gIxS] at e
  split at e
  ·next h1 =>
   split at e
   ·next c hc=>cases e;exact ⟨c,h1,hc,q⟩
   ·cases e
  ·cases e
 ·rintro ⟨c,h1,h2,q⟩
  refine ⟨_,_,?_,q⟩
  simp only [gIxS,h1,h2]
  rfl
theorem yb0 {δ:DSt} {fa:DSt→Dm (List D)} {R:Src→Store→Prop}:Wp (iRng1F fa δ st) R↔Wp (fa δ st) fun as st1=>∃ j,as=[.int j]∧(-4611686018427387904≤j∧j < 4611686018427387904)∧R (.fix (rangeD 0 j.toNat)) st1:=by
 unfold iRng1F;rw [yae]
 constructor <;> refine fun h=>Yab h fun as s h=>?_
 ·split at h
  ·next j =>
   rw [zan,zab,yad] at h
   split at h
   ·next hk=>exact ⟨j,rfl,of_decide_eq_true hk,h⟩
   ·exact h.elim
  ·exact (yad.mp h).elim
 ·obtain ⟨j,rfl,h1,h⟩:=h
  simp only [decide_eq_true h1,if_true]
  exact zab.mpr h
theorem Zb0 {δ:DSt} {fa:DSt→Dm (List D)} {R:Src→Store→Prop}:Wp (iRng2F fa δ st) R↔Wp (fa δ st) fun as st1=>∃ i j,as=[.int i,.int j]∧((-4611686018427387904≤i∧i < 4611686018427387904)∧-4611686018427387904≤j∧j < 4611686018427387904)∧R (.fix (rangeD i (j - i).toNat)) st1:=by
 unfold iRng2F;rw [yae]
 constructor <;> refine fun h=>Yab h fun as s h=>?_
 ·split at h
  ·next i j =>
   rw [zan,zab,yad] at h
   split at h
   ·next hk=>exact ⟨i,j,rfl,of_decide_eq_true hk,h⟩
   ·exact h.elim
  ·exact (yad.mp h).elim
 ·obtain ⟨i,j,rfl,h1,h⟩:=h
  simp only [decide_eq_true h1,if_true]
  exact zab.mpr h
theorem Yb0 {δ:DSt} {fa:DSt→Dm D} {R:Src→Store→Prop}:Wp (iTupF fa δ st) R↔Wp (fa δ st) fun a st1=>∃ ds,a=.tup ds∧R (.fix ds) st1:=by
 unfold iTupF;rw [yae]
 constructor <;> refine fun h=>Yab h fun a s h=>?_
 ·cases a <;> simp only [zab,yad] at h
  exact ⟨_,rfl,h⟩
 ·obtain ⟨j,rfl,h⟩:=h
  exact zab.mpr h
theorem zbL {δ:DSt} {fa:DSt→Dm D} {R:Src→Store→Prop}:Wp (iListF fa δ st) R↔Wp (fa δ st) fun a st1=>∃ i ds,a=.ref i∧items st1 i=some ds∧R (.live i) st1:=by
 unfold iListF;rw [yae]
 constructor <;> refine fun h=>Yab h fun a s h=>?_
 ·split at h
  ·split at h
   ·next i ds hd=>exact ⟨_,ds,rfl,hd,zab.mp h⟩
   ·exact (yad.mp h).elim
  ·exact (yad.mp h).elim
 ·obtain ⟨i,ds,rfl,hd,h⟩:=h
  simp only [hd]
  exact zab.mpr h
theorem ybL {δ:DSt} {fa:DSt→Dm (List D)} {R:Src→Store→Prop}:Wp (iEnumF fa δ st) R↔Wp (fa δ st) fun as st1=>∃ ds,as=[.tup ds]∧R (.fix (enumD ds)) st1:=by
 unfold iEnumF;rw [yae]
 constructor <;> refine fun h=>Yab h fun as s h=>?_
 ·split at h
  ·exact ⟨_,rfl,zab.mp h⟩
  ·exact (yad.mp h).elim
 ·obtain ⟨ds,rfl,h⟩:=h
  exact zab.mpr h
theorem zbl {i:Nat} {d:D} {δ:DSt} {R:DSt→Store→Prop}:Wp (hName i d δ st) R↔R (δ.set i (some d)) st:=zab
theorem xb0 {δ:DSt} {R:DSt→Store→Prop}:Wp (hNil [] δ st) R↔R δ st:=zab
theorem ZbL {f:D→DSt→Dm DSt} {g:List D→DSt→Dm DSt} {d:D} {ds:List D} {δ:DSt} {R:DSt→Store→Prop}:Wp (hCons f g (d :: ds) δ st) R↔Wp (f d δ st) fun δ1 st1=>Wp (g ds δ1 st1) R:=yae
theorem Xb0 {n:Nat} {f:List D→DSt→Dm DSt} {ds:List D} {δ:DSt} {R:DSt→Store→Prop}:Wp (hTup n f (.tup ds) δ st) R↔ds.length=n∧Wp (f ds δ st) R:=by
 show Wp (if ds.length=n then f ds δ st else none) R↔_
 rw [zan,yad]
 split
 ·next h=>exact ⟨fun q=>⟨h,q⟩,fun q=>q.2⟩
 ·next h=>exact ⟨False.elim,fun q=>h q.1⟩
theorem zb1 {fo fi:DSt→Dm D} {d:D} {δ:DSt} {R:DSt→Store→Prop}:Wp (hSub fo fi d δ st) R↔Wp (fo δ st) fun o st1=>Wp (fi δ st1) fun i st2=>∃ r k xs j,o=.ref r∧i=.int k∧own st2 r=some xs∧ixN xs.length k=some j∧R δ (st2.set r (.lst (xs.set j d))):=by
 unfold hSub;rw [yae];simp only [yae]
 constructor <;> refine fun h=>Yab h fun o s h=>Yab h fun i s2 h=>?_
 ·split at h
  ·split at h
   ·next xs hx =>
    split at h
    ·next j hj=>exact ⟨_,_,xs,j,rfl,rfl,hx,hj,zab.mp h⟩
    ·exact (yad.mp h).elim
   ·exact (yad.mp h).elim
  ·exact (yad.mp h).elim
 ·obtain ⟨r,k,xs,j,rfl,rfl,hx,hj,h⟩:=h
  simp only [hx,hj]
  exact zab.mpr h
theorem xbA {a:D} {c:String}:Wp (gIsinst [a,.ty c] st) Q↔tyNm st a=some c∧Q (.bl true) st:=by
 constructor
 ·rintro ⟨b,s,e,q⟩
  simp only [gIsinst] at e
  split at e
  ·next T hT =>
   split at e
   ·next h=>cases e;subst h;exact ⟨hT,q⟩
   ·cases e
  ·cases e
 ·rintro ⟨h,q⟩
  refine ⟨_,_,?_,q⟩
  simp only [gIsinst,h,if_true]
theorem ybg {δ:DSt} {R:Bool→Store→Prop}:Wp (fTrue δ st) R↔R true st:=zab
end
theorem at0 {α:Type} (x:α) (xs:List α):atI (x :: xs) 0=some x:=by
 unfold atI ixN
 rw [if_pos (by decide),if_pos (by simp only [List.length_cons];omega)]
 rfl
theorem at1 {α:Type} (x y:α) (xs:List α):atI (x :: y :: xs) 1=some y:=by
 unfold atI ixN
 rw [if_pos (by decide),if_pos (by simp only [List.length_cons];omega)]
 rfl
theorem s_get0 {α:Type} {a:α} {l:List α}:(a :: l)[0]?=some a:=List.getElem?_cons_zero
theorem s_getS {α:Type} {a:α} {l:List α} {i:Nat}:(a :: l)[i + 1]?=l[i]?:=List.getElem?_cons_succ
theorem s_set0 {α:Type} {a b:α} {l:List α}:(a :: l).set 0 b=b :: l:=List.set_cons_zero
theorem s_setS {α:Type} {a b:α} {l:List α} {i:Nat}:(a :: l).set (i + 1) b=a :: l.set i b:=List.set_cons_succ
theorem s_some {α:Type} (a b:α):(some a=some b)=(a=b):=Option.some.injEq a b
theorem s_ex' {α:Type} {p:α→Prop} {a':α}:(∃ a,a'=a∧p a)↔p a':=exists_eq_left'
theorem s_ex {α:Type} {p:α→Prop} {a':α}:(∃ a,a=a'∧p a)↔p a':=exists_eq_left
theorem s_exa {α:Type} {p:α→Prop} {b:Prop}:(∃ x,b∧p x)↔b∧∃ x,p x:=exists_and_left
theorem s_int (a b:Int):(D.int a=D.int b)=(a=b):=D.int.injEq a b
theorem s_bl (a b:Bool):(D.bl a=D.bl b)=(a=b):=D.bl.injEq a b
theorem s_str (a b:Str):(D.str a=D.str b)=(a=b):=D.str.injEq a b
theorem s_tup (a b:List D):(D.tup a=D.tup b)=(a=b):=D.tup.injEq a b
theorem s_ref (a b:Nat):(D.ref a=D.ref b)=(a=b):=D.ref.injEq a b
theorem s_cons {α:Type} (a:α) (l:List α) (b:α) (m:List α):(a :: l=b :: m)=(a=b∧l=m):=List.cons.injEq a l b m
theorem s_pair {α β:Type} (a:α) (b:β) (c:α) (d:β):((a,b)=(c,d))=(a=c∧b=d):=Prod.mk.injEq a b c d
theorem s_andT (p:Prop):(p∧True)=p:=and_true p
theorem s_Tand (p:Prop):(True∧p)=p:=true_and p
theorem s_notT:(!true)=false:=rfl
theorem s_notF:(!false)=true:=rfl
theorem s_FT:(false=true)=False:=by simp
theorem s_ifF {α:Type} {h:Decidable False} (t e:α):@ite α False h t e=e:=if_false t e
theorem s_ifT {α:Type} {h:Decidable True} (t e:α):@ite α True h t e=t:=if_true t e
noncomputable def wpB:=And.intro @wp_var (And.intro @wp_c (And.intro @wp_op (And.intro @wp_un (And.intro @wp_cb (And.intro @wp_nil (And.intro @ybX (And.intro @wp_tup (And.intro @wp_lst (And.intro @ZbX (And.intro @wp_not (And.intro @wp_and (And.intro @wp_or (And.intro @wp_if (And.intro @YbX (And.intro @wp_orV (And.intro @xbX (And.intro @zby (And.intro @XbX (And.intro @wp_sl (And.intro @wp_bm (And.intro @wp_add (And.intro @wp_sub (And.intro @wp_lt (And.intro @wp_le (And.intro @wp_gt (And.intro @wp_ge (And.intro @wp_neg (And.intro @wp_mul (And.intro @zbY (And.intro @wp_mod (And.intro @wp_pow (And.intro @wp_eqI (And.intro @wp_eqS (And.intro @wp_ixT (And.intro @wp_ixL (And.intro @wp_slT (And.intro @wp_slL (And.intro @ybY (And.intro @wp_cat (And.intro @wp_len (And.intro @ZbY (And.intro @XbJ (And.intro @YbY (And.intro @xbY (And.intro @XbY (And.intro @zbK (And.intro @yby (And.intro @Zby (And.intro @Yby (And.intro @YbZ (And.intro @zbg (And.intro @wp_din (And.intro @zbz (And.intro @xbk (And.intro @ybz (And.intro @Zaq (And.intro @xbZ (And.intro @Ybo (And.intro @ZbK (And.intro @xbo (And.intro @YbK (And.intro @Ybz (And.intro @XbZ (And.intro @xbz (And.intro @xbK (And.intro @zbA (And.intro @wp_rep (And.intro @XbK (And.intro @ybA (And.intro @Xbk (And.intro @ybQ (And.intro @wp_ixS (And.intro @yb0 (And.intro @Zb0 (And.intro @Yb0 (And.intro @zbL (And.intro @ybL (And.intro @zbl (And.intro @xb0 (And.intro @ZbL (And.intro @Xb0 (And.intro @zb1 (And.intro @xbA (And.intro @ybg (And.intro @at0 (And.intro @at1 (And.intro @s_get0 (And.intro @s_getS (And.intro @s_set0 (And.intro @s_setS (And.intro @s_some (And.intro @s_ex' (And.intro @s_ex (And.intro @s_exa (And.intro @s_int (And.intro @s_bl (And.intro @s_str (And.intro @s_tup (And.intro @s_ref (And.intro @s_cons (And.intro @s_pair (And.intro @s_andT (And.intro @s_Tand (And.intro @s_notT (And.intro @s_notF (And.intro @s_FT (And.intro @s_ifF (@s_ifT))))))))))))))))))))))))))))))))))))))))))))))))))))))))))))))))))))))))))))))))))))))))))))))))))))))))))))
theorem Xaa {α:Type} {m:Option (α×Store)} {Q:α→Store→Prop} (h:∀ Q':α→Store→Prop,(∀ a st,Q a st→Q' a st)→Wp m Q'):Wp m Q:=h Q fun _ _ h=>h
end L4
namespace L4
open PySem PySem.Spec L2
section
variable {X:Cx} {K:PySem.W.Frag}
theorem YaW:∀ {ns:List Int},(∀ i∈ns,smI i)→PyData.weightAll (intsD ns)≤65 * ns.length
 | [],_=>by show PyData.weightAll []≤0;simp only [PyData.weightAll];exact Nat.le_refl _
 | n :: r,h=>by
  have ih:=YaW (ns:=r) fun i hi=>h i (List.mem_cons_of_mem _ hi)
  have hn:=h n List.mem_cons_self
  have hw:(PyData.int n).weight≤64:=by
   simp only [PyData.weight]
   split
   ·omega
   ·have:n.natAbs < 2 ^ 63:=by unfold smI at hn;omega
    have h2:n.natAbs.log2 < 63:=by
     by_cases h0:n.natAbs=0
     ·rw [h0];decide
     ·exact (Nat.log2_lt h0).mpr this
    omega
  show PyData.weightAll (PyData.int n :: intsD r)≤65 * (r.length + 1)
  simp only [PyData.weightAll]
  omega
noncomputable def rIndexL (K:PySem.W.Frag):V→List V→Hp→VK→Prop:=fun x vs H Q=>∃ (a:Addr) (ns:List Int) (v:Int),x=.ref a∧vs=[.int v]∧SqL K H a (ns.map V.int)∧v∈ns∧ns.length≤1000∧(∀ i∈ns,smI i)∧Q (.int (ns.idxOf v:Int)) H
theorem XbA:MtR X "list.index" (rIndexL X.K):=by
 intro pins s σ H x xs v us Q I rx rv h
 obtain ⟨a,ns,y,rfl,rfl,hq,hm,hl,hb,q⟩:=h
 cases rx
 obtain ⟨u,rfl,t,rfl⟩:=vals1 rv
 obtain ⟨its,r,pl,hz⟩:=I.list hq
 exact PyProof.Rows.index_list_ints (vs:=its) pl.isList (zaP r) (by
  have hw:=YaW hb
  have c1:(PyData.list (List.map PyData.int ns)).canLay0=true:=Yar ns
  have c2:(PyData.list (List.map PyData.int ns)).depth≤64:=by show PyData.depthAll (intsD ns) + 1≤64;rw [zaA];omega
  have c3:(PyData.list (List.map PyData.int ns)).weight≤2 ^ 20:=by simp only [PyData.weight];exact Nat.le_trans hw (by omega)
  show (_ && _ && _)=true
  rw [c1,decide_eq_true c2,decide_eq_true c3];rfl) hm ⟨.int _,H,I.tok _,⟨_,rfl⟩,q⟩
theorem Xa0 (hK:X.K=K):MtR X "list.index" (rIndexL K):=by subst hK;exact XbA
theorem yba:SoM K "list" (rIndexL K) gIndexL:=by
 intro ρ H st x xs a as b st' Q l rx rxs e q
 unfold gIndexL at e
 split at e
 ·split at e
  ·next ns hn =>
   split at e
   ·next hm =>
    cases e
    obtain ⟨v,rfl,r⟩:=rxs.one'
    cases r
    cases rx with
    | ref hi =>
     obtain ⟨ds,h1,h2⟩:=Option.bind_eq_some_iff.mp hn
     obtain ⟨vs,s,r⟩:=l.items hi h1
     cases Zbk r h2
     exact ⟨_,ns,_,rfl,rfl,s,hm.1,hm.2.1,hm.2.2,q _ H ρ .refl l (.int _)⟩
   ·cases e
  ·cases e
 ·cases e
end
section
variable {st:Store} {Q:D→Store→Prop}
theorem ybl (n:Nat) (L:List Int):mapO (toP st (n + 1)) (L.map D.int)=some (intsD L):=yav (f:=toP st (n + 1)) (g:=D.int) (k:=PyData.int) (fun _=>by simp only [toP]) L
theorem Zba (a b:List PyData):PyData.eqv (.list a) (.list b)=PyData.eqvAll a b:=by simp only [PyData.eqv]
theorem ya4 (a b:List PyData):PyData.eqv (.tuple a) (.tuple b)=PyData.eqvAll a b:=by simp only [PyData.eqv]
theorem zbB {neg:Bool} {a b:Nat} {L M:List Int} (ha:items st a=some (L.map D.int)) (hb:items st b=some (M.map D.int)):Wp (gEqD neg (.ref a) (.ref b) st) Q↔Q (.bl (if neg then !decide (L=M) else decide (L=M))) st:=by
 have p1:∀ (i:Nat) (N:List Int),items st i=some (N.map D.int)→toP st 20 (.ref i)=some (.list (intsD N)):=fun i N h=>by
  simp only [toP,h]
  rw [ybl];rfl
 have dp:∀ N:List Int,PyData.depth (.list (intsD N))≤1:=fun N=>by show PyData.depthAll (intsD N) + 1≤1;rw [zaA];omega
 rw [ZbQ]
 constructor
 ·rintro ⟨p,q,h1,h2,_,h⟩
  rw [p1 a L ha] at h1
  rw [p1 b M hb] at h2
  cases h1
  cases h2
  rw [Zba,XaM] at h
  exact h
 ·intro h
  refine ⟨_,_,p1 a L ha,p1 b M hb,⟨Yar L,Yar M,by have:=dp L;omega⟩,?_⟩
  rw [Zba,XaM]
  exact h
noncomputable def tts (rs:List (List Int)):D:=.tup (rs.map fun r=>.tup (r.map D.int))
noncomputable def okT (rs:List (List Int)):Prop:=rs.length≤60∧∀ r∈rs,r.length≤60∧∀ i∈r,smI i
theorem xaW (rs:List (List Int)):toP st 20 (tts rs)=some (.tuple (rs.map tupD)):=by
 unfold tts
 simp only [toP]
 rw [yav (f:=toP st 19) (g:=fun r:List Int=>D.tup (r.map D.int)) (k:=tupD) (fun r=>by simp only [toP];rw [ybl];rfl) rs]
 rfl
theorem Zbg:∀ (rs ss:List (List Int)),PyData.eqvAll (rs.map tupD) (ss.map tupD)=decide (rs=ss)
 | [],[]=>rfl
 | [],_ :: _=>rfl
 | _ :: _,[]=>rfl
 | r :: rs,s :: ss=>by
  show (PyData.eqv (tupD r) (tupD s) && PyData.eqvAll (rs.map tupD) (ss.map tupD))=decide (r :: rs=s :: ss)
  rw [Zbg rs ss]
  unfold tupD
  rw [ya4,XaM]
  by_cases h:r=s
  ·subst h;simp
  ·simp [h]
theorem yb1 {neg:Bool} {rs ss:List (List Int)}:Wp (gEqD neg (tts rs) (tts ss) st) Q↔Q (.bl (if neg then !decide (rs=ss) else decide (rs=ss))) st:=by
 have dp:∀ rs:List (List Int),PyData.depth (.tuple (rs.map tupD))≤2:=fun N=>by show PyData.depthAll (N.map tupD) + 1≤2;have:=ZaP N;omega
 rw [ZbQ]
 constructor
 ·rintro ⟨p,q,h1,h2,_,h⟩
  rw [xaW] at h1 h2
  cases h1
  cases h2
  rw [ya4,Zbg] at h
  exact h
 ·intro h
  refine ⟨_,_,xaW rs,xaW ss,⟨zaG rs,zaG ss,by have:=dp rs;omega⟩,?_⟩
  rw [ya4,Zbg]
  exact h
theorem Zbl:∀ (rs:List (List Int)),(∀ r∈rs,r.length≤60)→total rs≤rs.length * 60
 | [],_=>Nat.le_refl _
 | r :: l,h=>by
  have a:=h r List.mem_cons_self
  have b:=Zbl l fun r hr=>h r (List.mem_cons_of_mem _ hr)
  show r.length + total l≤(l.length + 1) * 60
  omega
theorem ybB {rs:List (List Int)} (h:okT rs):Wp (gRepr [tts rs] st) Q↔Q (.str (PyData.shown (.tuple (rs.map fun r=>.tuple (r.map PyData.int))))) st:=by
 have s1:(PyData.tuple (rs.map tupD)).showable=true:=by
  simp only [PyData.showable]
  exact yaN fun r hr i hi=>(h.2 r hr).2 i hi
 have sz:(PyData.tuple (rs.map tupD)).shown.length≤sizeLine:=by
  refine Nat.le_trans (ybj _ s1 (by simp only [noL];exact ya8 rs)) ?_
  simp only [wD]
  rw [Za8]
  have:=Zbl rs fun r hr=>(h.2 r hr).1
  have:=h.1
  exact Nat.le_trans (show _≤8000000 by omega) (by decide)
 rw [zb0]
 constructor
 ·rintro ⟨p,h1,_,hq⟩
  rw [xaW] at h1
  cases h1
  exact hq
 ·intro hq
  exact ⟨_,xaW rs,⟨s1,zaG rs,sz,by show PyData.depthAll _ + 1≤60;have:=ZaP rs;omega⟩,hq⟩
end
end L4
namespace L4
open PySem PySem.Spec L2
noncomputable def FeedIs (st:Store) (f:Nat):Prop:=∃ o m:Int,st[f]?=some (.lst [.int o,.int m])∧0≤o∧0≤m∧m < 4294967296
theorem ix2_0:ixN 2 0=some 0:=by decide
theorem ix2_1:ixN 2 1=some 1:=by decide
theorem yaf (n:Nat):rangeD 0 n=(Mth.upto n).map D.int:=by
 unfold rangeD Mth.upto
 rw [List.map_map]
 apply List.map_congr_left
 intro i _
 simp
theorem Xbo (L:List Int) (j:Nat):(L.map D.int).eraseIdx j=(L.eraseIdx j).map D.int:=by
 induction L generalizing j with
 | nil=>rfl
 | cons a r ih =>
  cases j with
  | zero=>rfl
  | succ j=>show D.int a :: (r.map D.int).eraseIdx j=_;rw [ih];rfl
theorem Ybg {L:List Int} {j:Nat} (h:j < L.length):(L[j] :: L.eraseIdx j).Perm L:=by
 induction L generalizing j with
 | nil=>exact absurd h (Nat.not_lt_zero _)
 | cons a r ih =>
  cases j with
  | zero=>exact List.Perm.refl _
  | succ j =>
   have:=ih (j:=j) (by simpa using h)
   exact (List.Perm.swap _ _ _).trans (this.cons a)
theorem FeedIs.keep {st st':Store} {f:Nat} (h:FeedIs st f) (e:Ex [] st st'):FeedIs st' f:=by
 obtain ⟨o,m,e1,r⟩:=h
 exact ⟨o,m,e.keep _ _ e1 (by simp),r⟩
theorem FeedIs.ne {st:Store} {f i:Nat} {o:O} (h:FeedIs st f) (hi:i≠f):FeedIs (st.set i o) f:=by
 obtain ⟨x,m,e1,r⟩:=h
 exact ⟨x,m,by rw [List.getElem?_set_ne hi];exact e1,r⟩
theorem FeedIs.lt {st:Store} {f:Nat} (h:FeedIs st f):f < st.length:=let ⟨_,_,e,_⟩:=h;Zad e
theorem xay {xs:List Int} {i:Int} (h0:0≤i) (h1:i < (xs.length:Int)):atI (xs.map D.int) i=some (.int (Mth.app xs i)):=by
 have e:(xs.map D.int)[i.toNat]?=some (.int (Mth.app xs i)):=by rw [List.getElem?_map,Mth.Xam h0 h1];rfl
 have:=yaP e
 rwa [Int.toNat_of_nonneg h0] at this
theorem YaT {xs:List Int} {i:Nat} {d:D} (h:(xs.map D.int)[i]?=some d):∃ x,xs[i]?=some x∧d=.int x:=by
 rw [List.getElem?_map] at h
 obtain ⟨x,h1,h2⟩:=Option.map_eq_some_iff.mp h
 exact ⟨x,h1,h2.symm⟩
theorem XaW (x:Int):∀ (ns:List Int),inV (.int x) (ns.map V.int)=ns.contains x
 | []=>rfl
 | n :: r=>by
  have e:=XaW x r
  unfold inV at e ⊢
  rw [List.map_cons,List.any_cons,e,List.contains_cons]
  congr 1
  show (n == x)=(x == n)
  exact Bool.beq_comm
theorem Ybl {st:Store} {Q:D→Store→Prop} {neg:Bool} {x:Int} {c:D} {ns:List Int} (hc:seqOf st c=some (ns.map D.int)):Wp (gIn neg (.int x) c st) Q↔Q (.bl (if neg then !ns.contains x else ns.contains x)) st:=by
 rw [wp_in]
 constructor
 ·rintro ⟨v,ds,vs,h1,h2,h3,h⟩
  cases h1
  rw [hc] at h2
  cases h2
  rw [ZbA] at h3
  cases h3
  rw [XaW] at h
  exact h
 ·intro h
  refine ⟨_,_,_,rfl,hc,ZbA ns,?_⟩
  rw [XaW]
  exact h
noncomputable def flD (xs ys:List Int):D:=.tup [.tup (xs.map D.int),.tup (ys.map D.int)]
structure Two (st0 st:Store) (f r u:Nat) (n:Nat) (X Y:List Int):Prop where
 hr:st[r]?=some (.lst (X.map D.int))
 hu:st[u]?=some (.lst (Y.map D.int))
 ne:r≠u
 r0:st0.length≤r
 u0:st0.length≤u
 tX:Mth.Tn n X
 tY:Mth.Tn n Y
 fd:FeedIs st f
 ex:Ex [f] st0 st
section
variable {st0 st st':Store} {f r u n:Nat} {X Y Z:List Int} {o:O}
theorem Two.keep (h:Two st0 st f r u n X Y) (e:Ex [] st st'):Two st0 st' f r u n X Y:=⟨e.keep _ _ h.hr (by simp),e.keep _ _ h.hu (by simp),h.ne,h.r0,h.u0,h.tX,h.tY,h.fd.keep e,h.ex.trans e.any⟩
theorem Two.setR (h:Two st0 st f r u n X Y) (t:Mth.Tn n Z):Two st0 (st ++ [.lst (Z.map D.int)]) f st.length u n Z Y:=⟨Zah,zam h.hu,by have:=Zad h.hu;omega,h.ex.len,h.u0,t,h.tY,h.fd.keep (Ex.app0 _),h.ex.app _⟩
theorem Two.setU (h:Two st0 st f r u n X Y) (t:Mth.Tn n Z):Two st0 (st ++ [.lst (Z.map D.int)]) f r st.length n X Z:=⟨zam h.hr,Zah,by have:=Zad h.hr;omega,h.r0,h.ex.len,h.tX,t,h.fd.keep (Ex.app0 _),h.ex.app _⟩
theorem Two.put (h:Two st0 st f r u n X Y) (t:Mth.Tn n Z) (hf:f < st0.length):Two st0 (st.set r (.lst (Z.map D.int))) f r u n Z Y:=⟨List.getElem?_set_self (Zad h.hr),by rw [List.getElem?_set_ne h.ne];exact h.hu,h.ne,h.r0,h.u0,t,h.tY,h.fd.ne (by have:=h.r0;omega),h.ex.loc h.r0⟩
end
theorem ZbB (n:Nat):(Mth.form1 n).map D.int=rangeD 1 ((n:Int) - 1).toNat ++ [.int 0]:=by
 unfold Mth.form1 rangeD
 rw [List.map_append,List.map_map,show ((n:Int) - 1).toNat=n - 1 by omega]
 rfl
theorem xaD {lo hi:Int} (h:0≤lo∧lo≤10000∧0≤hi∧hi≤10000):okR lo hi=true:=by
 unfold okR;rw [Bool.and_eq_true,decide_eq_true_eq];exact ⟨by omega,Yaq (by omega)⟩
theorem rowR_D (w n:Nat):(Mth.rowR w n).map D.int=rangeD 1 ((w:Int) - 1).toNat ++ [.int 0] ++ rangeD (w:Int) ((n:Int) - (w:Int)).toNat:=by
 unfold Mth.rowR rangeD
 rw [List.map_append,List.map_append,List.map_map,List.map_map,show ((w:Int) - 1).toNat=w - 1 by omega,show ((n:Int) - (w:Int)).toNat=n - w by omega]
 rfl
theorem YbB (xs:List D) (j:Nat):cutD xs none (some (j:Int))=xs.take j:=by
 unfold cutD
 rw [HT.ZbF,HT.ybS,List.drop_zero,Nat.sub_zero,List.take_eq_take_iff];omega
theorem colU_D {w n:Nat} (h0:0 < w) (h:w < n):(Mth.colU w n).map D.int=cutD ([D.int (w:Int)] ++ rangeD 1 ((w:Int) - 1).toNat ++ rangeD ((w:Int) + 1) ((n:Int) - ((w:Int) + 1)).toNat ++ [.int 0]) none (some (n:Int)):=by
 rw [YbB,List.take_of_length_le (by simp [xab];omega)]
 unfold Mth.colU rangeD
 rw [List.map_append,List.map_append,List.map_append,List.map_map,List.map_map,show ((w:Int) - 1).toNat=w - 1 by omega,show ((n:Int) - ((w:Int) + 1)).toNat=n - (w + 1) by omega]
 rfl
noncomputable def IsFl (n:Nat) (xs ys:List Int):Prop:=Mth.Tn n xs∧Mth.Tn n ys∧∀ x:Int,0≤x→x < (n:Int)→Mth.Rch xs ys x
theorem xbl {xs:List Int} {v:Int} (h:v∈xs):xs.findIdx? (fun i=>decide (i=v))=some (xs.idxOf v):=by
 induction xs with
 | nil=>exact nomatch h
 | cons a r ih =>
  rw [List.findIdx?_cons]
  by_cases e:a=v
  ·subst e;simp
  ·have hm:v∈r:=by
    rcases List.mem_cons.mp h with h | h
    ·exact absurd h.symm e
    ·exact h
   rw [decide_eq_false e,ih hm,List.idxOf_cons,show (a == v)=false by simpa using e]
   rfl
theorem Zb1 {xs:List D} {lo hi:Option Int} {d:D} (h:d∈cutD xs lo hi):d∈xs:=List.mem_of_mem_drop (List.mem_of_mem_take h)
theorem Yb1 (xs:List D) (lo hi:Option Int):(cutD xs lo hi).length≤xs.length:=by
 unfold cutD;rw [List.length_take,List.length_drop];omega
theorem xb1 (n:Nat):mapO bV (List.replicate n (.bl true))=some (List.replicate n true):=by
 have:=yav (f:=bV) (g:=D.bl) (k:=id) (fun _=>rfl) (List.replicate n true)
 simpa using this
noncomputable def SrcOk (S:Src) (ds:List D) (st:Store):Prop:=∀ (i:Nat) (st2:Store),i≤ds.length→Ex [] st st2→S.at i st2=some ds[i]?
theorem zaF {st st':Store} {r:Nat} {ds:List D} (h:items st r=some ds) (e:Ex [] st st'):items st' r=some ds:=by
 unfold items at h ⊢
 cases hx:st[r]? with
 | none=>rw [hx] at h;cases h
 | some o=>rw [e.keep _ _ hx (by simp)];rw [hx] at h;exact h
theorem XaD (ds:List D) (st:Store):SrcOk (.fix ds) ds st:=fun i st2 hi _=>by
 show (if i≤ds.length then some ds[i]? else none)=_
 rw [if_pos hi]
theorem YbL {ds:List D} {st:Store} {r:Nat} (h:items st r=some ds):SrcOk (.live r) ds st:=fun i st2 hi e=>by
 show (items st2 r).map _=_
 rw [zaF h e];rfl
theorem xaj {δ:DSt} {st:Store} {fi:DSt→Dm Src} {js:List Nat} {f:DSt→Dm D} {Q:D→Store→Prop} (ds:List D) (h:D→D) (hi:Wp (fi δ st) fun S st1=>SrcOk S ds st1∧Ex [] st st1) (hl:ds.length < 100000)
  (step:∀ d∈ds,∀ st1,Ex [] st st1→Wp (f (some d :: js.map fun j=>δ.getD j none) st1) fun y st2=>y=h d∧Ex [] st1 st2) (fin:∀ st',Ex [] st st'→Q (.ref st'.length) (st' ++ [.lst (ds.map h)])):Wp (fComp fi 1 js (hName 0) fTrue f δ st) Q:=by
 obtain ⟨S,st1,e1,hS,k1⟩:=hi
 refine Xbf ds (fun i ys δ' st8=>(∃ v,δ'=v :: js.map fun j=>δ.getD j none)∧ys=(ds.take i).map h∧Ex [] st1 st8) ⟨S,st1,e1,fun i ys δ' st8 hi' hp=>hS i st8 hi' hp.2.2,⟨none,rfl⟩,rfl,Ex.refl⟩ hl ?_ ?_ ?_
 ·rintro i ys δ' st8 ⟨_,rfl,_⟩
  rw [List.length_map,List.length_take];omega
 ·rintro i d ys δ' st8 hd ⟨⟨v,rfl⟩,rfl,k8⟩
  rw [zbl]
  show Wp (fTrue _ _) _
  rw [ybg]
  refine ⟨fun _=>?_,fun h=>absurd h (by decide)⟩
  refine Yab (step d (List.mem_of_getElem? hd) st8 (k1.trans k8)) ?_
  rintro y st9 ⟨rfl,k9⟩
  refine ⟨⟨some d,rfl⟩,?_,k8.trans k9⟩
  obtain ⟨hlt,e⟩:=List.getElem?_eq_some_iff.mp hd
  rw [List.take_succ_eq_append_getElem hlt,List.map_append,e];rfl
 ·rintro ys δ' st8 ⟨_,rfl,k8⟩
  rw [List.take_length]
  exact fin st8 (k1.trans k8)
theorem zaz {xs:List Int} {d:D} (h:d∈xs.map D.int):∃ x∈xs,d=.int x:=by
 obtain ⟨x,hx,rfl⟩:=List.mem_map.mp h
 exact ⟨x,hx,rfl⟩
theorem yaM {xs:List Int} {f:Int→Int} {h:D→D} (e:∀ x∈xs,h (.int x)=.int (f x)):(xs.map D.int).map h=(xs.map f).map D.int:=by
 rw [List.map_map,List.map_map]
 exact List.map_congr_left fun x hx=>e x hx
noncomputable def inD:D→Int
 | .int i=>i
 | _=>0
noncomputable def reprFl (xs ys:List Int):Str:=PyData.shown (.tuple ([xs,ys].map fun r=>.tuple (r.map PyData.int)))
theorem okFl {n:Nat} {xs ys:List Int} (tx:Mth.Tn n xs) (ty:Mth.Tn n ys) (hn:n≤60):okT [xs,ys]:=by
 have small:∀ zs:List Int,Mth.Tn n zs→zs.length≤60∧∀ i∈zs,smI i:=fun zs tz=>⟨by rw [tz.length];exact hn,fun i hi=>by have:=tz.bound hi;unfold smI;omega⟩
 refine ⟨by simp,fun r hr=>?_⟩
 rcases List.mem_cons.mp hr with rfl | hr
 ·exact small _ tx
 ·rw [List.mem_singleton.mp hr];exact small _ ty
section
variable {st:Store} {Q:D→Store→Prop}
theorem xbB {xs ys:List Int} (h:okT [xs,ys]):Wp (gRepr [flD xs ys] st) Q↔Q (.str (reprFl xs ys)) st:=ybB (rs:=[xs,ys]) h
theorem Za4 {neg:Bool} {xs ys zs ws:List Int}:Wp (gEqD neg (flD xs ys) (flD zs ws) st) Q↔Q (.bl (if neg then !decide ([xs,ys]=[zs,ws]) else decide ([xs,ys]=[zs,ws]))) st:=yb1 (rs:=[xs,ys]) (ss:=[zs,ws])
end
theorem Xbl (zs:List Int):(zs.map D.int).map inD=zs:=by rw [List.map_map];exact List.map_id zs
theorem XbB {δ:DSt} {st:Store} {a:Nat} {ds:List D} (c:Nat) (hc:c≤1000) (h0:δ[0]?=some (some (.ref a))) (hs:items st a=some ds) :
  Wp (iRng1F (fCons (fCB gMax2 (fCons (fC (.int 1)) (fCons (fCB gLen (fCons (fSl gSlL (fVar 0) fNoPart (fPart (fC (.int (c:Int))))) fNil)) fNil))) fNil) δ st) fun S st1=>∃ m:Nat,m≤max 1 c∧S=.fix (rangeD 0 m)∧Ex [] st st1:=by
 have hc3:(cutD ds none (some (c:Int))).length≤c:=by rw [YbB,List.length_take];omega
 obtain ⟨m,hm,hm4⟩:∃ m:Nat,(if ((cutD ds none (some (c:Int))).length:Int) > 1 then ((cutD ds none (some (c:Int))).length:Int) else 1)=(m:Int)∧m≤max 1 c:=by
  split
  ·exact ⟨_,rfl,by omega⟩
  ·exact ⟨1,rfl,by omega⟩
 refine Xaa ?_
 intro _ hQ
 set_option simprocs false in simp only [wpB,h0,hs,hm]
 exact ⟨by omega,hQ _ _ ⟨m,hm4,by rw [Int.toNat_natCast],Ex.app0 _⟩⟩
theorem xbL {δ:DSt} {st:Store} {a m n:Nat} {qs:List D} {tg:D→DSt→Dm DSt} {f:DSt→Dm D} (h1:δ[1]?=some (some (.ref a))) (hq:st[a]?=some (.lst qs)) (hl:qs.length≤10000)
  (step:∀ d∈qs,∀ (δ':DSt) (st1:Store),δ'.length=n→Wp (tg d δ' st1) fun δ1 st2=>δ1.length=n∧Wp (f δ1 st2) fun y st3=>y=.bl true∧Ex [] st1 st3) :
  Wp (fCB gAll (fCons (fComp (iListF (fOp gCat (fVar 1) (fSl gSlL (fVar 1) fNoPart (fPart (fC (.int (m:Int))))))) n [] tg fTrue f) fNil) δ st) fun d _=>d=.bl true:=by
 have c1:=Yb1 qs none (some (m:Int))
 refine Xaa ?_
 intro _ hQ
 set_option simprocs false in simp only [wpB]
 refine Xbf (qs ++ cutD qs none (some (m:Int))) (fun j zs δ' st8=>zs=List.replicate j (.bl true)∧δ'.length=n∧items st8 (st.length + 1)=some (qs ++ cutD qs none (some (m:Int)))) ?_ (by rw [List.length_append];omega) (fun j zs δ' st8 h=>by rw [h.1,List.length_replicate];exact Nat.le_refl _) ?_ ?_
 ·refine Xaa ?_
  intro _ hQ2
  set_option simprocs false in simp only [wpB,h1,zac hq,Xai (zam (m:=[O.lst (cutD qs none (some (m:Int)))]) hq)]
  have e1:(st ++ [O.lst (cutD qs none (some (m:Int)))]).length=st.length + 1:=by simp
  refine ⟨Yaq (by omega),hQ2 _ _ ⟨fun j zs δ' st8 hj h=>?_,rfl,by simp [compD],by rw [← e1];exact Zaq⟩⟩
  rw [e1]
  show (items st8 (st.length + 1)).map _=_
  rw [h.2.2]
  rfl
 ·rintro j d zs δ' st8 hd ⟨rfl,hδ,h8⟩
  have hd':d∈qs:=by
   rcases List.mem_append.mp (List.mem_of_getElem? hd) with h | h
   ·exact h
   ·exact Zb1 h
  obtain ⟨δ1,st9,e9,hl9,w9⟩:=step d hd' δ' st8 hδ
  refine ⟨δ1,st9,e9,?_⟩
  show Wp (fTrue δ1 st9) _
  rw [ybg]
  refine ⟨fun _=>?_,fun h=>absurd h (by decide)⟩
  refine Yab w9 ?_
  rintro y st3 ⟨rfl,k3⟩
  exact ⟨by rw [List.replicate_succ'],hl9,zaF h8 k3⟩
 ·rintro zs δ' st8 ⟨rfl,_,_⟩
  rw [ybQ]
  refine ⟨_,_,Zaq,xb1 _,hQ _ _ ?_⟩
  simp
theorem _root_.Mth.anew_fl {n:Nat} {xs ys p:List Int} (fl:IsFl n xs ys) (tp:Mth.Tn n p) (n0:0 < n):IsFl n (Mth.anew xs p) (Mth.anew ys p):=by
 obtain ⟨tx,ty,all⟩:=fl
 have tX:=tx.anew tp
 have tY:=ty.anew tp
 refine ⟨tX,tY,fun x x0 x1=>?_⟩
 obtain ⟨a0,a1⟩:=tp.app (i:=0) (by decide) (by omega)
 have hb:∀ y:Int,0≤y→y < (n:Int)→y∈Mth.bf (Mth.anew xs p) (Mth.anew ys p) (Mth.app p 0) n:=fun y y0 y1=>by
  rw [Mth.Za3 tx ty tp (by decide) (by omega) n]
  obtain ⟨b0,b1⟩:=tp.invB y0 y1
  exact List.mem_map.mpr ⟨Mth.app (Mth.inv p) y,Mth.zbP tx ty (by decide) (by omega) all b0 b1,tp.app_inv y0 y1⟩
 have hF:=Mth.YbV tX tY (s:=0) (by decide) (by omega)
 have nd:=Mth.ZaG (Mth.anew xs p) (Mth.anew ys p) 0 n
 have bd:=Mth.yam tX tY (s:=0) (by decide) (by omega) n
 have rch:∀ k,∀ y∈Mth.bf (Mth.anew xs p) (Mth.anew ys p) 0 k,Mth.Rch (Mth.anew xs p) (Mth.anew ys p) y:=by
  intro k
  induction k with
  | zero=>intro y hy;rw [List.mem_singleton.mp (show y∈[(0:Int)] from hy)];exact .zero
  | succ k ih =>
   intro y hy
   have hy':y∈(match (Mth.bf (Mth.anew xs p) (Mth.anew ys p) 0 k)[k]? with | some x=>Mth.visit (Mth.anew xs p) (Mth.anew ys p) (Mth.bf (Mth.anew xs p) (Mth.anew ys p) 0 k) x | none=>Mth.bf (Mth.anew xs p) (Mth.anew ys p) 0 k):=hy
   split at hy'
   ·next z hz =>
    have hzr:=ih z (List.mem_of_getElem? hz)
    rcases Mth.Yai.mp hy' with hy' | rfl
    ·rcases Mth.Yai.mp hy' with hy' | rfl
     ·exact ih y hy'
     ·exact hzr.r
    ·exact hzr.u
   ·exact ih y hy'
 refine rch n x ?_
 have z0:(0:Int)∈Mth.bf (Mth.anew xs p) (Mth.anew ys p) 0 n:=by
  have:=Mth.ZaV (Mth.anew xs p) (Mth.anew ys p) 0 0 n
  rw [Nat.zero_add] at this
  exact this.subset (show (0:Int)∈[(0:Int)] by simp)
 have back:∀ k,(∃ y∈Mth.bf (Mth.anew xs p) (Mth.anew ys p) (Mth.app p 0) k,y∈Mth.bf (Mth.anew xs p) (Mth.anew ys p) 0 n)→Mth.app p 0∈Mth.bf (Mth.anew xs p) (Mth.anew ys p) 0 n:=by
  intro k
  induction k with
  | zero =>
   rintro ⟨y,hy,hy2⟩
   rw [List.mem_singleton.mp (show y∈[Mth.app p 0] from hy)] at hy2
   exact hy2
  | succ k ih =>
   rintro ⟨y,hy,hy2⟩
   have hy':y∈(match (Mth.bf (Mth.anew xs p) (Mth.anew ys p) (Mth.app p 0) k)[k]? with | some x=>Mth.visit (Mth.anew xs p) (Mth.anew ys p) (Mth.bf (Mth.anew xs p) (Mth.anew ys p) (Mth.app p 0) k) x | none=>Mth.bf (Mth.anew xs p) (Mth.anew ys p) (Mth.app p 0) k):=hy
   split at hy'
   ·next z hz =>
    have hzm:=List.mem_of_getElem? hz
    obtain ⟨c0,c1⟩:=Mth.yam tX tY a0 a1 k z hzm
    rcases Mth.Yai.mp hy' with hy' | rfl
    ·rcases Mth.Yai.mp hy' with hy' | rfl
     ·exact ih ⟨y,hy',hy2⟩
     ·exact ih ⟨z,hzm,Mth.YaV tX nd bd (fun x hx=>(hF x hx).1) c0 c1 hy2⟩
    ·exact ih ⟨z,hzm,Mth.YaV tY nd bd (fun x hx=>(hF x hx).2) c0 c1 hy2⟩
   ·exact ih ⟨y,hy',hy2⟩
 have hp0:=back n ⟨0,hb 0 (by decide) (by omega),z0⟩
 have fwd:∀ k,∀ y∈Mth.bf (Mth.anew xs p) (Mth.anew ys p) (Mth.app p 0) k,y∈Mth.bf (Mth.anew xs p) (Mth.anew ys p) 0 n:=by
  intro k
  induction k with
  | zero=>intro y hy;rw [List.mem_singleton.mp (show y∈[Mth.app p 0] from hy)];exact hp0
  | succ k ih =>
   intro y hy
   have hy':y∈(match (Mth.bf (Mth.anew xs p) (Mth.anew ys p) (Mth.app p 0) k)[k]? with | some x=>Mth.visit (Mth.anew xs p) (Mth.anew ys p) (Mth.bf (Mth.anew xs p) (Mth.anew ys p) (Mth.app p 0) k) x | none=>Mth.bf (Mth.anew xs p) (Mth.anew ys p) (Mth.app p 0) k):=hy
   split at hy'
   ·next z hz =>
    have hzr:=ih z (List.mem_of_getElem? hz)
    rcases Mth.Yai.mp hy' with hy' | rfl
    ·rcases Mth.Yai.mp hy' with hy' | rfl
     ·exact ih y hy'
     ·exact (hF z hzr).1
    ·exact (hF z hzr).2
   ·exact ih y hy'
 exact fwd n x (hb x x0 x1)
end L4
namespace L4
open PySem PySem.Spec L2
theorem Zat (p:Key×D) (r:List (Key×D)) (k:Key):valD (p :: r) k=if p.1=k then some p.2 else valD r k:=by
 unfold valD
 rw [List.find?_cons]
 by_cases e:p.1=k
 ·rw [decide_eq_true e,if_pos e];rfl
 ·rw [decide_eq_false e,if_neg e]
theorem xaK (kvs:List (Key×D)) (k j:Key) (y:D):valD (putD kvs k y) j=if j=k then some y else valD kvs j:=by
 unfold putD
 by_cases a:(kvs.any fun kv=>decide (kv.1=k))=true
 ·rw [if_pos a]
  induction kvs with
  | nil=>simp at a
  | cons p r ih =>
   rw [List.map_cons,Zat,Zat]
   by_cases e:p.1=k
   ·rw [if_pos e]
    by_cases ej:j=k
    ·rw [if_pos ej,if_pos (show (p.1,y).1=j from e.trans ej.symm)]
    ·rw [if_neg ej,if_neg (show ¬ (p.1,y).1=j from fun z=>ej (z.symm.trans e)),if_neg (fun z=>ej (z.symm.trans e))]
     have:∀ l:List (Key×D),valD (l.map fun kv=>if kv.1=k then (kv.1,y) else kv) j=valD l j:=by
      intro l
      induction l with
      | nil=>rfl
      | cons q l ihl =>
       rw [List.map_cons,Zat,Zat,ihl]
       by_cases eq:q.1=k
       ·rw [if_pos eq,if_neg (show ¬ (q.1,y).1=j from fun z=>ej (z.symm.trans eq)),if_neg (fun z=>ej (z.symm.trans eq))]
       ·rw [if_neg eq]
     exact this r
   ·rw [if_neg e]
    have a':(r.any fun kv=>decide (kv.1=k))=true:=by
     rw [List.any_cons,decide_eq_false e,Bool.false_or] at a
     exact a
    rw [ih a']
    by_cases ej:j=k
    ·rw [if_pos ej,if_neg (fun z=>e (z.trans ej)),if_pos ej]
    ·rw [if_neg ej,if_neg ej]
 ·rw [if_neg a]
  induction kvs with
  | nil =>
   show valD [(k,y)] j=_
   rw [Zat]
   by_cases ej:j=k
   ·rw [if_pos ej.symm,if_pos ej]
   ·rw [if_neg (fun z=>ej z.symm),if_neg ej]
  | cons p r ih =>
   have a':¬ (r.any fun kv=>decide (kv.1=k))=true:=fun z=>a (by rw [List.any_cons,z,Bool.or_true])
   have ep:p.1≠k:=fun z=>a (by rw [List.any_cons,decide_eq_true z,Bool.true_or])
   rw [List.cons_append,Zat,ih a',Zat]
   by_cases ej:j=k
   ·rw [if_pos ej,if_pos ej,if_neg (fun z=>ep (z.trans ej))]
   ·rw [if_neg ej,if_neg ej]
theorem xbg (kvs:List (Key×D)) (k:Key) (v:D):(putD kvs k v).length≤kvs.length + 1:=by
 unfold putD
 split
 ·rw [List.length_map];omega
 ·rw [List.length_append,List.length_cons,List.length_nil];omega
theorem xaT {st:Store} {i:Nat} {kvs:List (Key×D)} (h:st[i]?=some (.dct kvs)):dctOf st (.ref i)=some kvs:=by simp only [dctOf,h]
end L4
namespace L4
open PySem PySem.Spec L2
abbrev Stp:=Bool×Int
noncomputable def stD (s:Stp):D:=.tup [.str (if s.1 then "s" else "t"),.int s.2]
end L4
namespace L4
open PySem PySem.Spec L2
section
variable {X:Cx} {K:PySem.W.Frag}
end
end L4
namespace L4
open PySem PySem.Spec L2
section
variable {K:PySem.W.Frag}
end
section
variable {X:Cx}
end
section
variable {st:Store} {Q:D→Store→Prop}
theorem wp_eqB {neg a b:Bool}:Wp (gEq neg (.bl a) (.bl b) st) Q↔Q (.bl (if neg then !decide (a=b) else decide (a=b))) st:=by
 have e:decide (V.bl a=V.bl b)=decide (a=b):=by
  by_cases h:a=b
  ·subst h;simp
  ·simp [h]
 show Wp (if scal (V.bl a) (V.bl b)=true then some (D.bl (if neg then !decide (V.bl a=V.bl b) else decide (V.bl a=V.bl b)),st) else none) Q↔_
 rw [if_pos (show scal _ _=true from rfl),zab,e]
end
end L4
namespace L4
open PySem PySem.Spec L2
noncomputable def chD (x:Str):List D:=x.cps.toList.map fun c=>.str ⟨#[c]⟩
section
variable {K:PySem.W.Frag}
end
section
variable {st:Store} {Q:D→Store→Prop}
end
end L4
namespace L4
open PySem PySem.Spec L2
noncomputable def zsD:D→Option (List D)
 | .tup ds=>some ds
 | .str x=>some (chD x)
 | _=>none
noncomputable def zipD:List D→List D→List D
 | a :: r,b :: t=>.tup [a,b] :: zipD r t
 | _,_=>[]
theorem zbm:∀ {ds es:List D} {i:Nat} {d:D},(zipD ds es)[i]?=some d→∃ a b,ds[i]?=some a∧es[i]?=some b∧d=.tup [a,b]
 | a :: r,b :: t,0,d,h=>⟨a,b,rfl,rfl,(Option.some.inj h).symm⟩
 | a :: r,b :: t,i + 1,d,h=>zbm (ds:=r) (es:=t) (i:=i) h
 | [],_,_,_,h=>by simp [zipD] at h
 | _ :: _,[],_,_,h=>by simp [zipD] at h
theorem ybm:∀ {ds es:List D} {i:Nat},i≤(zipD ds es).length→(zipD ds es)[i]?=none→(i=ds.length∧i≤es.length)∨(i < ds.length∧i=es.length)
 | [],es,i,h,_=>by
  have:i=0:=by simpa [zipD] using h
  subst this
  exact .inl ⟨rfl,Nat.zero_le _⟩
 | a :: r,[],i,h,_=>by
  have:i=0:=by simpa [zipD] using h
  subst this
  exact .inr ⟨Nat.succ_pos _,rfl⟩
 | a :: r,b :: t,0,_,h=>by simp [zipD] at h
 | a :: r,b :: t,i + 1,h,hn=>by
  have h1:i≤(zipD r t).length:=by simp only [zipD,List.length_cons] at h;omega
  have h2:(zipD r t)[i]?=none:=by simpa [zipD] using hn
  have:=ybm (ds:=r) (es:=t) h1 h2
  simp only [List.length_cons]
  omega
noncomputable def iZipF (fa:DSt→Dm (List D)):DSt→Dm Src:=fun δ st=>bnd (fa δ st) fun as st1=>match as with
 | [a,b]=>match zsD a,zsD b with
  | some ds,some es=>some (.fix (zipD ds es),st1)
  | _,_=>none
 | _=>none
section
variable {K:PySem.W.Frag}
theorem zs_of {ρ:List Addr} {H:Hp} {x:V} {a:D} {ds:List D} (r:Rp K ρ H x a) (h:zsD a=some ds):∃ src:ZS,src.val K H x∧∀ (ρ2:List Addr) (H2:Hp),Mn K ρ H ρ2 H2→∀ i,(∀ d,ds[i]?=some d→∃ v,src.has K H2 i v∧Rp K ρ2 H2 v d)∧(i=ds.length→src.fin K H2 i):=by
 cases r with
 | non=>cases h
 | bl b=>cases h
 | int i=>cases h
 | ty n=>cases h
 | ref e=>cases h
 | str x =>
  cases h
  refine ⟨.str x,rfl,fun ρ2 H2 m i=>⟨fun d hd=>?_,fun e=>?_⟩⟩
  ·unfold chD at hd
   rw [List.getElem?_map] at hd
   obtain ⟨c,hc,rfl⟩:=Option.map_eq_some_iff.mp hd
   exact ⟨_,⟨c,by simpa using hc,rfl⟩,.str _⟩
  ·show x.cps.size=i
   rw [e];simp [chD]
 | tup s r =>
  cases h
  refine ⟨.tup _,⟨rfl,_,s⟩,fun ρ2 H2 m i=>⟨fun d hd=>?_,fun e=>?_⟩⟩
  ·obtain ⟨v,hv,rv⟩:=r.got hd
   exact ⟨v,⟨_,m.t _ _ s,hv⟩,rv.mn m⟩
  ·exact ⟨_,m.t _ _ s,by rw [r.length];exact e.symm⟩
theorem Xb1 {t:TA} {fa:DSt→Dm (List D)} (ha:SoA K t fa):SoI K (iZip K t) (iZipF fa):=by
 intro ρ σ H δ st S st' Q l rs e q
 obtain ⟨as,st1,e1,e⟩:=yac e
 split at e
 ·next a b =>
  split at e
  ·next ds es h1 h2 =>
   cases e
   refine ha ρ σ H δ st _ _ _ l rs e1 fun xs H1 ρ1 m1 l1 r1=>?_
   obtain ⟨x,y,rfl,rx,ry⟩:=r1.two'
   obtain ⟨s1,v1,g1⟩:=zs_of rx h1
   obtain ⟨s2,v2,g2⟩:=zs_of ry h2
   refine ⟨x,y,s1,s2,rfl,v1,v2,q _ H1 ρ1 m1 l1 fun ρ2 H2 st2 i m2 l2=>⟨fun h=>?_,fun d h=>?_⟩⟩
   ·obtain ⟨hl,hn⟩:=XaR h
    have has2:i < es.length→∃ y,s2.has K H2 i y:=fun hi=>by
     obtain ⟨v,hv,_⟩:=(g2 ρ2 H2 m2 i).1 es[i] (List.getElem?_eq_getElem hi)
     exact ⟨v,hv⟩
    rcases ybm hl hn with ⟨e1,e2⟩ | ⟨e1,e2⟩
    ·refine .inl ⟨(g1 ρ2 H2 m2 i).2 e1,?_⟩
     rcases Nat.lt_or_ge i es.length with hi | hi
     ·exact .inr (has2 hi)
     ·exact .inl ((g2 ρ2 H2 m2 i).2 (by omega))
    ·obtain ⟨v,hv,_⟩:=(g1 ρ2 H2 m2 i).1 ds[i] (List.getElem?_eq_getElem e1)
     exact .inr ⟨⟨v,hv⟩,(g2 ρ2 H2 m2 i).2 e2⟩
   ·obtain ⟨c,b,hc,hb,rfl⟩:=zbm (XaR h).2
    obtain ⟨v,hv,rv⟩:=(g1 ρ2 H2 m2 i).1 c hc
    obtain ⟨w,hw,rw'⟩:=(g2 ρ2 H2 m2 i).1 b hb
    refine ⟨⟨v,w,hv,hw⟩,fun z H3 hz=>?_⟩
    obtain ⟨p,v',w',rfl,hp,rfl,k1,k2⟩:=hz
    cases k1 _ hv
    cases k2 _ hw
    have m3:Mn K ρ2 H2 ρ2 (upd H2 p (.tup [v,w])):=Mn.same (Same.up hp)
    exact ⟨m3,l2.same (Same.up hp),.tup (SqT.of xao) (.cons (rv.mn m3) (.one (rw'.mn m3)))⟩
  ·cases e
 ·cases e
end
section
variable {st:Store}
theorem zb2 {δ:DSt} {fa:DSt→Dm (List D)} {R:Src→Store→Prop}:Wp (iZipF fa δ st) R↔Wp (fa δ st) fun as st1=>∃ a b ds es,as=[a,b]∧zsD a=some ds∧zsD b=some es∧R (.fix (zipD ds es)) st1:=by
 unfold iZipF;rw [yae]
 constructor <;> refine fun h=>Yab h fun as s h=>?_
 ·split at h
  ·next a b =>
   split at h
   ·next ds es h1 h2=>exact ⟨a,b,ds,es,rfl,h1,h2,zab.mp h⟩
   ·exact (yad.mp h).elim
  ·exact (yad.mp h).elim
 ·obtain ⟨a,b,ds,es,rfl,h1,h2,h⟩:=h
  simp only [h1,h2]
  exact zab.mpr h
end
section
variable {X:Cx} {K:PySem.W.Frag}
end
end L4
namespace L4
open PySem PySem.Spec L2
end L4
namespace L4
open PySem PySem.Spec L2
section
variable {K:PySem.W.Frag}
theorem zbC {ρ:List Addr} {H:Hp} {st:Store} (l:Rl K ρ H st) (n:Nat):∀ {vs:List V} {ds:List D} {ps:List PyData},Rps K ρ H vs ds→mapO (toP st n) ds=some ps→Reps K H vs ps
 | _,_,_,.nil,h=>by cases h;exact .nil
 | _,_,_,.cons a b,h=>by
  obtain ⟨x,t,h1,h2,rfl⟩:=xaE h
  exact .cons (xa9 l n a h1) (zbC l n b h2)
end
end L4
namespace L4
open PySem PySem.Spec L2
section
variable {K:PySem.W.Frag}
end
section
variable {st:Store}
end
end L4
namespace L4
open PySem PySem.Spec L2
section
variable {K:PySem.W.Frag}
end
section
variable {st:Store} {Q:D→Store→Prop}
end
end L4
namespace L4
open PySem PySem.Spec L2
section
variable {K:PySem.W.Frag}
end
end L4
namespace L4
open PySem PySem.Spec L2
section
variable {K:PySem.W.Frag}
end
end L4
namespace L4
open PySem PySem.Spec L2
section
variable {K:PySem.W.Frag}
end
end L4
namespace L4
open PySem PySem.Spec L2
section
variable {K:PySem.W.Frag}
end
section
variable {δ:DSt} {st:Store} {N B C:DSt→Store→Prop} {R:D→Store→Prop}
end
end L4
namespace L4
open PySem PySem.Spec L2
section
variable {K:PySem.W.Frag}
end
section
variable {δ:DSt} {st:Store} {N B C:DSt→Store→Prop} {R:D→Store→Prop}
end
end L4
namespace L4
open PySem PySem.Spec L2
noncomputable def minOk (ps:List PyData):Bool:=decide (0 < ps.length) && ps.all (fun a=>ps.all fun b=>okP a b) && ps.all fun a=>a.canLay0 && decide (a.depth≤50)
noncomputable def gMinD:List D→Dm D
 | [.ref r],st=>match own st r with
  | some ds=>match mapO (toP st 20) ds with
   | some ps=>if minOk ps=true then (match ds[minAt ps]? with | some d=>some (d,st) | none=>none) else none
   | none=>none
  | none=>none
 | _,_=>none
section
variable {K:PySem.W.Frag}
theorem ybC:SoC K (rMinD K) gMinD:=by
 intro ρ H st xs as b st' Q l rx e q
 unfold gMinD at e
 split at e
 ·next r st0 =>
  split at e
  ·next ds hd =>
   split at e
   ·next ps hp =>
    split at e
    ·next hok =>
     split at e
     ·next d hd0 =>
      cases e
      obtain ⟨v,rfl,r⟩:=rx.one'
      cases r with
      | ref hi =>
       obtain ⟨vs,hs,rr⟩:=l.items hi (zac (Zav hd))
       obtain ⟨v,hv,rv⟩:=rr.got hd0
       simp only [minOk,Bool.and_eq_true,decide_eq_true_eq,List.all_eq_true] at hok
       exact ⟨_,vs,ps,rfl,hs,zbC l 20 rr hp,hok.1.1,hok.1.2,hok.2,v,hv,q v H ρ .refl l rv⟩
     ·cases e
    ·cases e
   ·cases e
  ·cases e
 ·cases e
end
theorem yb2 {st:Store} {Q:D→Store→Prop} {r:Nat} {ds:List D} {ps:List PyData} (h:own st r=some ds) (hp:mapO (toP st 20) ds=some ps) (hok:minOk ps=true) {d:D} (hd:ds[minAt ps]?=some d):Wp (gMinD [.ref r] st) Q↔Q d st:=by
 have e:gMinD [.ref r] st=some (d,st):=by simp only [gMinD,h,hp,hok,hd,if_true]
 rw [e,zab]
noncomputable def tupI (xs:List Int):PyData:=.tuple (xs.map PyData.int)
noncomputable def floP (p:Mth.Flo):PyData:=.tuple [tupI p.1,tupI p.2]
theorem Ya4:∀ xs ys:List Int,ltPs (xs.map PyData.int) (ys.map PyData.int)=Mth.ltL xs ys
 | [],[]=>rfl
 | [],_ :: _=>rfl
 | _ :: _,[]=>rfl
 | x :: xs,y :: ys=>by
  show (if (x == y)=true then ltPs (xs.map PyData.int) (ys.map PyData.int) else decide (x < y))=if x=y then Mth.ltL xs ys else decide (x < y)
  rw [Ya4 xs ys]
  by_cases h:x=y
  ·rw [if_pos h,if_pos (by simp [h])]
  ·rw [if_neg h,if_neg (by simp [h])]
theorem Zbm (xs ys:List Int):PyData.eqv (tupI xs) (tupI ys)=decide (xs=ys):=XaM xs ys
theorem Zb2 (p q:Mth.Flo):ltP (floP p) (floP q)=Mth.ltF p q:=by
 show (if PyData.eqv (tupI p.1) (tupI q.1)=true then (if PyData.eqv (tupI p.2) (tupI q.2)=true then false else ltPs (p.2.map PyData.int) (q.2.map PyData.int)) else ltPs (p.1.map PyData.int) (q.1.map PyData.int))=if p.1=q.1 then Mth.ltL p.2 q.2 else Mth.ltL p.1 q.1
 rw [Zbm,Zbm,Ya4,Ya4]
 by_cases a:p.1=q.1
 ·rw [if_pos a,if_pos (decide_eq_true a)]
  by_cases b:p.2=q.2
  ·rw [if_pos (decide_eq_true b),b,Mth.Ya3]
  ·rw [if_neg (by simp [b])]
 ·rw [if_neg a,if_neg (by simp [a])]
theorem xa4:∀ xs ys:List Int,okPs (xs.map PyData.int) (ys.map PyData.int)=true
 | [],_=>rfl
 | _ :: _,[]=>rfl
 | x :: xs,y :: ys=>by show (true && okPs (xs.map PyData.int) (ys.map PyData.int))=true;rw [xa4 xs ys];rfl
theorem Yb2 (p q:Mth.Flo):okP (floP p) (floP q)=true:=by
 show (okPs (p.1.map PyData.int) (q.1.map PyData.int) && (okPs (p.2.map PyData.int) (q.2.map PyData.int) && true))=true
 rw [xa4,xa4];rfl
theorem xb2 (p:Mth.Flo):(floP p).canLay0=true∧(floP p).depth≤50:=by
 refine ⟨?_,?_⟩
 ·show (PyData.canLayAll0 (intsD p.1) && (PyData.canLayAll0 (intsD p.2) && true))=true
  rw [Yar,Yar];rfl
 ·show max (PyData.depthAll (intsD p.1) + 1) (max (PyData.depthAll (intsD p.2) + 1) 0) + 1≤50
  rw [zaA,zaA];decide
theorem Yba (l:List Mth.Flo):∀ k,k < l.length→l[argBest (fun i j=>Mth.ltF (l.getD i ([],[])) (l.getD j ([],[]))) k]?=some (Mth.minF (l.take (k + 1)))
 | 0,h=>by
  cases l with
  | nil=>simp at h
  | cons p l=>rfl
 | k + 1,h=>by
  have ih:=Yba l k (by omega)
  generalize hb:argBest (fun i j=>Mth.ltF (l.getD i ([],[])) (l.getD j ([],[]))) k=b at ih
  have e1:l.getD b ([],[])=Mth.minF (l.take (k + 1)):=by rw [List.getD_eq_getElem?_getD,ih];rfl
  have e2:Mth.minF (l.take (k + 1 + 1))=if Mth.ltF (l.getD (k + 1) ([],[])) (Mth.minF (l.take (k + 1))) then l.getD (k + 1) ([],[]) else Mth.minF (l.take (k + 1)):=by
   have et:l.take (k + 1 + 1)=l.take (k + 1) ++ [l.getD (k + 1) ([],[])]:=by
    rw [List.take_succ_eq_append_getElem h,List.getD_eq_getElem?_getD,List.getElem?_eq_getElem h];rfl
   rw [et]
   cases l with
   | nil=>simp at h
   | cons p l =>
    show ((l.take k ++ [_]).foldl _ p)=_
    rw [List.foldl_append]
    rfl
  show l[if (Mth.ltF (l.getD (k + 1) ([],[])) (l.getD (argBest _ k) ([],[])))=true then k + 1 else argBest _ k]?=_
  rw [hb,e1,e2]
  split
  ·rw [List.getD_eq_getElem?_getD,List.getElem?_eq_getElem h];rfl
  ·exact ih
theorem Xb2 (st:Store) (p:Mth.Flo):toP st 20 (flD p.1 p.2)=some (floP p):=by
 have h:∀ (m:Nat) (xs:List Int),mapO (toP st (m + 1)) (xs.map D.int)=some (xs.map PyData.int):=fun m xs=>by
  have:=yav (f:=toP st (m + 1)) (g:=D.int) (k:=PyData.int) (fun _=>rfl) xs
  exact this
 show (mapO (toP st 19) [D.tup (p.1.map D.int),D.tup (p.2.map D.int)]).map PyData.tuple=_
 have e1:toP st 19 (D.tup (p.1.map D.int))=some (tupI p.1):=by show (mapO (toP st 18) (p.1.map D.int)).map PyData.tuple=_;rw [h];rfl
 have e2:toP st 19 (D.tup (p.2.map D.int))=some (tupI p.2):=by show (mapO (toP st 18) (p.2.map D.int)).map PyData.tuple=_;rw [h];rfl
 simp only [mapO,e1,e2]
 rfl
theorem ZbC {st:Store} {Q:D→Store→Prop} {r:Nat} {l:List Mth.Flo} (h:own st r=some (l.map fun p=>flD p.1 p.2)) (hn:0 < l.length):Wp (gMinD [.ref r] st) Q↔Q (flD (Mth.minF l).1 (Mth.minF l).2) st:=by
 have hp:mapO (toP st 20) (l.map fun p=>flD p.1 p.2)=some (l.map floP):=yav (f:=toP st 20) (g:=fun p:Mth.Flo=>flD p.1 p.2) (k:=floP) (fun p=>Xb2 st p) l
 refine yb2 h hp ?_ ?_
 ·simp only [minOk,Bool.and_eq_true,decide_eq_true_eq,List.all_eq_true,List.length_map]
  refine ⟨⟨hn,fun a ha b hb=>?_⟩,fun a ha=>?_⟩
  ·obtain ⟨p,_,rfl⟩:=List.mem_map.mp ha
   obtain ⟨q,_,rfl⟩:=List.mem_map.mp hb
   exact Yb2 p q
  ·obtain ⟨p,_,rfl⟩:=List.mem_map.mp ha
   exact xb2 p
 ·have hb:=Yba l (l.length - 1) (by omega)
  rw [show l.length - 1 + 1=l.length by omega,List.take_length] at hb
  have e:∀ k,k < l.length→argBest (btP (l.map floP)) k=argBest (fun i j=>Mth.ltF (l.getD i ([],[])) (l.getD j ([],[]))) k∧argBest (fun i j=>Mth.ltF (l.getD i ([],[])) (l.getD j ([],[]))) k < l.length:=by
   intro k
   induction k with
   | zero=>intro hk;exact ⟨rfl,hk⟩
   | succ k ih =>
    intro hk
    obtain ⟨e1,e2⟩:=ih (by omega)
    have eb:btP (l.map floP) (k + 1) (argBest (btP (l.map floP)) k)=Mth.ltF (l.getD (k + 1) ([],[])) (l.getD (argBest (fun i j=>Mth.ltF (l.getD i ([],[])) (l.getD j ([],[]))) k) ([],[])):=by
     rw [e1]
     unfold btP
     rw [List.getD_eq_getElem?_getD,List.getD_eq_getElem?_getD,List.getElem?_map,List.getElem?_map,List.getElem?_eq_getElem hk,List.getElem?_eq_getElem e2,List.getD_eq_getElem?_getD,List.getD_eq_getElem?_getD,List.getElem?_eq_getElem hk,List.getElem?_eq_getElem e2]
     exact Zb2 _ _
    refine ⟨?_,?_⟩
    ·show (if btP (l.map floP) (k + 1) (argBest (btP (l.map floP)) k)=true then k + 1 else argBest (btP (l.map floP)) k)=if _=true then k + 1 else _
     rw [eb,e1]
    ·show (if _=true then k + 1 else _) < l.length
     split
     ·exact hk
     ·exact e2
  unfold minAt
  rw [List.length_map,(e (l.length - 1) (by omega)).1,List.getElem?_map,hb]
  rfl
end L4
namespace L4
open PySem PySem.Spec L2
section
variable {K:PySem.W.Frag}
end
end L4
namespace L4
open PySem PySem.Spec L2
section
variable {K:PySem.W.Frag}
noncomputable def fDSet2 (fd fy fv:DSt→Dm D):DSt→Dm D:=fun δ st=>bnd (fd δ st) fun x st1=>if (dctOf st1 x).isSome=true then bnd (fy δ st1) fun y st2=>bnd (fv δ st2) fun v st3=>match x,dctOf st3 x,keyOf y with
 | .ref i,some kvs,some k=>if lim kvs.length=true then (match valD kvs k with
  | some u=>some (u,st3)
  | none=>some (v,st3.set i (.dct (putD kvs k v)))) else none
 | _,_,_=>none else none
theorem XbL {td ty tv:TE} {fd fy fv:DSt→Dm D} (hd:SoE K td fd) (hy:SoE K ty fy) (hv:SoE K tv fv):SoE K (tDSet2 td ty tv) (fDSet2 fd fy fv):=by
 intro ρ σ H δ st b st' Q l rs e q
 obtain ⟨x,st1,e1,e⟩:=yac e
 split at e
 ·next hx1 =>
  obtain ⟨y,st2,e2,e⟩:=yac e
  obtain ⟨v,st3,e3,e⟩:=yac e
  refine hd ρ σ H δ st x st1 _ l rs e1 fun vx H1 ρ1 m1 l1 r1=>?_
  obtain ⟨kvs1,hk1⟩:=Option.isSome_iff_exists.mp hx1
  obtain ⟨p,i,ws,rfl,rfl,hi,hs,hp,rk⟩:=Ybk l1 r1 hk1
  refine ⟨p,rfl,.inl ⟨ws,.inl hp⟩,hy ρ1 σ H1 δ st1 y st2 _ l1 (rs.mn m1) e2 fun vy H2 ρ2 m2 l2 r2=>hv ρ2 σ H2 δ st2 v st3 _ l2 (rs.mn (m1.trans m2)) e3 fun vv H3 ρ3 m3 l3 r3=>?_⟩
  cases hx:dctOf st3 (.ref i) with
  | none=>rw [hx] at e;cases e
  | some kvs =>
  cases hk:keyOf y with
  | none=>rw [hx,hk] at e;cases e
  | some k =>
  rw [hx,hk] at e
  dsimp only at e
  split at e
  ·next hl =>
   obtain ⟨p',i',ws3,e4,e5,hi3,hs3,hp3,rk3⟩:=Ybk l3 (r1.mn (m2.trans m3)) hx
   cases e4;cases e5
   refine ⟨ws3,k,hp3,yaZ r2 hk,by rw [rk3.length];exact Zbw hl,fun u hu=>?_,fun hn=>?_⟩
   ·obtain ⟨a1,a2⟩:=rk3.val k
    rw [hu] at a2
    cases hd3:valD kvs k with
    | none=>rw [hd3] at a2;cases a2
    | some d =>
     rw [hd3] at e
     cases e
     obtain ⟨u',hu',ru⟩:=a1 _ hd3
     rw [hu] at hu'
     cases hu'
     exact q _ _ ρ3 ((m1.trans m2).trans m3) l3 ru
   ·obtain ⟨a1,a2⟩:=rk3.val k
    rw [hn] at a2
    cases hd3:valD kvs k with
    | some d=>rw [hd3] at a2;cases a2
    | none =>
     rw [hd3] at e
     cases e
     obtain ⟨l4,m4⟩:=l3.putDct hi3 hs3 (rk3.put k r3)
     exact q _ _ ρ3 (((m1.trans m2).trans m3).trans m4) l4 (r3.mn m4)
  ·cases e
 ·cases e
end
section
variable {st:Store} {Q:D→Store→Prop} {i:Nat}
theorem YbC {α:Type} {m:Option (α×Store)} {R R':α→Store→Prop} (h:∀ a s,R a s↔R' a s):Wp m R↔Wp m R':=by
 have e:R=R':=funext fun a=>funext fun s=>propext (h a s)
 rw [e]
theorem zbM {fd fy fv:DSt→Dm D} {δ:DSt}:Wp (fDSet2 fd fy fv δ st) Q↔Wp (fd δ st) fun x st1=>(dctOf st1 x).isSome=true∧Wp (fy δ st1) fun y st2=>Wp (fv δ st2) fun v st3=>∃ j kvs k,x=.ref j∧dctOf st3 x=some kvs∧keyOf y=some k∧lim kvs.length=true∧(∀ u,valD kvs k=some u→Q u st3)∧(valD kvs k=none→Q v (st3.set j (.dct (putD kvs k v)))):=by
 unfold fDSet2
 rw [yae]
 refine YbC fun x st1=>?_
 rw [zan]
 split
 ·next h =>
  rw [yae]
  refine ⟨fun q=>⟨h,(YbC fun y st2=>?_).mp q⟩,fun q=>(YbC fun y st2=>?_).mpr q.2⟩
  all_goals
   rw [yae]
   refine YbC fun v st3=>?_
   constructor
   ·intro q
    cases x with
    | ref j =>
     cases hx:dctOf st3 (.ref j) with
     | none=>rw [hx] at q;exact False.elim (yad.mp q)
     | some kvs =>
     cases hk:keyOf y with
     | none=>rw [hx,hk] at q;exact False.elim (yad.mp q)
     | some k =>
     rw [hx,hk] at q
     dsimp only at q
     rw [zan] at q
     split at q
     ·next hl =>
      refine ⟨j,kvs,k,rfl,rfl,rfl,hl,fun u hu=>?_,fun hn=>?_⟩
      ·rw [hu] at q;exact zab.mp q
      ·rw [hn] at q;exact zab.mp q
     ·exact False.elim (yad.mp q)
    | _=>exact False.elim (yad.mp q)
   ·rintro ⟨j,kvs,k,rfl,hx,hk,hl,q1,q2⟩
    rw [hx,hk]
    dsimp only
    rw [if_pos hl]
    cases hv:valD kvs k with
    | none=>exact zab.mpr (q2 hv)
    | some u=>exact zab.mpr (q1 u hv)
 ·next h=>rw [yad];exact ⟨False.elim,fun q=>h q.1⟩
end
end L4
namespace L4
open PySem PySem.Spec L2
section
variable {K:PySem.W.Frag}
noncomputable def fAlt (f f':DSt→Dm D):DSt→Dm D:=fun δ st=>match f δ st with
 | some r=>some r
 | none=>f' δ st
theorem so_alt {t t':TE} {f f':DSt→Dm D} (h:SoE K t f) (h':SoE K t' f'):SoE K (tAlt t t') (fAlt f f'):=by
 intro ρ σ H δ st b st' Q l rs e q
 unfold fAlt at e
 split at e
 ·next r hr=>exact .inl (h ρ σ H δ st b st' Q l rs (hr.trans e) q)
 ·exact .inr (h' ρ σ H δ st b st' Q l rs e q)
noncomputable def gIxA:D→D→Dm D:=fun a b st=>match gIxT a b st with
 | some r=>some r
 | none=>gIxL a b st
theorem so_ixA:So2 K (fun x y H Q=>rIxT K x y H Q∨rIxL K x y H Q) gIxA:=by
 intro ρ H st x y a c b st' Q l rx ry e q
 unfold gIxA at e
 split at e
 ·next r hr=>exact .inl (yaj ρ H st x y a c b st' Q l rx ry (hr.trans e) q)
 ·exact .inr (Xas ρ H st x y a c b st' Q l rx ry e q)
noncomputable def fSortV (fd:DSt→Dm D):DSt→Dm D:=fun δ st=>bnd (fd δ st) fun x st1=>match dctOf st1 x with
 | some kvs=>match mapO iV (kvs.map (·.2)) with
  | some ns=>if ns.length < 64 then some (.ref st1.length,st1 ++ [.lst ((sortI ns).map D.int)]) else none
  | none=>none
 | none=>none
theorem Rk.vals {ρ:List Addr} {H:Hp} {ws:List (Key×V)} {kvs:List (Key×D)} (r:Rk K ρ H ws kvs):Rps K ρ H (ws.map (·.2)) (kvs.map (·.2)):=by
 induction r with
 | nil=>exact .nil
 | cons h _ ih=>exact .cons h.2 ih
theorem ybM {td:TE} {fd:DSt→Dm D} (hd:SoE K td fd):SoE K (tSortV td) (fSortV fd):=by
 intro ρ σ H δ st b st' Q l rs e q
 obtain ⟨x,st1,e1,e⟩:=yac e
 refine hd ρ σ H δ st x st1 _ l rs e1 fun vx H1 ρ1 m1 l1 r1=>?_
 split at e
 ·next kvs hx =>
  split at e
  ·next ns hns =>
   split at e
   ·next h64 =>
    cases e
    obtain ⟨p,i,ws,rfl,rfl,hi,hs,hp,rk⟩:=Ybk l1 r1 hx
    exact ⟨p,ws,ns,rfl,hp,Zbk rk.vals hns,h64,fun p' ms hp' pm sm=>by rw [Xa9 pm sm];exact q _ _ _ (m1.trans (Mn.new hp')) (l1.newL hp' (Rps.ints _)) (.ref (newR l1))⟩
   ·cases e
  ·cases e
 ·cases e
end
section
variable {st:Store} {Q:D→Store→Prop} {δ:DSt}
theorem ZbM {fd:DSt→Dm D}:Wp (fSortV fd δ st) Q↔Wp (fd δ st) fun x st1=>∃ kvs ns,dctOf st1 x=some kvs∧mapO iV (kvs.map (·.2))=some ns∧ns.length < 64∧Q (.ref st1.length) (st1 ++ [.lst ((sortI ns).map D.int)]):=by
 unfold fSortV
 rw [yae]
 refine YbC fun x st1=>?_
 cases hx:dctOf st1 x with
 | none=>rw [yad];exact ⟨False.elim,fun ⟨_,_,e,_⟩=>by cases e⟩
 | some kvs =>
  dsimp only
  cases hn:mapO iV (kvs.map (·.2)) with
  | none=>rw [yad];exact ⟨False.elim,fun ⟨_,_,e,e2,_⟩=>by cases e;rw [hn] at e2;cases e2⟩
  | some ns =>
   dsimp only
   rw [zan,zab,yad]
   split
   ·next h=>exact ⟨fun q=>⟨_,_,rfl,hn,h,q⟩,fun ⟨_,_,e,e2,_,q⟩=>by cases e;rw [hn] at e2;cases e2;exact q⟩
   ·next h=>exact ⟨False.elim,fun ⟨_,_,e,e2,q,_⟩=>by cases e;rw [hn] at e2;cases e2;exact h q⟩
theorem ixA_T {ds:List D} {b:D}:gIxA (.tup ds) b st=gIxT (.tup ds) b st:=by
 unfold gIxA
 cases h:gIxT (.tup ds) b st with
 | some r=>rfl
 | none=>rfl
theorem ixA_R {k:Nat} {b:D}:gIxA (.ref k) b st=gIxL (.ref k) b st:=rfl
theorem zb3 {ds:List D} {b:D}:Wp (gIxA (.tup ds) b st) Q↔Wp (gIxT (.tup ds) b st) Q:=by rw [ixA_T]
theorem yb3 {k:Nat} {b:D}:Wp (gIxA (.ref k) b st) Q↔Wp (gIxL (.ref k) b st) Q:=by rw [ixA_R]
noncomputable def fIndexA (i:Nat) (fa:DSt→Dm (List D)):DSt→Dm D:=fAlt (fBM "tuple" gIndex (fVar i) fa) (fBM "list" gIndexL (fVar i) fa)
theorem xbC {i:Nat} {fa:DSt→Dm (List D)}:Wp (fIndexA i fa δ st) Q↔∃ d,δ[i]?=some (some d)∧((∃ ds,d=.tup ds∧Wp (fa δ st) fun as st2=>Wp (gIndex d as st2) Q)∨∃ k,d=.ref k∧(items st k).isSome=true∧Wp (fa δ st) fun as st2=>Wp (gIndexL d as st2) Q):=by
 have e1:fBM "tuple" gIndex (fVar i) fa δ st=match δ[i]? with | some (some d)=>(if tyD "tuple" st d=true then bnd (fa δ st) fun as st2=>gIndex d as st2 else none) | _=>none:=by
  unfold fBM fVar
  cases δ[i]? with
  | none=>rfl
  | some od=>cases od <;> rfl
 have e2:fBM "list" gIndexL (fVar i) fa δ st=match δ[i]? with | some (some d)=>(if tyD "list" st d=true then bnd (fa δ st) fun as st2=>gIndexL d as st2 else none) | _=>none:=by
  unfold fBM fVar
  cases δ[i]? with
  | none=>rfl
  | some od=>cases od <;> rfl
 unfold fIndexA fAlt
 rw [e1,e2]
 cases hδ:δ[i]? with
 | none=>exact ⟨fun h=>(yad.mp h).elim,fun ⟨_,e,_⟩=>by cases e⟩
 | some od =>
  cases od with
  | none=>exact ⟨fun h=>(yad.mp h).elim,fun ⟨_,e,_⟩=>by cases e⟩
  | some d =>
   dsimp only
   cases d with
   | tup ds =>
    have t1:tyD "tuple" st (.tup ds)=true:=rfl
    have t2:¬ tyD "list" st (.tup ds)=true:=fun z=>by simp [tyD] at z
    rw [if_pos t1,if_neg t2]
    constructor
    ·intro h
     refine ⟨_,rfl,.inl ⟨_,rfl,?_⟩⟩
     rw [← yae]
     split at h
     ·next r hr=>rw [hr];exact h
     ·exact (yad.mp h).elim
    ·rintro ⟨_,e,h | ⟨k,h,_⟩⟩
     ·cases e
      obtain ⟨_,_,h⟩:=h
      rw [← yae] at h
      obtain ⟨a,s',ha,q⟩:=h
      rw [ha]
      exact ⟨a,s',rfl,q⟩
     ·cases e;cases h
   | ref k =>
    have t1:¬ tyD "tuple" st (.ref k)=true:=fun z=>by simp [tyD] at z
    have t2:tyD "list" st (.ref k)=(items st k).isSome:=by simp [tyD]
    rw [if_neg t1,t2,zan,yad]
    constructor
    ·intro h
     split at h
     ·next hs =>
      rw [yae] at h
      exact ⟨_,rfl,.inr ⟨k,rfl,hs,h⟩⟩
     ·exact h.elim
    ·rintro ⟨_,e,⟨_,h,_⟩ | ⟨k',h,hs,w⟩⟩
     ·cases e;cases h
     ·cases e
      cases h
      rw [if_pos hs,yae]
      exact w
   | _ =>
    constructor
    ·intro h
     exact (yad.mp h).elim
    ·rintro ⟨_,e,⟨_,h,_⟩ | ⟨_,h,_⟩⟩ <;> (cases e;cases h)
end
end L4
namespace My
open PySem L2 L4
noncomputable def top (i:Nat):Stmt:=PySem.Challenge.pw_shearfloor_k12_forms.main.body.getD i (.Pass ⟨0,0,0,0⟩)
structure Txt (mg:Str→Option Value):Prop where
 n_all:mg "all" = none
 n_enumerate:mg "enumerate" = none
 n_len:mg "len" = none
 n_list:mg "list" = none
 n_max:mg "max" = none
 n_min:mg "min" = none
 n_range:mg "range" = none
 n_repr:mg "repr" = none
 n_sorted:mg "sorted" = none
 n_tuple:mg "tuple" = none
 n_zip:mg "zip" = none
section
variable {P:Program} {w:World} {K:PySem.W.Frag} {mg:Str→Option Value} {base:Heap}
noncomputable def XaG:DSt→Dm Fl :=
 (fSeq (fAsg (fOp gAdd (fOp gMul (fC (.int 7901)) (fVar 1)) (fC (.int 24697))) (hName 2))
 (fSeq (fIf (fTest (fOp gLt (fVar 1) (fCB gLen (fCons (fVar 0) fNil)))) (fAsg (fOp gIxL (fVar 0) (fVar 1)) (hName 2)) (fIf (fTest (fOp gGt (fCB gLen (fCons (fVar 0) fNil)) (fC (.int 0)))) (fAsg (fOp gAdd (fOp gMul (fOp gMod (fOp gIxL (fVar 0) (fOp gMod (fVar 1) (fCB gLen (fCons (fVar 0) fNil)))) (fC (.int 2147483629))) (fC (.int 31))) (fOp gMul (fC (.int 7901)) (fVar 1))) (hName 2)) fNext))
 (fSeq (fAsg (fC (.int 0)) (hName 3))
 (fSeq (fIf (fTest (fOp gGe (fVar 2) (fOp gPow (fC (.int 10)) (fC (.int 18))))) (fAsg (fVar 2) (hName 3)) fNext)
 (fRet (fLst (fCons (fVar 3) (fCons (fOp gAdd (fOp gMod (fOp gPow (fOp gAdd (fOp gMul (fOp gMod (fVar 2) (fC (.int 2147483629))) (fC (.int 48271))) (fOp gMul (fC (.int 40692)) (fVar 1))) (fC (.int 5))) (fC (.int 2147483629))) (fC (.int 1))) fNil))))))))
noncomputable def XaA:List D→Dm D:=fnF 4 XaG
noncomputable def zaB:Stmt:=top 11
theorem xar:FnScope ["_law_script","_law_k","_law_cell","_law_own"] ["_law_script","_law_k"] (defScope zaB):=⟨rfl,rfl,rfl,by decide +kernel,rfl,by decide +kernel,by decide +kernel⟩
theorem xba {f:Addr} {fd:FuncData} (D:Def K mg "_law_feed" zaB ["_law_script","_law_k"] f fd) (T:Txt mg)  :FnOk P w K mg base CX0 1 f fd ["_law_script","_law_k"] (spF K 2 XaA):=by
 refine D.F.ok xar (fun vs H Q E h=>h.1) (fun cdv A outer s H vs Q E hr h=>?_)
 have hu:=hr.units
 have hu1:=zaC hr
 refine ⟨_,(@Xab _ _ _ _ _ (@Zag (i:=2) _ _ _ _ _ _ xar.nd rfl (by first | exact Or.inl rfl | exact Or.inr rfl) (Yah Zay (Yah zaR Zac (pv 1)) Zac) (by rfl) (by first | exact .inl rfl | exact .inr rfl | assumption))
  (@Xab _ _ _ _ _ (@yaI _ _ _ _ _ _ _ _ (zah zbF (pv 1) (Xaf xad (by rfl) T.n_len Yap (@zaa _ _ _ _ _ (pv 0) Yaa (by rfl))) (nomark _)) (@zad _ _ _ (@Zag (i:=2) _ _ _ _ _ _ xar.nd rfl (by first | exact Or.inl rfl | exact Or.inr rfl) (@xah _ _ _ _ _ _ _ xak (pv 0) (pv 1) (fun _ _=>rfl)) (by rfl) (by first | exact .inl rfl | exact .inr rfl | assumption))) (@zad _ _ _ (@yaI _ _ _ _ _ _ _ _ (zah op_gt (Xaf xad (by rfl) T.n_len Yap (@zaa _ _ _ _ _ (pv 0) Yaa (by rfl))) Zac (nomark _)) (@zad _ _ _ (@Zag (i:=2) _ _ _ _ _ _ xar.nd rfl (by first | exact Or.inl rfl | exact Or.inr rfl) (Yah Zay (Yah zaR (Yah ZaL (@xah _ _ _ _ _ _ _ xak (pv 0) (Yah ZaL (pv 1) (Xaf xad (by rfl) T.n_len Yap (@zaa _ _ _ _ _ (pv 0) Yaa (by rfl)))) (fun _ _=>rfl)) Zac) Zac) (Yah zaR Zac (pv 1))) (by rfl) (by first | exact .inl rfl | exact .inr rfl | assumption))) zaq)))
  (@Xab _ _ _ _ _ (@Zag (i:=3) _ _ _ _ _ _ xar.nd rfl (by first | exact Or.inl rfl | exact Or.inr rfl) Zac (by rfl) (by first | exact .inl rfl | exact .inr rfl | assumption))
  (@Xab _ _ _ _ _ (@yaI _ _ _ _ _ _ _ _ (zah op_ge (pv 2) (Yah xbN Zac Zac) (nomark _)) (@zad _ _ _ (@Zag (i:=3) _ _ _ _ _ _ xar.nd rfl (by first | exact Or.inl rfl | exact Or.inr rfl) (pv 2) (by rfl) (by first | exact .inl rfl | exact .inr rfl | assumption))) zaq)
  (@zad _ _ _ (Zaj (@Yaw _ _ _ _ (@zaa _ _ _ _ _ (pv 3) (@zaa _ _ _ _ _ (Yah Zay (Yah ZaL (Yah xbN (Yah Zay (Yah zaR (Yah ZaL (pv 2) Zac) Zac) (Yah zaR Zac (pv 1))) Zac) Zac) Zac) Yaa (by rfl)) (by rfl))))))))),?_⟩
 exact yaC (b:=XaG) (zae (zaf (xac Yay (xac YaR (Yac _) (Zaa 1)) (Yac _)) (Zab 2))
  (zae (xau (yah (xac ybJ (Zaa 1) (zag Xap (yaa (Zaa 0) xaa)))) (zaf (xac Xas (Zaa 0) (Zaa 1)) (Zab 2)) (xau (yah (xac so_gt (zag Xap (yaa (Zaa 0) xaa)) (Yac _))) (zaf (xac Yay (xac YaR (xac xaL (xac Xas (Zaa 0) (xac xaL (Zaa 1) (zag Xap (yaa (Zaa 0) xaa)))) (Yac _)) (Yac _)) (xac YaR (Yac _) (Zaa 1))) (Zab 2)) yaq))
  (zae (zaf (Yac _) (Zab 3))
  (zae (xau (yah (xac so_ge (Zaa 2) (xac ZbP (Yac _) (Yac _)))) (zaf (Zaa 2) (Zab 3)) yaq)
  (Yaj (zax (yaa (Zaa 3) (yaa (xac Yay (xac xaL (xac ZbP (xac Yay (xac YaR (xac xaL (Zaa 2) (Yac _)) (Yac _)) (xac YaR (Yac _) (Zaa 1))) (Yac _)) (Yac _)) (Yac _)) xaa)))))))) rfl h
noncomputable def yaz:DSt→Dm Fl :=
 (fSeq (fIf (fTest (fOp gLt (fVar 2) (fC (.int 0)))) (fSeq (fAsg (fCB gTuple (fCons (fComp (iRng1F (fCons (fCB gLen (fCons (fVar 0) fNil)) fNil)) 1 [0] (hName 0) fTrue (fBM "tuple" gIndex (fVar 1) (fCons (fVar 0) fNil))) fNil)) (hName 0))
 (fAsg (fOp gSub (fC (.int 0)) (fVar 2)) (hName 2))) fNext)
 (fSeq (fAsg (fLst (fCons (fVar 1) fNil)) (hName 3))
 (fSeq (fWhile (fTest (fOp (gEq true) (fOp gIxT (fVar 0) (fOp gIxL (fVar 3) (fUn gNeg (fC (.int 1))))) (fVar 1))) (fDrop (fBM "list" gAppend (fVar 3) (fCons (fOp gIxT (fVar 0) (fOp gIxL (fVar 3) (fUn gNeg (fC (.int 1))))) fNil))))
 (fRet (fOp gIxL (fVar 3) (fOp gMod (fVar 2) (fCB gLen (fCons (fVar 3) fNil))))))))
noncomputable def Yat:List D→Dm D:=fnF 4 yaz
noncomputable def xat:Stmt:=top 17
theorem xav:FnScope ["_law_turning_here","_law_s","_law_k","_law_ring"] ["_law_turning_here","_law_s","_law_k"] (defScope xat):=⟨rfl,rfl,rfl,by decide +kernel,rfl,by decide +kernel,by decide +kernel⟩
theorem zaY {f:Addr} {fd:FuncData} (D:Def K mg "_law_behind" xat ["_law_turning_here","_law_s","_law_k"] f fd) (T:Txt mg)  :FnOk P w K mg base CX0 1 f fd ["_law_turning_here","_law_s","_law_k"] (spF K 3 Yat):=by
 refine D.F.ok xav (fun vs H Q E h=>h.1) (fun cdv A outer s H vs Q E hr h=>?_)
 have hu:=hr.units
 have hu1:=zaC hr
 refine ⟨_,(@Xab _ _ _ _ _ (@yaI _ _ _ _ _ _ _ _ (zah zbF (pv 2) Zac (nomark _)) (@Xab _ _ _ _ _ (@Zag (i:=0) _ _ _ _ _ _ xav.nd rfl (by first | exact Or.inl rfl | exact Or.inr rfl) (Xac Zaf (by rfl) T.n_tuple Xak (@zaa _ _ _ _ _ (zay (own:=["_law_one"]) (fr:=["_law_turning_here"]) (js:=[0]) rfl ⟨⟨rfl,by decide +kernel,by decide +kernel,by dsimp only [cxOf,cxComp,Cx.nox,Cx.wish,PyProof.Rows.envOfC,compEnvC,relabel,Env.kindOf];decide +kernel,by decide +kernel⟩,rfl⟩ (Zai rfl T.n_range (@zaa _ _ _ _ _ (Xaf xad (by rfl) T.n_len Yap (@zaa _ _ _ _ _ (pv 0) Yaa (by rfl))) Yaa (by rfl))) (fun _ _ _ _ _=>(xaf (i:=0) (show ((["_law_one"]:List Str) ++ (["_law_turning_here"]:List Str)).Nodup by decide +kernel) rfl (by first | exact Or.inl rfl | exact Or.inr rfl))) (fun _ _ _ _ _=>XaH) (fun _ _ _ _ _=>(Ya8 (K:=K) rfl PySem.F.plainAttrs_tuple PySem.F.slot_tuple_index PySem.F.type_tuple_index (xaU (K:=K) rfl) (pv 1) (@zaa _ _ _ _ _ (pv 0) Yaa (by rfl))))) Yaa (by rfl))) (by rfl) (by first | exact .inl rfl | exact .inr rfl | assumption))
  (@zad _ _ _ (@Zag (i:=2) _ _ _ _ _ _ xav.nd rfl (by first | exact Or.inl rfl | exact Or.inr rfl) (Yah Zbr Zac (pv 2)) (by rfl) (by first | exact .inl rfl | exact .inr rfl | assumption)))) zaq)
  (@Xab _ _ _ _ _ (@Zag (i:=3) _ _ _ _ _ _ xav.nd rfl (by first | exact Or.inl rfl | exact Or.inr rfl) (@Yaw _ _ _ _ (@zaa _ _ _ _ _ (pv 1) Yaa (by rfl))) (by rfl) (by first | exact .inl rfl | exact .inr rfl | assumption))
  (@Xab _ _ _ _ _ (XaS PassesOwn.never (zah XbR (@xah _ _ _ _ _ _ _ Yam (pv 0) (@xah _ _ _ _ _ _ _ xak (pv 3) (pe_un XbN Zac) (fun _ _=>rfl)) (fun _ _=>rfl)) (pv 1) (nomark _)) (@zad _ _ _ (xaF (xaX PySem.F.plainAttrs_list PySem.F.slot_list_append PySem.F.type_list_append xaw (pv 3) (@zaa _ _ _ _ _ (@xah _ _ _ _ _ _ _ Yam (pv 0) (@xah _ _ _ _ _ _ _ xak (pv 3) (pe_un XbN Zac) (fun _ _=>rfl)) (fun _ _=>rfl)) Yaa (by rfl))))))
  (@zad _ _ _ (Zaj (@xah _ _ _ _ _ _ _ xak (pv 3) (Yah ZaL (pv 2) (Xaf xad (by rfl) T.n_len Yap (@zaa _ _ _ _ _ (pv 3) Yaa (by rfl)))) (fun _ _=>rfl))))))),?_⟩
 exact yaC (b:=yaz) (zae (xau (yah (xac ybJ (Zaa 2) (Yac _))) (zae (zaf (zag zal (yaa (yat (Zam (yaa (zag Xap (yaa (Zaa 0) xaa)) xaa)) (Zab 0) yay (zaO za4 (Zaa 1) (yaa (Zaa 0) xaa))) xaa)) (Zab 0))
  (zaf (xac xbw (Yac _) (Zaa 2)) (Zab 2))) yaq)
  (zae (zaf (zax (yaa (Zaa 1) xaa)) (Zab 3))
  (zae (yaT (yah (xac xbW (xac yaj (Zaa 0) (xac Xas (Zaa 3) (so_un YbP (Yac _)))) (Zaa 1))) (YaG (zaO yax (Zaa 3) (yaa (xac yaj (Zaa 0) (xac Xas (Zaa 3) (so_un YbP (Yac _)))) xaa))))
  (Yaj (xac Xas (Zaa 3) (xac xaL (Zaa 2) (zag Xap (yaa (Zaa 3) xaa)))))))) rfl h
noncomputable def xal:DSt→Dm Fl :=
 (fSeq (fAsg (fVar 0) (hTup 2 (hCons (hName 2) (hCons (hName 3) hNil))))
 (fSeq (fIf (fTest (fOp (gEq false) (fOp gIxT (fVar 1) (fC (.int 0))) (fC (.str "s")))) (fRet (fTup (fCons (fVar 2) (fCons (fCB gTuple (fCons (fComp (iRng1F (fCons (fCB gLen (fCons (fVar 3) fNil)) fNil)) 1 [1,2,3] (hName 0) fTrue (fOp gIxT (fVar 3) (fCB Yat (fCons (fVar 2) (fCons (fVar 0) (fCons (fOp gSub (fC (.int 0)) (fOp gIxT (fVar 1) (fC (.int 1)))) fNil)))))) fNil)) fNil)))) fNext)
 (fSeq (fFor (iRng1F (fCons (fOp gMod (fOp gIxT (fVar 1) (fC (.int 1))) (fC (.int 4))) fNil)) (hName 4) (fAsg (fTup (fCons (fCB gTuple (fCons (fComp (iRng1F (fCons (fCB gLen (fCons (fVar 3) fNil)) fNil)) 1 [3] (hName 0) fTrue (fBM "tuple" gIndex (fVar 1) (fCons (fVar 0) fNil))) fNil)) (fCons (fVar 2) fNil))) (hTup 2 (hCons (hName 2) (hCons (hName 3) hNil)))))
 (fRet (fTup (fCons (fVar 2) (fCons (fVar 3) fNil)))))))
noncomputable def zaj:List D→Dm D:=fnF 5 xal
noncomputable def xaq:Stmt:=top 18
theorem Xaj:FnScope ["_law_floor_here","_law_step","_law_right_here","_law_up","_law_turn"] ["_law_floor_here","_law_step"] (defScope xaq):=⟨rfl,rfl,rfl,by decide +kernel,rfl,by decide +kernel,by decide +kernel⟩
theorem zaX {f:Addr} {fd:FuncData} (D:Def K mg "_law_stepped" xaq ["_law_floor_here","_law_step"] f fd) (T:Txt mg)  {f_law_behind:Addr} {d_law_behind:FuncData} (D_law_behind:Def K mg "_law_behind" xat ["_law_turning_here","_law_s","_law_k"] f_law_behind d_law_behind) (G_law_behind:FnOk P w K mg base CX0 1 f_law_behind d_law_behind ["_law_turning_here","_law_s","_law_k"] (spF K 3 Yat)):FnOk P w K mg base CX0 2 f fd ["_law_floor_here","_law_step"] (spF K 2 zaj):=by
 refine D.F.ok Xaj (fun vs H Q E h=>h.1) (fun cdv A outer s H vs Q E hr h=>?_)
 have hu:=hr.units
 have hu1:=zaC hr
 refine ⟨_,(@Xab _ _ _ _ _ (zaZ (pv 0) (XaY (n:=2) rfl (Xao (xaf (i:=2) Xaj.nd rfl (by first | exact Or.inl rfl | exact Or.inr rfl)) (Xao (xaf (i:=3) Xaj.nd rfl (by first | exact Or.inl rfl | exact Or.inr rfl)) XaO))))
  (@Xab _ _ _ _ _ (@yaI _ _ _ _ _ _ _ _ (zah ybd (@xah _ _ _ _ _ _ _ Yam (pv 1) Zac (fun _ _=>rfl)) xbq (nomark _)) (@zad _ _ _ (Zaj (zaE (@zaa _ _ _ _ _ (pv 2) (@zaa _ _ _ _ _ (Xac Zaf (by rfl) T.n_tuple Xak (@zaa _ _ _ _ _ (zay (own:=["_law_s"]) (fr:=["_law_step","_law_right_here","_law_up"]) (js:=[1,2,3]) rfl ⟨⟨rfl,by decide +kernel,by decide +kernel,by dsimp only [cxOf,cxComp,Cx.nox,Cx.wish,PyProof.Rows.envOfC,compEnvC,relabel,Env.kindOf];decide +kernel,by decide +kernel⟩,rfl⟩ (Zai rfl T.n_range (@zaa _ _ _ _ _ (Xaf xad (by rfl) T.n_len Yap (@zaa _ _ _ _ _ (pv 3) Yaa (by rfl))) Yaa (by rfl))) (fun _ _ _ _ _=>(xaf (i:=0) (show ((["_law_s"]:List Str) ++ (["_law_step","_law_right_here","_law_up"]:List Str)).Nodup by decide +kernel) rfl (by first | exact Or.inl rfl | exact Or.inr rfl))) (fun _ _ _ _ _=>XaH) (fun _ _ _ _ _=>(@xah _ _ _ _ _ _ _ (YaP (K:=K) rfl) (pv 3) (Zae G_law_behind (hr.mono (by decide)) rfl D_law_behind.m D_law_behind.F.kp D_law_behind.b .nil pass0 (@zaa _ _ _ _ _ (pv 2) (@zaa _ _ _ _ _ (pv 0) (@zaa _ _ _ _ _ (Yah Zbr Zac (@xah _ _ _ _ _ _ _ (YaP (K:=K) rfl) (pv 1) Zac (fun _ _=>rfl))) Yaa (by rfl)) (by rfl)) (by rfl))) (fun _ _=>rfl)))) Yaa (by rfl))) Yaa (by rfl)) (by rfl))))) zaq)
  (@Xab _ _ _ _ _ (@ZaC _ _ _ _ _ _ _ _ PassesOwn.never rfl (Zai rfl T.n_range (@zaa _ _ _ _ _ (Yah ZaL (@xah _ _ _ _ _ _ _ Yam (pv 1) Zac (fun _ _=>rfl)) Zac) Yaa (by rfl))) (xaf (i:=4) Xaj.nd rfl (by first | exact Or.inl rfl | exact Or.inr rfl)) (@zad _ _ _ (zaZ (zaE (@zaa _ _ _ _ _ (Xac Zaf (by rfl) T.n_tuple Xak (@zaa _ _ _ _ _ (zay (own:=["_law_s"]) (fr:=["_law_up"]) (js:=[3]) rfl ⟨⟨rfl,by decide +kernel,by decide +kernel,by dsimp only [cxOf,cxComp,Cx.nox,Cx.wish,PyProof.Rows.envOfC,compEnvC,relabel,Env.kindOf];decide +kernel,by decide +kernel⟩,rfl⟩ (Zai rfl T.n_range (@zaa _ _ _ _ _ (Xaf xad (by rfl) T.n_len Yap (@zaa _ _ _ _ _ (pv 3) Yaa (by rfl))) Yaa (by rfl))) (fun _ _ _ _ _=>(xaf (i:=0) (show ((["_law_s"]:List Str) ++ (["_law_up"]:List Str)).Nodup by decide +kernel) rfl (by first | exact Or.inl rfl | exact Or.inr rfl))) (fun _ _ _ _ _=>XaH) (fun _ _ _ _ _=>(Ya8 (K:=K) rfl PySem.F.plainAttrs_tuple PySem.F.slot_tuple_index PySem.F.type_tuple_index (xaU (K:=K) rfl) (pv 1) (@zaa _ _ _ _ _ (pv 0) Yaa (by rfl))))) Yaa (by rfl))) (@zaa _ _ _ _ _ (pv 2) Yaa (by rfl)) (by rfl))) (XaY (n:=2) rfl (Xao (xaf (i:=2) Xaj.nd rfl (by first | exact Or.inl rfl | exact Or.inr rfl)) (Xao (xaf (i:=3) Xaj.nd rfl (by first | exact Or.inl rfl | exact Or.inr rfl)) XaO))))) (by intro _;rfl))
  (@zad _ _ _ (Zaj (zaE (@zaa _ _ _ _ _ (pv 2) (@zaa _ _ _ _ _ (pv 3) Yaa (by rfl)) (by rfl)))))))),?_⟩
 exact yaC (b:=xal) (zae (zaf (Zaa 0) (ZaQ (zap (Zab 2) (zap (Zab 3) yaQ))))
  (zae (xau (yah (xac Zbf (xac yaj (Zaa 1) (Yac _)) (ybw _))) (Yaj (YaE (yaa (Zaa 2) (yaa (zag zal (yaa (yat (Zam (yaa (zag Xap (yaa (Zaa 3) xaa)) xaa)) (Zab 0) yay (xac yaj (Zaa 3) (Yae (F:=Yat) (yaa (Zaa 2) (yaa (Zaa 0) (yaa (xac xbw (Yac _) (xac yaj (Zaa 1) (Yac _))) xaa))) (yab (yab (yab (fun _ _ _ _ h=>xae h))))))) xaa)) xaa)))) yaq)
  (zae (XaC (Zam (yaa (xac xaL (xac yaj (Zaa 1) (Yac _)) (Yac _)) xaa)) (Zab 4) (zaf (YaE (yaa (zag zal (yaa (yat (Zam (yaa (zag Xap (yaa (Zaa 3) xaa)) xaa)) (Zab 0) yay (zaO za4 (Zaa 1) (yaa (Zaa 0) xaa))) xaa)) (yaa (Zaa 2) xaa))) (ZaQ (zap (Zab 2) (zap (Zab 3) yaQ)))))
  (Yaj (YaE (yaa (Zaa 2) (yaa (Zaa 3) xaa))))))) rfl h
noncomputable def XaK:DSt→Dm Fl :=
 (fSeq (fFor (iTupF (fVar 1)) (hName 2) (fAsg (fCB zaj (fCons (fVar 0) (fCons (fVar 2) fNil))) (hName 0)))
 (fRet (fVar 0)))
noncomputable def yaF:List D→Dm D:=fnF 3 XaK
noncomputable def ZaF:Stmt:=top 19
theorem ZaM:FnScope ["_law_floor_here","_law_word_here","_law_step"] ["_law_floor_here","_law_word_here"] (defScope ZaF):=⟨rfl,rfl,rfl,by decide +kernel,rfl,by decide +kernel,by decide +kernel⟩
theorem Xbg {f:Addr} {fd:FuncData} (D:Def K mg "_law_led" ZaF ["_law_floor_here","_law_word_here"] f fd) (T:Txt mg)  {f_law_stepped:Addr} {d_law_stepped:FuncData} (D_law_stepped:Def K mg "_law_stepped" xaq ["_law_floor_here","_law_step"] f_law_stepped d_law_stepped) (G_law_stepped:FnOk P w K mg base CX0 2 f_law_stepped d_law_stepped ["_law_floor_here","_law_step"] (spF K 2 zaj)):FnOk P w K mg base CX0 3 f fd ["_law_floor_here","_law_word_here"] (spF K 2 yaF):=by
 refine D.F.ok ZaM (fun vs H Q E h=>h.1) (fun cdv A outer s H vs Q E hr h=>?_)
 have hu:=hr.units
 have hu1:=zaC hr
 refine ⟨_,(@Xab _ _ _ _ _ (@ZaC _ _ _ _ _ _ _ _ PassesOwn.never rfl (zaU (pv 1)) (xaf (i:=2) ZaM.nd rfl (by first | exact Or.inl rfl | exact Or.inr rfl)) (@zad _ _ _ (@Zag (i:=0) _ _ _ _ _ _ ZaM.nd rfl (by first | exact Or.inl rfl | exact Or.inr rfl) (Zae G_law_stepped (hr.mono (by decide)) rfl D_law_stepped.m D_law_stepped.F.kp D_law_stepped.b .nil pass0 (@zaa _ _ _ _ _ (pv 0) (@zaa _ _ _ _ _ (pv 2) Yaa (by rfl)) (by rfl))) (by rfl) (by first | exact .inl rfl | exact .inr rfl | assumption))) (by intro _;rfl))
  (@zad _ _ _ (Zaj (pv 0)))),?_⟩
 exact yaC (b:=XaK) (zae (XaC (zaM (Zaa 1)) (Zab 2) (zaf (Yae (F:=zaj) (yaa (Zaa 0) (yaa (Zaa 2) xaa)) (yab (yab (fun _ _ _ _ h=>xae h)))) (Zab 0)))
  (Yaj (Zaa 0))) rfl h
noncomputable def zaH:DSt→Dm Fl :=
 (fSeq (fIf (fTest (fOp gGt (fOp gIxL (fVar 0) (fC (.int 0))) (fC (.int 0)))) (fSeq (fAsg (fOp gMod (fOp gIxL (fVar 0) (fC (.int 0))) (fVar 1)) (hName 2))
 (fSeq (fAsg (fOp gFdiv (fOp gIxL (fVar 0) (fC (.int 0))) (fVar 1)) (hSub (fVar 0) (fC (.int 0))))
 (fRet (fVar 2)))) fNext)
 (fSeq (fAsg (fOp gMod (fOp gMul (fOp gIxL (fVar 0) (fC (.int 1))) (fC (.int 48271))) (fC (.int 2147483647))) (hName 3))
 (fSeq (fAsg (fOp gAdd (fOp gMod (fOp gAdd (fOp gMul (fVar 3) (fC (.int 40692))) (fC (.int 30103))) (fC (.int 2147483399))) (fC (.int 1))) (hSub (fVar 0) (fC (.int 1))))
 (fRet (fOp gMod (fOp gFdiv (fOp gAdd (fOp gMul (fVar 3) (fC (.int 2147483647))) (fOp gIxL (fVar 0) (fC (.int 1)))) (fC (.int 8191))) (fVar 1))))))
noncomputable def Yad:List D→Dm D:=fnF 4 zaH
noncomputable def Zan:Stmt:=top 12
theorem YaJ:FnScope ["_law_feed_here","_law_many","_law_digit","_law_one"] ["_law_feed_here","_law_many"] (defScope Zan):=⟨rfl,rfl,rfl,by decide +kernel,rfl,by decide +kernel,by decide +kernel⟩
theorem Xba {f:Addr} {fd:FuncData} (D:Def K mg "_law_take" Zan ["_law_feed_here","_law_many"] f fd) (T:Txt mg)  :FnOk P w K mg base CX0 1 f fd ["_law_feed_here","_law_many"] (spF K 2 Yad):=by
 refine D.F.ok YaJ (fun vs H Q E h=>h.1) (fun cdv A outer s H vs Q E hr h=>?_)
 have hu:=hr.units
 have hu1:=zaC hr
 refine ⟨_,(@Xab _ _ _ _ _ (@yaI _ _ _ _ _ _ _ _ (zah op_gt (@xah _ _ _ _ _ _ _ xak (pv 0) Zac (fun _ _=>rfl)) Zac (nomark _)) (@Xab _ _ _ _ _ (@Zag (i:=2) _ _ _ _ _ _ YaJ.nd rfl (by first | exact Or.inl rfl | exact Or.inr rfl) (Yah ZaL (@xah _ _ _ _ _ _ _ xak (pv 0) Zac (fun _ _=>rfl)) (pv 1)) (by rfl) (by first | exact .inl rfl | exact .inr rfl | assumption))
  (@Xab _ _ _ _ _ (zaZ (Yah Ybr (@xah _ _ _ _ _ _ _ xak (pv 0) Zac (fun _ _=>rfl)) (pv 1)) (ya6 (pv 0) Zac YaM))
  (@zad _ _ _ (Zaj (pv 2))))) zaq)
  (@Xab _ _ _ _ _ (@Zag (i:=3) _ _ _ _ _ _ YaJ.nd rfl (by first | exact Or.inl rfl | exact Or.inr rfl) (Yah ZaL (Yah zaR (@xah _ _ _ _ _ _ _ xak (pv 0) Zac (fun _ _=>rfl)) Zac) Zac) (by rfl) (by first | exact .inl rfl | exact .inr rfl | assumption))
  (@Xab _ _ _ _ _ (zaZ (Yah Zay (Yah ZaL (Yah Zay (Yah zaR (pv 3) Zac) Zac) Zac) Zac) (ya6 (pv 0) Zac YaM))
  (@zad _ _ _ (Zaj (Yah ZaL (Yah Ybr (Yah Zay (Yah zaR (pv 3) Zac) (@xah _ _ _ _ _ _ _ xak (pv 0) Zac (fun _ _=>rfl))) Zac) (pv 1))))))),?_⟩
 exact yaC (b:=zaH) (zae (xau (yah (xac so_gt (xac Xas (Zaa 0) (Yac _)) (Yac _))) (zae (zaf (xac xaL (xac Xas (Zaa 0) (Yac _)) (Zaa 1)) (Zab 2))
  (zae (zaf (xac Xbw (xac Xas (Zaa 0) (Yac _)) (Zaa 1)) (yaW (Zaa 0) (Yac _)))
  (Yaj (Zaa 2)))) yaq)
  (zae (zaf (xac xaL (xac YaR (xac Xas (Zaa 0) (Yac _)) (Yac _)) (Yac _)) (Zab 3))
  (zae (zaf (xac Yay (xac xaL (xac Yay (xac YaR (Zaa 3) (Yac _)) (Yac _)) (Yac _)) (Yac _)) (yaW (Zaa 0) (Yac _)))
  (Yaj (xac xaL (xac Xbw (xac Yay (xac YaR (Zaa 3) (Yac _)) (xac Xas (Zaa 0) (Yac _))) (Yac _)) (Zaa 1)))))) rfl h
noncomputable def Xav:DSt→Dm Fl :=
 (fSeq (fAsg (fCB gListR (fCons (fCB gRange1 (fCons (fVar 1) fNil)) fNil)) (hName 2))
 (fSeq (fAsg (fTup fNil) (hName 3))
 (fSeq (fWhile (fTest (fOp (gEqD true) (fVar 2) (fLst fNil))) (fAsg (fOp gCatT (fVar 3) (fTup (fCons (fBM "list" gPopAt (fVar 2) (fCons (fCB Yad (fCons (fVar 0) (fCons (fCB gLen (fCons (fVar 2) fNil)) fNil))) fNil)) fNil))) (hName 3)))
 (fRet (fVar 3)))))
noncomputable def Yag:List D→Dm D:=fnF 4 Xav
noncomputable def Xal:Stmt:=top 13
theorem Xat:FnScope ["_law_feed_here","_law_n","_law_left","_law_found"] ["_law_feed_here","_law_n"] (defScope Xal):=⟨rfl,rfl,rfl,by decide +kernel,rfl,by decide +kernel,by decide +kernel⟩
theorem yaX {f:Addr} {fd:FuncData} (D:Def K mg "_law_turning" Xal ["_law_feed_here","_law_n"] f fd) (T:Txt mg)  {f_law_take:Addr} {d_law_take:FuncData} (D_law_take:Def K mg "_law_take" Zan ["_law_feed_here","_law_many"] f_law_take d_law_take) (G_law_take:FnOk P w K mg base CX0 1 f_law_take d_law_take ["_law_feed_here","_law_many"] (spF K 2 Yad)):FnOk P w K mg base CX0 2 f fd ["_law_feed_here","_law_n"] (spF K 2 Yag):=by
 refine D.F.ok Xat (fun vs H Q E h=>h.1) (fun cdv A outer s H vs Q E hr h=>?_)
 have hu:=hr.units
 have hu1:=zaC hr
 refine ⟨_,(@Xab _ _ _ _ _ (@Zag (i:=2) _ _ _ _ _ _ Xat.nd rfl (by first | exact Or.inl rfl | exact Or.inr rfl) (Xac (xag rfl) (by rfl) T.n_list yas (@zaa _ _ _ _ _ (Xac ZaA (by rfl) T.n_range Zas (@zaa _ _ _ _ _ (pv 1) Yaa (by rfl))) Yaa (by rfl))) (by rfl) (by first | exact .inl rfl | exact .inr rfl | assumption))
  (@Xab _ _ _ _ _ (@Zag (i:=3) _ _ _ _ _ _ Xat.nd rfl (by first | exact Or.inl rfl | exact Or.inr rfl) (zaE Yaa) (by rfl) (by first | exact .inl rfl | exact .inr rfl | assumption))
  (@Xab _ _ _ _ _ (XaS PassesOwn.never (zah (Xbi hu) (pv 2) (@Yaw _ _ _ _ Yaa) (nomark _)) (@zad _ _ _ (@Zag (i:=3) _ _ _ _ _ _ Xat.nd rfl (by first | exact Or.inl rfl | exact Or.inr rfl) (Yah xbG (pv 3) (zaE (@zaa _ _ _ _ _ (xaX PySem.F.plainAttrs_list PySem.F.slot_list_pop PySem.F.type_list_pop YbF (pv 2) (@zaa _ _ _ _ _ (Zae G_law_take (hr.mono (by decide)) rfl D_law_take.m D_law_take.F.kp D_law_take.b .nil pass0 (@zaa _ _ _ _ _ (pv 0) (@zaa _ _ _ _ _ (Xaf xad (by rfl) T.n_len Yap (@zaa _ _ _ _ _ (pv 2) Yaa (by rfl))) Yaa (by rfl)) (by rfl))) Yaa (by rfl))) Yaa (by rfl)))) (by rfl) (by first | exact .inl rfl | exact .inr rfl | assumption))))
  (@zad _ _ _ (Zaj (pv 3)))))),?_⟩
 exact yaC (b:=Xav) (zae (zaf (zag zat (yaa (zag yaJ (yaa (Zaa 1) xaa)) xaa)) (Zab 2))
  (zae (zaf (YaE xaa) (Zab 3))
  (zae (yaT (yah (xac (zaW true) (Zaa 2) (zax xaa))) (zaf (xac XbW (Zaa 3) (YaE (yaa (zaO ZbJ (Zaa 2) (yaa (Yae (F:=Yad) (yaa (Zaa 0) (yaa (zag Xap (yaa (Zaa 2) xaa)) xaa)) (yab (yab (fun _ _ _ _ h=>xae h)))) xaa)) xaa))) (Zab 3)))
  (Yaj (Zaa 3))))) rfl h
noncomputable def zaL:DSt→Dm Fl :=
 (fSeq (fAsg (fLst (fCons (fC (.int 0)) fNil)) (hName 1))
 (fSeq (fFor (iRng1F (fCons (fOp gAdd (fC (.int 1)) (fCB gLen (fCons (fOp gIxT (fVar 0) (fC (.int 0))) fNil))) fNil)) (hName 2) (fFor (iTupF (fVar 0)) (hName 3) (fFor (iListF (fCB gList (fCons (fVar 1) fNil))) (hName 4) (fIf (fTest (fOp (gIn true) (fOp gIxT (fVar 3) (fVar 4)) (fVar 1))) (fDrop (fBM "list" gAppend (fVar 1) (fCons (fOp gIxT (fVar 3) (fVar 4)) fNil))) fNext))))
 (fRet (fVar 1))))
noncomputable def zai:List D→Dm D:=fnF 5 zaL
noncomputable def yaA:Stmt:=top 14
theorem yaB:FnScope ["_law_floor_here","_law_found","_law_turn","_law_turning_here","_law_one"] ["_law_floor_here"] (defScope yaA):=⟨rfl,rfl,rfl,by decide +kernel,rfl,by decide +kernel,by decide +kernel⟩
theorem zbh {f:Addr} {fd:FuncData} (D:Def K mg "_law_met" yaA ["_law_floor_here"] f fd) (T:Txt mg)  :FnOk P w K mg base CX0 1 f fd ["_law_floor_here"] (spF K 1 zai):=by
 refine D.F.ok yaB (fun vs H Q E h=>h.1) (fun cdv A outer s H vs Q E hr h=>?_)
 have hu:=hr.units
 have hu1:=zaC hr
 refine ⟨_,(@Xab _ _ _ _ _ (@Zag (i:=1) _ _ _ _ _ _ yaB.nd rfl (by first | exact Or.inl rfl | exact Or.inr rfl) (@Yaw _ _ _ _ (@zaa _ _ _ _ _ Zac Yaa (by rfl))) (by rfl) (by first | exact .inl rfl | exact .inr rfl | assumption))
  (@Xab _ _ _ _ _ (@ZaC _ _ _ _ _ _ _ _ PassesOwn.never rfl (Zai rfl T.n_range (@zaa _ _ _ _ _ (Yah Zay Zac (Xaf xad (by rfl) T.n_len Yap (@zaa _ _ _ _ _ (@xah _ _ _ _ _ _ _ Yam (pv 0) Zac (fun _ _=>rfl)) Yaa (by rfl)))) Yaa (by rfl))) (xaf (i:=2) yaB.nd rfl (by first | exact Or.inl rfl | exact Or.inr rfl)) (@zad _ _ _ (@ZaC _ _ _ _ _ _ _ _ PassesOwn.never rfl (zaU (pv 0)) (xaf (i:=3) yaB.nd rfl (by first | exact Or.inl rfl | exact Or.inr rfl)) (@zad _ _ _ (@ZaC _ _ _ _ _ _ _ _ PassesOwn.never rfl (XaT (Xac YaI (by rfl) T.n_list yas (@zaa _ _ _ _ _ (pv 1) Yaa (by rfl)))) (xaf (i:=4) yaB.nd rfl (by first | exact Or.inl rfl | exact Or.inr rfl)) (@zad _ _ _ (@yaI _ _ _ _ _ _ _ _ (zah YaC (@xah _ _ _ _ _ _ _ Yam (pv 3) (pv 4) (fun _ _=>rfl)) (pv 1) (by with_unfolding_all rfl)) (@zad _ _ _ (xaF (xaX PySem.F.plainAttrs_list PySem.F.slot_list_append PySem.F.type_list_append xaw (pv 1) (@zaa _ _ _ _ _ (@xah _ _ _ _ _ _ _ Yam (pv 3) (pv 4) (fun _ _=>rfl)) Yaa (by rfl))))) zaq)) (by intro _;rfl))) (by intro _;rfl))) (by intro _;rfl))
  (@zad _ _ _ (Zaj (pv 1))))),?_⟩
 exact yaC (b:=zaL) (zae (zaf (zax (yaa (Yac _) xaa)) (Zab 1))
  (zae (XaC (Zam (yaa (xac Yay (Yac _) (zag Xap (yaa (xac yaj (Zaa 0) (Yac _)) xaa))) xaa)) (Zab 2) (XaC (zaM (Zaa 0)) (Zab 3) (XaC (yaO (zag Ybf (yaa (Zaa 1) xaa))) (Zab 4) (xau (yah (xac (Zbx true) (xac yaj (Zaa 3) (Zaa 4)) (Zaa 1))) (YaG (zaO yax (Zaa 1) (yaa (xac yaj (Zaa 3) (Zaa 4)) xaa))) yaq))))
  (Yaj (Zaa 1)))) rfl h
noncomputable def zaD:DSt→Dm Fl :=
 (fSeq (fAsg (fCB Yad (fCons (fVar 0) (fCons (fC (.int 6)) fNil))) (hName 2))
 (fSeq (fPar 3 4 (fCons (fCB gList (fCons (fCB Yag (fCons (fVar 0) (fCons (fVar 1) fNil))) fNil)) (fCons (fCB gList (fCons (fCB Yag (fCons (fVar 0) (fCons (fVar 1) fNil))) fNil)) fNil)))
 (fSeq (fIf (fTest (fOp (gEq false) (fVar 2) (fC (.int 0)))) (fAsg (fOp gCat (fCB gListR (fCons (fCB gRange2 (fCons (fC (.int 1)) (fCons (fVar 1) fNil))) fNil)) (fLst (fCons (fC (.int 0)) fNil))) (hName 3)) fNext)
 (fSeq (fIf (fTest (fOp (gEq false) (fVar 2) (fC (.int 1)))) (fPar 3 4 (fCons (fCB gListR (fCons (fCB gRange1 (fCons (fVar 1) fNil)) fNil)) (fCons (fOp gCat (fCB gListR (fCons (fCB gRange2 (fCons (fC (.int 1)) (fCons (fVar 1) fNil))) fNil)) (fLst (fCons (fC (.int 0)) fNil))) fNil))) fNext)
 (fSeq (fIf (fTest (fOp (gEq false) (fVar 2) (fC (.int 2)))) (fSeq (fAsg (fOp gAdd (fC (.int 1)) (fCB Yad (fCons (fVar 0) (fCons (fVar 1) fNil)))) (hName 5))
 (fSeq (fAsg (fOp gCat (fOp gCat (fCB gListR (fCons (fCB gRange2 (fCons (fC (.int 1)) (fCons (fVar 5) fNil))) fNil)) (fLst (fCons (fC (.int 0)) fNil))) (fCB gListR (fCons (fCB gRange2 (fCons (fVar 5) (fCons (fVar 1) fNil))) fNil))) (hName 3))
 (fSeq (fAsg (fSl gSlL (fOp gCat (fOp gCat (fOp gCat (fLst (fCons (fVar 5) fNil)) (fCB gListR (fCons (fCB gRange2 (fCons (fC (.int 1)) (fCons (fVar 5) fNil))) fNil))) (fCB gListR (fCons (fCB gRange2 (fCons (fOp gAdd (fVar 5) (fC (.int 1))) (fCons (fVar 1) fNil))) fNil))) (fLst (fCons (fC (.int 0)) fNil))) fNoPart (fPart (fVar 1))) (hName 4))
 (fIf (fTest (fOp (gEq false) (fVar 5) (fVar 1))) (fAsg (fCB gListR (fCons (fCB gRange1 (fCons (fVar 1) fNil)) fNil)) (hName 4)) fNext)))) fNext)
 (fSeq (fAsg (fTup (fCons (fCB gTuple (fCons (fVar 3) fNil)) (fCons (fCB gTuple (fCons (fVar 4) fNil)) fNil))) (hName 6))
 (fSeq (fAsg (fComp (iRng1F (fCons (fVar 1) fNil)) 1 [6] (hName 0) (fTest (fOp (gIn true) (fVar 0) (fCB zai (fCons (fVar 1) fNil)))) (fVar 0)) (hName 7))
 (fSeq (fWhile (fTest (fOp (gEqD true) (fVar 7) (fLst fNil))) (fSeq (fAsg (fOp gIxL (fVar 7) (fC (.int 0))) (hName 8))
 (fSeq (fAsg (fTup (fCons (fOp gIxL (fVar 3) (fVar 8)) (fCons (fOp gIxL (fVar 3) (fC (.int 0))) fNil))) (hTup 2 (hCons (hSub (fVar 3) (fC (.int 0))) (hCons (hSub (fVar 3) (fVar 8)) hNil))))
 (fSeq (fAsg (fTup (fCons (fCB gTuple (fCons (fVar 3) fNil)) (fCons (fCB gTuple (fCons (fVar 4) fNil)) fNil))) (hName 6))
 (fAsg (fComp (iRng1F (fCons (fVar 1) fNil)) 1 [6] (hName 0) (fTest (fOp (gIn true) (fVar 0) (fCB zai (fCons (fVar 1) fNil)))) (fVar 0)) (hName 7))))))
 (fRet (fVar 6))))))))))
noncomputable def Yan:List D→Dm D:=fnF 9 zaD
noncomputable def Zax:Stmt:=top 15
theorem Yaf:FnScope ["_law_feed_here","_law_n","_law_form_here","_law_right_here","_law_up","_law_wide","_law_found","_law_apart","_law_m"] ["_law_feed_here","_law_n"] (defScope Zax):=⟨rfl,rfl,rfl,by decide +kernel,rfl,by decide +kernel,by decide +kernel⟩
theorem Xa4 {f:Addr} {fd:FuncData} (D:Def K mg "_law_floor" Zax ["_law_feed_here","_law_n"] f fd) (T:Txt mg)  {f_law_take:Addr} {d_law_take:FuncData} (D_law_take:Def K mg "_law_take" Zan ["_law_feed_here","_law_many"] f_law_take d_law_take) (G_law_take:FnOk P w K mg base CX0 1 f_law_take d_law_take ["_law_feed_here","_law_many"] (spF K 2 Yad)) {f_law_turning:Addr} {d_law_turning:FuncData} (D_law_turning:Def K mg "_law_turning" Xal ["_law_feed_here","_law_n"] f_law_turning d_law_turning) (G_law_turning:FnOk P w K mg base CX0 2 f_law_turning d_law_turning ["_law_feed_here","_law_n"] (spF K 2 Yag)) {f_law_met:Addr} {d_law_met:FuncData} (D_law_met:Def K mg "_law_met" yaA ["_law_floor_here"] f_law_met d_law_met) (G_law_met:FnOk P w K mg base CX0 1 f_law_met d_law_met ["_law_floor_here"] (spF K 1 zai)):FnOk P w K mg base CX0 3 f fd ["_law_feed_here","_law_n"] (spF K 2 Yan):=by
 refine D.F.ok Yaf (fun vs H Q E h=>h.1) (fun cdv A outer s H vs Q E hr h=>?_)
 have hu:=hr.units
 have hu1:=zaC hr
 refine ⟨_,(@Xab _ _ _ _ _ (@Zag (i:=2) _ _ _ _ _ _ Yaf.nd rfl (by first | exact Or.inl rfl | exact Or.inr rfl) (Zae G_law_take (hr.mono (by decide)) rfl D_law_take.m D_law_take.F.kp D_law_take.b .nil pass0 (@zaa _ _ _ _ _ (pv 0) (@zaa _ _ _ _ _ Zac Yaa (by rfl)) (by rfl))) (by rfl) (by first | exact .inl rfl | exact .inr rfl | assumption))
  (@Xab _ _ _ _ _ (Xbq (i:=3) (j:=4) rfl Yaf.nd rfl rfl (by decide) rfl rfl (@zaa _ _ _ _ _ (Xac YaI (by rfl) T.n_list yas (@zaa _ _ _ _ _ (Zae G_law_turning (hr.mono (by decide)) rfl D_law_turning.m D_law_turning.F.kp D_law_turning.b .nil pass0 (@zaa _ _ _ _ _ (pv 0) (@zaa _ _ _ _ _ (pv 1) Yaa (by rfl)) (by rfl))) Yaa (by rfl))) (@zaa _ _ _ _ _ (Xac YaI (by rfl) T.n_list yas (@zaa _ _ _ _ _ (Zae G_law_turning (hr.mono (by decide)) rfl D_law_turning.m D_law_turning.F.kp D_law_turning.b .nil pass0 (@zaa _ _ _ _ _ (pv 0) (@zaa _ _ _ _ _ (pv 1) Yaa (by rfl)) (by rfl))) Yaa (by rfl))) Yaa (by rfl)) (by rfl)) rfl)
  (@Xab _ _ _ _ _ (@yaI _ _ _ _ _ _ _ _ (zah ybd (pv 2) Zac (nomark _)) (@zad _ _ _ (@Zag (i:=3) _ _ _ _ _ _ Yaf.nd rfl (by first | exact Or.inl rfl | exact Or.inr rfl) (Yah yaR (Xac (xag rfl) (by rfl) T.n_list yas (@zaa _ _ _ _ _ (Xac Xau (by rfl) T.n_range Zas (@zaa _ _ _ _ _ Zac (@zaa _ _ _ _ _ (pv 1) Yaa (by rfl)) (by rfl))) Yaa (by rfl))) (@Yaw _ _ _ _ (@zaa _ _ _ _ _ Zac Yaa (by rfl)))) (by rfl) (by first | exact .inl rfl | exact .inr rfl | assumption))) zaq)
  (@Xab _ _ _ _ _ (@yaI _ _ _ _ _ _ _ _ (zah ybd (pv 2) Zac (nomark _)) (@zad _ _ _ (Xbq (i:=3) (j:=4) rfl Yaf.nd rfl rfl (by decide) rfl rfl (@zaa _ _ _ _ _ (Xac (xag rfl) (by rfl) T.n_list yas (@zaa _ _ _ _ _ (Xac ZaA (by rfl) T.n_range Zas (@zaa _ _ _ _ _ (pv 1) Yaa (by rfl))) Yaa (by rfl))) (@zaa _ _ _ _ _ (Yah yaR (Xac (xag rfl) (by rfl) T.n_list yas (@zaa _ _ _ _ _ (Xac Xau (by rfl) T.n_range Zas (@zaa _ _ _ _ _ Zac (@zaa _ _ _ _ _ (pv 1) Yaa (by rfl)) (by rfl))) Yaa (by rfl))) (@Yaw _ _ _ _ (@zaa _ _ _ _ _ Zac Yaa (by rfl)))) Yaa (by rfl)) (by rfl)) rfl)) zaq)
  (@Xab _ _ _ _ _ (@yaI _ _ _ _ _ _ _ _ (zah ybd (pv 2) Zac (nomark _)) (@Xab _ _ _ _ _ (@Zag (i:=5) _ _ _ _ _ _ Yaf.nd rfl (by first | exact Or.inl rfl | exact Or.inr rfl) (Yah Zay Zac (Zae G_law_take (hr.mono (by decide)) rfl D_law_take.m D_law_take.F.kp D_law_take.b .nil pass0 (@zaa _ _ _ _ _ (pv 0) (@zaa _ _ _ _ _ (pv 1) Yaa (by rfl)) (by rfl)))) (by rfl) (by first | exact .inl rfl | exact .inr rfl | assumption))
  (@Xab _ _ _ _ _ (@Zag (i:=3) _ _ _ _ _ _ Yaf.nd rfl (by first | exact Or.inl rfl | exact Or.inr rfl) (Yah yaR (Yah yaR (Xac (xag rfl) (by rfl) T.n_list yas (@zaa _ _ _ _ _ (Xac Xau (by rfl) T.n_range Zas (@zaa _ _ _ _ _ Zac (@zaa _ _ _ _ _ (pv 5) Yaa (by rfl)) (by rfl))) Yaa (by rfl))) (@Yaw _ _ _ _ (@zaa _ _ _ _ _ Zac Yaa (by rfl)))) (Xac (xag rfl) (by rfl) T.n_list yas (@zaa _ _ _ _ _ (Xac Xau (by rfl) T.n_range Zas (@zaa _ _ _ _ _ (pv 5) (@zaa _ _ _ _ _ (pv 1) Yaa (by rfl)) (by rfl))) Yaa (by rfl)))) (by rfl) (by first | exact .inl rfl | exact .inr rfl | assumption))
  (@Xab _ _ _ _ _ (@Zag (i:=4) _ _ _ _ _ _ Yaf.nd rfl (by first | exact Or.inl rfl | exact Or.inr rfl) (Za1 zbe (Yah yaR (Yah yaR (Yah yaR (@Yaw _ _ _ _ (@zaa _ _ _ _ _ (pv 5) Yaa (by rfl))) (Xac (xag rfl) (by rfl) T.n_list yas (@zaa _ _ _ _ _ (Xac Xau (by rfl) T.n_range Zas (@zaa _ _ _ _ _ Zac (@zaa _ _ _ _ _ (pv 5) Yaa (by rfl)) (by rfl))) Yaa (by rfl)))) (Xac (xag rfl) (by rfl) T.n_list yas (@zaa _ _ _ _ _ (Xac Xau (by rfl) T.n_range Zas (@zaa _ _ _ _ _ (Yah Zay (pv 5) Zac) (@zaa _ _ _ _ _ (pv 1) Yaa (by rfl)) (by rfl))) Yaa (by rfl)))) (@Yaw _ _ _ _ (@zaa _ _ _ _ _ Zac Yaa (by rfl)))) Zbd (Ybd (pv 1))) (by rfl) (by first | exact .inl rfl | exact .inr rfl | assumption))
  (@zad _ _ _ (@yaI _ _ _ _ _ _ _ _ (zah ybd (pv 5) (pv 1) (nomark _)) (@zad _ _ _ (@Zag (i:=4) _ _ _ _ _ _ Yaf.nd rfl (by first | exact Or.inl rfl | exact Or.inr rfl) (Xac (xag rfl) (by rfl) T.n_list yas (@zaa _ _ _ _ _ (Xac ZaA (by rfl) T.n_range Zas (@zaa _ _ _ _ _ (pv 1) Yaa (by rfl))) Yaa (by rfl))) (by rfl) (by first | exact .inl rfl | exact .inr rfl | assumption))) zaq))))) zaq)
  (@Xab _ _ _ _ _ (@Zag (i:=6) _ _ _ _ _ _ Yaf.nd rfl (by first | exact Or.inl rfl | exact Or.inr rfl) (zaE (@zaa _ _ _ _ _ (Xac Zaf (by rfl) T.n_tuple Xak (@zaa _ _ _ _ _ (pv 3) Yaa (by rfl))) (@zaa _ _ _ _ _ (Xac Zaf (by rfl) T.n_tuple Xak (@zaa _ _ _ _ _ (pv 4) Yaa (by rfl))) Yaa (by rfl)) (by rfl))) (by rfl) (by first | exact .inl rfl | exact .inr rfl | assumption))
  (@Xab _ _ _ _ _ (ybu (i:=7) (own:=["_law_s"]) (fr:=["_law_found"]) (js:=[6]) rfl Yaf.nd rfl rfl ⟨⟨rfl,by decide +kernel,by decide +kernel,by dsimp only [cxOf,cxComp,Cx.nox,Cx.wish,PyProof.Rows.envOfC,compEnvC,relabel,Env.kindOf];decide +kernel,by decide +kernel⟩,rfl⟩ (Zai rfl T.n_range (@zaa _ _ _ _ _ (pv 1) Yaa (by rfl))) (fun _ _ _ _ _=>(xaf (i:=0) (show ((["_law_s"]:List Str) ++ (["_law_found"]:List Str)).Nodup by decide +kernel) rfl (by first | exact Or.inl rfl | exact Or.inr rfl))) (fun _ _ _ _ _=>(XbO (zah (ZaN (K:=K) rfl) (pv 0) (Zae G_law_met (hr.mono (by decide)) rfl D_law_met.m D_law_met.F.kp D_law_met.b .nil pass0 (@zaa _ _ _ _ _ (pv 1) Yaa (by rfl))) (by with_unfolding_all rfl)))) (fun _ _ _ _ _=>(pv 0)))
  (@Xab _ _ _ _ _ (XaS PassesOwn.never (zah (Xbi hu) (pv 7) (@Yaw _ _ _ _ Yaa) (nomark _)) (@Xab _ _ _ _ _ (@Zag (i:=8) _ _ _ _ _ _ Yaf.nd rfl (by first | exact Or.inl rfl | exact Or.inr rfl) (@xah _ _ _ _ _ _ _ xak (pv 7) Zac (fun _ _=>rfl)) (by rfl) (by first | exact .inl rfl | exact .inr rfl | assumption))
  (@Xab _ _ _ _ _ (zaZ (zaE (@zaa _ _ _ _ _ (@xah _ _ _ _ _ _ _ xak (pv 3) (pv 8) (fun _ _=>rfl)) (@zaa _ _ _ _ _ (@xah _ _ _ _ _ _ _ xak (pv 3) Zac (fun _ _=>rfl)) Yaa (by rfl)) (by rfl))) (XaY (n:=2) rfl (Xao (ya6 (pv 3) Zac YaM) (Xao (ya6 (pv 3) (pv 8) YaM) XaO))))
  (@Xab _ _ _ _ _ (@Zag (i:=6) _ _ _ _ _ _ Yaf.nd rfl (by first | exact Or.inl rfl | exact Or.inr rfl) (zaE (@zaa _ _ _ _ _ (Xac Zaf (by rfl) T.n_tuple Xak (@zaa _ _ _ _ _ (pv 3) Yaa (by rfl))) (@zaa _ _ _ _ _ (Xac Zaf (by rfl) T.n_tuple Xak (@zaa _ _ _ _ _ (pv 4) Yaa (by rfl))) Yaa (by rfl)) (by rfl))) (by rfl) (by first | exact .inl rfl | exact .inr rfl | assumption))
  (@zad _ _ _ (ybu (i:=7) (own:=["_law_s"]) (fr:=["_law_found"]) (js:=[6]) rfl Yaf.nd rfl rfl ⟨⟨rfl,by decide +kernel,by decide +kernel,by dsimp only [cxOf,cxComp,Cx.nox,Cx.wish,PyProof.Rows.envOfC,compEnvC,relabel,Env.kindOf];decide +kernel,by decide +kernel⟩,rfl⟩ (Zai rfl T.n_range (@zaa _ _ _ _ _ (pv 1) Yaa (by rfl))) (fun _ _ _ _ _=>(xaf (i:=0) (show ((["_law_s"]:List Str) ++ (["_law_found"]:List Str)).Nodup by decide +kernel) rfl (by first | exact Or.inl rfl | exact Or.inr rfl))) (fun _ _ _ _ _=>(XbO (zah (ZaN (K:=K) rfl) (pv 0) (Zae G_law_met (hr.mono (by decide)) rfl D_law_met.m D_law_met.F.kp D_law_met.b .nil pass0 (@zaa _ _ _ _ _ (pv 1) Yaa (by rfl))) (by with_unfolding_all rfl)))) (fun _ _ _ _ _=>(pv 0))))))))
  (@zad _ _ _ (Zaj (pv 6))))))))))),?_⟩
 exact yaC (b:=zaD) (zae (zaf (Yae (F:=Yad) (yaa (Zaa 0) (yaa (Yac _) xaa)) (yab (yab (fun _ _ _ _ h=>xae h)))) (Zab 2))
  (zae (Xbx (yaa (zag Ybf (yaa (Yae (F:=Yag) (yaa (Zaa 0) (yaa (Zaa 1) xaa)) (yab (yab (fun _ _ _ _ h=>xae h)))) xaa)) (yaa (zag Ybf (yaa (Yae (F:=Yag) (yaa (Zaa 0) (yaa (Zaa 1) xaa)) (yab (yab (fun _ _ _ _ h=>xae h)))) xaa)) xaa)))
  (zae (xau (yah (xac Zbf (Zaa 2) (Yac _))) (zaf (xac xaR (zag zat (yaa (zag XaE (yaa (Yac _) (yaa (Zaa 1) xaa))) xaa)) (zax (yaa (Yac _) xaa))) (Zab 3)) yaq)
  (zae (xau (yah (xac Zbf (Zaa 2) (Yac _))) (Xbx (yaa (zag zat (yaa (zag yaJ (yaa (Zaa 1) xaa)) xaa)) (yaa (xac xaR (zag zat (yaa (zag XaE (yaa (Yac _) (yaa (Zaa 1) xaa))) xaa)) (zax (yaa (Yac _) xaa))) xaa))) yaq)
  (zae (xau (yah (xac Zbf (Zaa 2) (Yac _))) (zae (zaf (xac Yay (Yac _) (Yae (F:=Yad) (yaa (Zaa 0) (yaa (Zaa 1) xaa)) (yab (yab (fun _ _ _ _ h=>xae h))))) (Zab 5))
  (zae (zaf (xac xaR (xac xaR (zag zat (yaa (zag XaE (yaa (Yac _) (yaa (Zaa 5) xaa))) xaa)) (zax (yaa (Yac _) xaa))) (zag zat (yaa (zag XaE (yaa (Zaa 5) (yaa (Zaa 1) xaa))) xaa))) (Zab 3))
  (zae (zaf (YbW zbx (xac xaR (xac xaR (xac xaR (zax (yaa (Zaa 5) xaa)) (zag zat (yaa (zag XaE (yaa (Yac _) (yaa (Zaa 5) xaa))) xaa))) (zag zat (yaa (zag XaE (yaa (xac Yay (Zaa 5) (Yac _)) (yaa (Zaa 1) xaa))) xaa))) (zax (yaa (Yac _) xaa))) XaV (ybf (Zaa 1))) (Zab 4))
  (xau (yah (xac Zbf (Zaa 5) (Zaa 1))) (zaf (zag zat (yaa (zag yaJ (yaa (Zaa 1) xaa)) xaa)) (Zab 4)) yaq)))) yaq)
  (zae (zaf (YaE (yaa (zag zal (yaa (Zaa 3) xaa)) (yaa (zag zal (yaa (Zaa 4) xaa)) xaa))) (Zab 6))
  (zae (zaf (yat (Zam (yaa (Zaa 1) xaa)) (Zab 0) (yah (xac (Zbx true) (Zaa 0) (Yae (F:=zai) (yaa (Zaa 1) xaa) (yab (fun _ _ _ _ h=>xae h))))) (Zaa 0)) (Zab 7))
  (zae (yaT (yah (xac (zaW true) (Zaa 7) (zax xaa))) (zae (zaf (xac Xas (Zaa 7) (Yac _)) (Zab 8))
  (zae (zaf (YaE (yaa (xac Xas (Zaa 3) (Zaa 8)) (yaa (xac Xas (Zaa 3) (Yac _)) xaa))) (ZaQ (zap (yaW (Zaa 3) (Yac _)) (zap (yaW (Zaa 3) (Zaa 8)) yaQ))))
  (zae (zaf (YaE (yaa (zag zal (yaa (Zaa 3) xaa)) (yaa (zag zal (yaa (Zaa 4) xaa)) xaa))) (Zab 6))
  (zaf (yat (Zam (yaa (Zaa 1) xaa)) (Zab 0) (yah (xac (Zbx true) (Zaa 0) (Yae (F:=zai) (yaa (Zaa 1) xaa) (yab (fun _ _ _ _ h=>xae h))))) (Zaa 0)) (Zab 7))))))
  (Yaj (Zaa 6)))))))))) rfl h
noncomputable def yaH:DSt→Dm Fl :=
 (fSeq (fAsg (fLst fNil) (hName 3))
 (fSeq (fFor (iRng1F (fCons (fCB Yad (fCons (fVar 0) (fCons (fOp gAdd (fVar 1) (fC (.int 1))) fNil))) fNil)) (hName 4) (fIf (fTest (fOp (gEq false) (fCB Yad (fCons (fVar 0) (fCons (fC (.int 2)) fNil))) (fC (.int 0)))) (fDrop (fBM "list" gAppend (fVar 3) (fCons (fTup (fCons (fC (.str "t")) (fCons (fOp gAdd (fC (.int 1)) (fCB Yad (fCons (fVar 0) (fCons (fC (.int 3)) fNil)))) fNil))) fNil))) (fSeq (fAsg (fOp gAdd (fC (.int 1)) (fCB Yad (fCons (fVar 0) (fCons (fVar 2) fNil)))) (hName 4))
 (fDrop (fBM "list" gAppend (fVar 3) (fCons (fTup (fCons (fC (.str "s")) (fCons (fOp gIxL (fLst (fCons (fVar 4) (fCons (fOp gSub (fC (.int 0)) (fVar 4)) fNil))) (fCB Yad (fCons (fVar 0) (fCons (fC (.int 2)) fNil)))) fNil))) fNil))))))
 (fRet (fCB gTuple (fCons (fVar 3) fNil)))))
noncomputable def ZaB:List D→Dm D:=fnF 5 yaH
noncomputable def YaB:Stmt:=top 16
theorem yaD:FnScope ["_law_feed_here","_law_most","_law_great","_law_found","_law_k"] ["_law_feed_here","_law_most","_law_great"] (defScope YaB):=⟨rfl,rfl,rfl,by decide +kernel,rfl,by decide +kernel,by decide +kernel⟩
theorem zbb {f:Addr} {fd:FuncData} (D:Def K mg "_law_word" YaB ["_law_feed_here","_law_most","_law_great"] f fd) (T:Txt mg)  {f_law_take:Addr} {d_law_take:FuncData} (D_law_take:Def K mg "_law_take" Zan ["_law_feed_here","_law_many"] f_law_take d_law_take) (G_law_take:FnOk P w K mg base CX0 1 f_law_take d_law_take ["_law_feed_here","_law_many"] (spF K 2 Yad)):FnOk P w K mg base CX0 2 f fd ["_law_feed_here","_law_most","_law_great"] (spF K 3 ZaB):=by
 refine D.F.ok yaD (fun vs H Q E h=>h.1) (fun cdv A outer s H vs Q E hr h=>?_)
 have hu:=hr.units
 have hu1:=zaC hr
 refine ⟨_,(@Xab _ _ _ _ _ (@Zag (i:=3) _ _ _ _ _ _ yaD.nd rfl (by first | exact Or.inl rfl | exact Or.inr rfl) (@Yaw _ _ _ _ Yaa) (by rfl) (by first | exact .inl rfl | exact .inr rfl | assumption))
  (@Xab _ _ _ _ _ (@ZaC _ _ _ _ _ _ _ _ PassesOwn.never rfl (Zai rfl T.n_range (@zaa _ _ _ _ _ (Zae G_law_take (hr.mono (by decide)) rfl D_law_take.m D_law_take.F.kp D_law_take.b .nil pass0 (@zaa _ _ _ _ _ (pv 0) (@zaa _ _ _ _ _ (Yah Zay (pv 1) Zac) Yaa (by rfl)) (by rfl))) Yaa (by rfl))) (xaf (i:=4) yaD.nd rfl (by first | exact Or.inl rfl | exact Or.inr rfl)) (@zad _ _ _ (@yaI _ _ _ _ _ _ _ _ (zah ybd (Zae G_law_take (hr.mono (by decide)) rfl D_law_take.m D_law_take.F.kp D_law_take.b .nil pass0 (@zaa _ _ _ _ _ (pv 0) (@zaa _ _ _ _ _ Zac Yaa (by rfl)) (by rfl))) Zac (nomark _)) (@zad _ _ _ (xaF (xaX PySem.F.plainAttrs_list PySem.F.slot_list_append PySem.F.type_list_append xaw (pv 3) (@zaa _ _ _ _ _ (zaE (@zaa _ _ _ _ _ xbq (@zaa _ _ _ _ _ (Yah Zay Zac (Zae G_law_take (hr.mono (by decide)) rfl D_law_take.m D_law_take.F.kp D_law_take.b .nil pass0 (@zaa _ _ _ _ _ (pv 0) (@zaa _ _ _ _ _ Zac Yaa (by rfl)) (by rfl)))) Yaa (by rfl)) (by rfl))) Yaa (by rfl))))) (@Xab _ _ _ _ _ (@Zag (i:=4) _ _ _ _ _ _ yaD.nd rfl (by first | exact Or.inl rfl | exact Or.inr rfl) (Yah Zay Zac (Zae G_law_take (hr.mono (by decide)) rfl D_law_take.m D_law_take.F.kp D_law_take.b .nil pass0 (@zaa _ _ _ _ _ (pv 0) (@zaa _ _ _ _ _ (pv 2) Yaa (by rfl)) (by rfl)))) (by rfl) (by first | exact .inl rfl | exact .inr rfl | assumption))
  (@zad _ _ _ (xaF (xaX PySem.F.plainAttrs_list PySem.F.slot_list_append PySem.F.type_list_append xaw (pv 3) (@zaa _ _ _ _ _ (zaE (@zaa _ _ _ _ _ xbq (@zaa _ _ _ _ _ (@xah _ _ _ _ _ _ _ xak (@Yaw _ _ _ _ (@zaa _ _ _ _ _ (pv 4) (@zaa _ _ _ _ _ (Yah Zbr Zac (pv 4)) Yaa (by rfl)) (by rfl))) (Zae G_law_take (hr.mono (by decide)) rfl D_law_take.m D_law_take.F.kp D_law_take.b .nil pass0 (@zaa _ _ _ _ _ (pv 0) (@zaa _ _ _ _ _ Zac Yaa (by rfl)) (by rfl))) (fun _ _=>rfl)) Yaa (by rfl)) (by rfl))) Yaa (by rfl)))))))) (by intro _;rfl))
  (@zad _ _ _ (Zaj (Xac Zaf (by rfl) T.n_tuple Xak (@zaa _ _ _ _ _ (pv 3) Yaa (by rfl))))))),?_⟩
 exact yaC (b:=yaH) (zae (zaf (zax xaa) (Zab 3))
  (zae (XaC (Zam (yaa (Yae (F:=Yad) (yaa (Zaa 0) (yaa (xac Yay (Zaa 1) (Yac _)) xaa)) (yab (yab (fun _ _ _ _ h=>xae h)))) xaa)) (Zab 4) (xau (yah (xac Zbf (Yae (F:=Yad) (yaa (Zaa 0) (yaa (Yac _) xaa)) (yab (yab (fun _ _ _ _ h=>xae h)))) (Yac _))) (YaG (zaO yax (Zaa 3) (yaa (YaE (yaa (ybw _) (yaa (xac Yay (Yac _) (Yae (F:=Yad) (yaa (Zaa 0) (yaa (Yac _) xaa)) (yab (yab (fun _ _ _ _ h=>xae h))))) xaa))) xaa))) (zae (zaf (xac Yay (Yac _) (Yae (F:=Yad) (yaa (Zaa 0) (yaa (Zaa 2) xaa)) (yab (yab (fun _ _ _ _ h=>xae h))))) (Zab 4))
  (YaG (zaO yax (Zaa 3) (yaa (YaE (yaa (ybw _) (yaa (xac Xas (zax (yaa (Zaa 4) (yaa (xac xbw (Yac _) (Zaa 4)) xaa))) (Yae (F:=Yad) (yaa (Zaa 0) (yaa (Yac _) xaa)) (yab (yab (fun _ _ _ _ h=>xae h))))) xaa))) xaa))))))
  (Yaj (zag zal (yaa (Zaa 3) xaa))))) rfl h
noncomputable def zau:DSt→Dm Fl :=
 (fSeq (fAsg (fLst (fCons (fVar 1) fNil)) (hName 2))
 (fSeq (fFor (iListF (fCB gListR (fCons (fCB gRange1 (fCons (fCB gLen (fCons (fOp gIxT (fVar 0) (fC (.int 0))) fNil)) fNil)) fNil))) (hName 3) (fFor (iTupF (fVar 0)) (hName 4) (fIf (fAnd (fTest (fOp gLt (fVar 3) (fCB gLen (fCons (fVar 2) fNil)))) (fTest (fOp (gIn true) (fOp gIxT (fVar 4) (fOp gIxL (fVar 2) (fVar 3))) (fVar 2)))) (fDrop (fBM "list" gAppend (fVar 2) (fCons (fOp gIxT (fVar 4) (fOp gIxL (fVar 2) (fVar 3))) fNil))) fNext)))
 (fRet (fCB gTuple (fCons (fComp (iTupF (fVar 0)) 1 [2] (hName 0) fTrue (fCB gTuple (fCons (fComp (iListF (fVar 1)) 1 [0,1] (hName 0) fTrue (fBM "list" gIndexL (fVar 2) (fCons (fOp gIxT (fVar 1) (fVar 0)) fNil))) fNil))) fNil)))))
noncomputable def xan:List D→Dm D:=fnF 5 zau
noncomputable def Xan:Stmt:=top 21
theorem yar:FnScope ["_law_floor_here","_law_s","_law_called","_law_one","_law_turning_here"] ["_law_floor_here","_law_s"] (defScope Xan):=⟨rfl,rfl,rfl,by decide +kernel,rfl,by decide +kernel,by decide +kernel⟩
theorem yaS {f:Addr} {fd:FuncData} (D:Def K mg "_law_numbered" Xan ["_law_floor_here","_law_s"] f fd) (T:Txt mg)  :FnOk P w K mg base CX0 1 f fd ["_law_floor_here","_law_s"] (spF K 2 xan):=by
 refine D.F.ok yar (fun vs H Q E h=>h.1) (fun cdv A outer s H vs Q E hr h=>?_)
 have hu:=hr.units
 have hu1:=zaC hr
 refine ⟨_,(@Xab _ _ _ _ _ (@Zag (i:=2) _ _ _ _ _ _ yar.nd rfl (by first | exact Or.inl rfl | exact Or.inr rfl) (@Yaw _ _ _ _ (@zaa _ _ _ _ _ (pv 1) Yaa (by rfl))) (by rfl) (by first | exact .inl rfl | exact .inr rfl | assumption))
  (@Xab _ _ _ _ _ (@ZaC _ _ _ _ _ _ _ _ PassesOwn.never rfl (XaT (Xac (xag rfl) (by rfl) T.n_list yas (@zaa _ _ _ _ _ (Xac ZaA (by rfl) T.n_range Zas (@zaa _ _ _ _ _ (Xaf xad (by rfl) T.n_len Yap (@zaa _ _ _ _ _ (@xah _ _ _ _ _ _ _ Yam (pv 0) Zac (fun _ _=>rfl)) Yaa (by rfl))) Yaa (by rfl))) Yaa (by rfl)))) (xaf (i:=3) yar.nd rfl (by first | exact Or.inl rfl | exact Or.inr rfl)) (@zad _ _ _ (@ZaC _ _ _ _ _ _ _ _ PassesOwn.never rfl (zaU (pv 0)) (xaf (i:=4) yar.nd rfl (by first | exact Or.inl rfl | exact Or.inr rfl)) (@zad _ _ _ (@yaI _ _ _ _ _ _ _ _ (PW.pt (pw_and (zah zbF (pv 3) (Xaf xad (by rfl) T.n_len Yap (@zaa _ _ _ _ _ (pv 2) Yaa (by rfl))) (nomark _)) (YbR (zah YaC (@xah _ _ _ _ _ _ _ Yam (pv 4) (@xah _ _ _ _ _ _ _ xak (pv 2) (pv 3) (fun _ _=>rfl)) (fun _ _=>rfl)) (pv 2) (by with_unfolding_all rfl))))) (@zad _ _ _ (xaF (xaX PySem.F.plainAttrs_list PySem.F.slot_list_append PySem.F.type_list_append xaw (pv 2) (@zaa _ _ _ _ _ (@xah _ _ _ _ _ _ _ Yam (pv 4) (@xah _ _ _ _ _ _ _ xak (pv 2) (pv 3) (fun _ _=>rfl)) (fun _ _=>rfl)) Yaa (by rfl))))) zaq)) (by intro _;rfl))) (by intro _;rfl))
  (@zad _ _ _ (Zaj (Xac Zaf (by rfl) T.n_tuple Xak (@zaa _ _ _ _ _ (zay (own:=["_law_turning_here"]) (fr:=["_law_called"]) (js:=[2]) rfl ⟨⟨rfl,by decide +kernel,by decide +kernel,by dsimp only [cxOf,cxComp,Cx.nox,Cx.wish,PyProof.Rows.envOfC,compEnvC,relabel,Env.kindOf];decide +kernel,by decide +kernel⟩,rfl⟩ (zaU (pv 0)) (fun _ _ _ _ _=>(xaf (i:=0) (show ((["_law_turning_here"]:List Str) ++ (["_law_called"]:List Str)).Nodup by decide +kernel) rfl (by first | exact Or.inl rfl | exact Or.inr rfl))) (fun _ _ _ _ _=>XaH) (fun _ _ _ _ _=>(Xac (YaL (K:=K) rfl) (by rfl) T.n_tuple Xak (@zaa _ _ _ _ _ (zay (own:=["_law_one"]) (fr:=["_law_turning_here","_law_called"]) (js:=[0,1]) rfl ⟨xa0 ⟨rfl,by decide +kernel,by decide +kernel,by dsimp only [cxOf,Cx.nox,Cx.wish,PyProof.Rows.envOfC];decide +kernel,by decide +kernel⟩,rfl⟩ (ybH (K:=K) rfl (pv 1)) (fun _ _ _ _ _=>(xaf (i:=0) (show ((["_law_one"]:List Str) ++ (["_law_turning_here","_law_called"]:List Str)).Nodup by decide +kernel) rfl (by first | exact Or.inl rfl | exact Or.inr rfl))) (fun _ _ _ _ _=>XaH) (fun _ _ _ _ _=>(Ya8 (K:=K) rfl PySem.F.plainAttrs_list PySem.F.slot_list_index PySem.F.type_list_index (Xa0 (K:=K) rfl) (pv 2) (@zaa _ _ _ _ _ (@xah _ _ _ _ _ _ _ (YaP (K:=K) rfl) (pv 1) (pv 0) (fun _ _=>rfl)) Yaa (by rfl))))) Yaa (by rfl))))) Yaa (by rfl))))))),?_⟩
 exact yaC (b:=zau) (zae (zaf (zax (yaa (Zaa 1) xaa)) (Zab 2))
  (zae (XaC (yaO (zag zat (yaa (zag yaJ (yaa (zag Xap (yaa (xac yaj (Zaa 0) (Yac _)) xaa)) xaa)) xaa))) (Zab 3) (XaC (zaM (Zaa 0)) (Zab 4) (xau (so_and (yah (xac ybJ (Zaa 3) (zag Xap (yaa (Zaa 2) xaa)))) (yah (xac (Zbx true) (xac yaj (Zaa 4) (xac Xas (Zaa 2) (Zaa 3))) (Zaa 2)))) (YaG (zaO yax (Zaa 2) (yaa (xac yaj (Zaa 4) (xac Xas (Zaa 2) (Zaa 3))) xaa))) yaq)))
  (Yaj (zag zal (yaa (yat (zaM (Zaa 0)) (Zab 0) yay (zag zal (yaa (yat (yaO (Zaa 1)) (Zab 0) yay (zaO yba (Zaa 2) (yaa (xac yaj (Zaa 1) (Zaa 0)) xaa))) xaa))) xaa))))) rfl h
noncomputable def ZaH:DSt→Dm Fl :=
 (fRet (fCB gMinD (fCons (fComp (iRng1F (fCons (fCB gLen (fCons (fOp gIxT (fVar 0) (fC (.int 0))) fNil)) fNil)) 1 [0] (hName 0) fTrue (fCB xan (fCons (fVar 1) (fCons (fVar 0) fNil)))) fNil)))
noncomputable def xaB:List D→Dm D:=fnF 1 ZaH
noncomputable def XaB:Stmt:=top 20
theorem ybb:FnScope ["_law_floor_here"] ["_law_floor_here"] (defScope XaB):=⟨rfl,rfl,rfl,by decide +kernel,rfl,by decide +kernel,by decide +kernel⟩
theorem Zbb {f:Addr} {fd:FuncData} (D:Def K mg "_law_form" XaB ["_law_floor_here"] f fd) (T:Txt mg)  {f_law_numbered:Addr} {d_law_numbered:FuncData} (D_law_numbered:Def K mg "_law_numbered" Xan ["_law_floor_here","_law_s"] f_law_numbered d_law_numbered) (G_law_numbered:FnOk P w K mg base CX0 1 f_law_numbered d_law_numbered ["_law_floor_here","_law_s"] (spF K 2 xan)):FnOk P w K mg base CX0 2 f fd ["_law_floor_here"] (spF K 1 xaB):=by
 refine D.F.ok ybb (fun vs H Q E h=>h.1) (fun cdv A outer s H vs Q E hr h=>?_)
 have hu:=hr.units
 have hu1:=zaC hr
 refine ⟨_,(@zad _ _ _ (Zaj (Xaf (Xa8 rfl hu) (by rfl) T.n_min xbO (@zaa _ _ _ _ _ (zay (own:=["_law_s"]) (fr:=["_law_floor_here"]) (js:=[0]) rfl ⟨⟨rfl,by decide +kernel,by decide +kernel,by dsimp only [cxOf,cxComp,Cx.nox,Cx.wish,PyProof.Rows.envOfC,compEnvC,relabel,Env.kindOf];decide +kernel,by decide +kernel⟩,rfl⟩ (Zai rfl T.n_range (@zaa _ _ _ _ _ (Xaf xad (by rfl) T.n_len Yap (@zaa _ _ _ _ _ (@xah _ _ _ _ _ _ _ Yam (pv 0) Zac (fun _ _=>rfl)) Yaa (by rfl))) Yaa (by rfl))) (fun _ _ _ _ _=>(xaf (i:=0) (show ((["_law_s"]:List Str) ++ (["_law_floor_here"]:List Str)).Nodup by decide +kernel) rfl (by first | exact Or.inl rfl | exact Or.inr rfl))) (fun _ _ _ _ _=>XaH) (fun _ _ _ _ _=>(Zae G_law_numbered (hr.mono (by decide)) rfl D_law_numbered.m D_law_numbered.F.kp D_law_numbered.b .nil pass0 (@zaa _ _ _ _ _ (pv 1) (@zaa _ _ _ _ _ (pv 0) Yaa (by rfl)) (by rfl))))) Yaa (by rfl))))),?_⟩
 exact yaC (b:=ZaH) (Yaj (zag ybC (yaa (yat (Zam (yaa (zag Xap (yaa (xac yaj (Zaa 0) (Yac _)) xaa)) xaa)) (Zab 0) yay (Yae (F:=xan) (yaa (Zaa 1) (yaa (Zaa 0) xaa)) (yab (yab (fun _ _ _ _ h=>xae h))))) xaa))) rfl h
noncomputable def Zaz:DSt→Dm Fl :=
 (fSeq (fAsg (fOp gRep (fLst (fCons (fC (.int 0)) fNil)) (fCB gLen (fCons (fVar 0) fNil))) (hName 1))
 (fSeq (fFor (iEnumF (fCons (fVar 0) fNil)) (hTup 2 (hCons (hName 2) (hCons (hName 3) hNil))) (fAsg (fVar 2) (hSub (fVar 1) (fVar 3))))
 (fRet (fCB gTuple (fCons (fVar 1) fNil)))))
noncomputable def xai:List D→Dm D:=fnF 4 Zaz
noncomputable def yap:Stmt:=top 2
theorem zaw:FnScope ["turning","back","number","led"] ["turning"] (defScope yap):=⟨rfl,rfl,rfl,by decide +kernel,rfl,by decide +kernel,by decide +kernel⟩
theorem yaY {f:Addr} {fd:FuncData} (D:Def K mg "turned_back" yap ["turning"] f fd) (T:Txt mg)  :FnOk P w K mg base CX0 1 f fd ["turning"] (spF K 1 xai):=by
 refine D.F.ok zaw (fun vs H Q E h=>h.1) (fun cdv A outer s H vs Q E hr h=>?_)
 have hu:=hr.units
 have hu1:=zaC hr
 refine ⟨_,(@Xab _ _ _ _ _ (@Zag (i:=1) _ _ _ _ _ _ zaw.nd rfl (by first | exact Or.inl rfl | exact Or.inr rfl) (Yah op_rep (@Yaw _ _ _ _ (@zaa _ _ _ _ _ Zac Yaa (by rfl))) (Xaf xad (by rfl) T.n_len Yap (@zaa _ _ _ _ _ (pv 0) Yaa (by rfl)))) (by rfl) (by first | exact .inl rfl | exact .inr rfl | assumption))
  (@Xab _ _ _ _ _ (@ZaC _ _ _ _ _ _ _ _ PassesOwn.never rfl (xbT rfl T.n_enumerate (@zaa _ _ _ _ _ (pv 0) Yaa (by rfl))) (XaY (n:=2) rfl (Xao (xaf (i:=2) zaw.nd rfl (by first | exact Or.inl rfl | exact Or.inr rfl)) (Xao (xaf (i:=3) zaw.nd rfl (by first | exact Or.inl rfl | exact Or.inr rfl)) XaO))) (@zad _ _ _ (zaZ (pv 2) (ya6 (pv 1) (pv 3) YaM))) (by intro _;rfl))
  (@zad _ _ _ (Zaj (Xac Zaf (by rfl) T.n_tuple Xak (@zaa _ _ _ _ _ (pv 1) Yaa (by rfl))))))),?_⟩
 exact yaC (b:=Zaz) (zae (zaf (xac so_rep (zax (yaa (Yac _) xaa)) (zag Xap (yaa (Zaa 0) xaa))) (Zab 1))
  (zae (XaC (YbJ (yaa (Zaa 0) xaa)) (ZaQ (zap (Zab 2) (zap (Zab 3) yaQ))) (zaf (Zaa 2) (yaW (Zaa 1) (Zaa 3))))
  (Yaj (zag zal (yaa (Zaa 1) xaa))))) rfl h
noncomputable def yaL:DSt→Dm Fl :=
 (fRet (fCB gTuple (fCons (fComp (iTupF (fVar 0)) 1 [1] (hName 0) fTrue (fOp gIxT (fVar 1) (fVar 0))) fNil)))
noncomputable def zak:List D→Dm D:=fnF 2 yaL
noncomputable def YaF:Stmt:=top 1
theorem ybh:FnScope ["one","other"] ["one","other"] (defScope YaF):=⟨rfl,rfl,rfl,by decide +kernel,rfl,by decide +kernel,by decide +kernel⟩
theorem Zbh {f:Addr} {fd:FuncData} (D:Def K mg "followed" YaF ["one","other"] f fd) (T:Txt mg)  :FnOk P w K mg base CX0 1 f fd ["one","other"] (spF K 2 zak):=by
 refine D.F.ok ybh (fun vs H Q E h=>h.1) (fun cdv A outer s H vs Q E hr h=>?_)
 have hu:=hr.units
 have hu1:=zaC hr
 refine ⟨_,(@zad _ _ _ (Zaj (Xac Zaf (by rfl) T.n_tuple Xak (@zaa _ _ _ _ _ (zay (own:=["number"]) (fr:=["other"]) (js:=[1]) rfl ⟨⟨rfl,by decide +kernel,by decide +kernel,by dsimp only [cxOf,cxComp,Cx.nox,Cx.wish,PyProof.Rows.envOfC,compEnvC,relabel,Env.kindOf];decide +kernel,by decide +kernel⟩,rfl⟩ (zaU (pv 0)) (fun _ _ _ _ _=>(xaf (i:=0) (show ((["number"]:List Str) ++ (["other"]:List Str)).Nodup by decide +kernel) rfl (by first | exact Or.inl rfl | exact Or.inr rfl))) (fun _ _ _ _ _=>XaH) (fun _ _ _ _ _=>(@xah _ _ _ _ _ _ _ (YaP (K:=K) rfl) (pv 1) (pv 0) (fun _ _=>rfl)))) Yaa (by rfl))))),?_⟩
 exact yaC (b:=yaL) (Yaj (zag zal (yaa (yat (zaM (Zaa 0)) (Zab 0) yay (xac yaj (Zaa 1) (Zaa 0))) xaa))) rfl h
noncomputable def Yaz:DSt→Dm Fl :=
 (fSeq (fAsg (fCB xai (fCons (fVar 1) fNil)) (hName 2))
 (fSeq (fAsg (fCB zak (fCons (fCB zak (fCons (fVar 2) (fCons (fOp gIxT (fVar 0) (fC (.int 0))) fNil))) (fCons (fVar 1) fNil))) (hName 3))
 (fSeq (fAsg (fCB zak (fCons (fCB zak (fCons (fVar 2) (fCons (fOp gIxT (fVar 0) (fC (.int 1))) fNil))) (fCons (fVar 1) fNil))) (hName 4))
 (fRet (fTup (fCons (fVar 3) (fCons (fVar 4) fNil)))))))
noncomputable def yau:List D→Dm D:=fnF 5 Yaz
noncomputable def Zau:Stmt:=top 6
theorem yaw:FnScope ["floor","p","back","right","up"] ["floor","p"] (defScope Zau):=⟨rfl,rfl,rfl,by decide +kernel,rfl,by decide +kernel,by decide +kernel⟩
theorem ZaY {f:Addr} {fd:FuncData} (D:Def K mg "called_anew" Zau ["floor","p"] f fd) (T:Txt mg)  {fturned_back:Addr} {dturned_back:FuncData} (Dturned_back:Def K mg "turned_back" yap ["turning"] fturned_back dturned_back) (Gturned_back:FnOk P w K mg base CX0 1 fturned_back dturned_back ["turning"] (spF K 1 xai)) {ffollowed:Addr} {dfollowed:FuncData} (Dfollowed:Def K mg "followed" YaF ["one","other"] ffollowed dfollowed) (Gfollowed:FnOk P w K mg base CX0 1 ffollowed dfollowed ["one","other"] (spF K 2 zak)):FnOk P w K mg base CX0 2 f fd ["floor","p"] (spF K 2 yau):=by
 refine D.F.ok yaw (fun vs H Q E h=>h.1) (fun cdv A outer s H vs Q E hr h=>?_)
 have hu:=hr.units
 have hu1:=zaC hr
 refine ⟨_,(@Xab _ _ _ _ _ (@Zag (i:=2) _ _ _ _ _ _ yaw.nd rfl (by first | exact Or.inl rfl | exact Or.inr rfl) (Zae Gturned_back (hr.mono (by decide)) rfl Dturned_back.m Dturned_back.F.kp Dturned_back.b .nil pass0 (@zaa _ _ _ _ _ (pv 1) Yaa (by rfl))) (by rfl) (by first | exact .inl rfl | exact .inr rfl | assumption))
  (@Xab _ _ _ _ _ (@Zag (i:=3) _ _ _ _ _ _ yaw.nd rfl (by first | exact Or.inl rfl | exact Or.inr rfl) (Zae Gfollowed (hr.mono (by decide)) rfl Dfollowed.m Dfollowed.F.kp Dfollowed.b .nil pass0 (@zaa _ _ _ _ _ (Zae Gfollowed (hr.mono (by decide)) rfl Dfollowed.m Dfollowed.F.kp Dfollowed.b .nil pass0 (@zaa _ _ _ _ _ (pv 2) (@zaa _ _ _ _ _ (@xah _ _ _ _ _ _ _ Yam (pv 0) Zac (fun _ _=>rfl)) Yaa (by rfl)) (by rfl))) (@zaa _ _ _ _ _ (pv 1) Yaa (by rfl)) (by rfl))) (by rfl) (by first | exact .inl rfl | exact .inr rfl | assumption))
  (@Xab _ _ _ _ _ (@Zag (i:=4) _ _ _ _ _ _ yaw.nd rfl (by first | exact Or.inl rfl | exact Or.inr rfl) (Zae Gfollowed (hr.mono (by decide)) rfl Dfollowed.m Dfollowed.F.kp Dfollowed.b .nil pass0 (@zaa _ _ _ _ _ (Zae Gfollowed (hr.mono (by decide)) rfl Dfollowed.m Dfollowed.F.kp Dfollowed.b .nil pass0 (@zaa _ _ _ _ _ (pv 2) (@zaa _ _ _ _ _ (@xah _ _ _ _ _ _ _ Yam (pv 0) Zac (fun _ _=>rfl)) Yaa (by rfl)) (by rfl))) (@zaa _ _ _ _ _ (pv 1) Yaa (by rfl)) (by rfl))) (by rfl) (by first | exact .inl rfl | exact .inr rfl | assumption))
  (@zad _ _ _ (Zaj (zaE (@zaa _ _ _ _ _ (pv 3) (@zaa _ _ _ _ _ (pv 4) Yaa (by rfl)) (by rfl)))))))),?_⟩
 exact yaC (b:=Yaz) (zae (zaf (Yae (F:=xai) (yaa (Zaa 1) xaa) (yab (fun _ _ _ _ h=>xae h))) (Zab 2))
  (zae (zaf (Yae (F:=zak) (yaa (Yae (F:=zak) (yaa (Zaa 2) (yaa (xac yaj (Zaa 0) (Yac _)) xaa)) (yab (yab (fun _ _ _ _ h=>xae h)))) (yaa (Zaa 1) xaa)) (yab (yab (fun _ _ _ _ h=>xae h)))) (Zab 3))
  (zae (zaf (Yae (F:=zak) (yaa (Yae (F:=zak) (yaa (Zaa 2) (yaa (xac yaj (Zaa 0) (Yac _)) xaa)) (yab (yab (fun _ _ _ _ h=>xae h)))) (yaa (Zaa 1) xaa)) (yab (yab (fun _ _ _ _ h=>xae h)))) (Zab 4))
  (Yaj (YaE (yaa (Zaa 3) (yaa (Zaa 4) xaa))))))) rfl h
noncomputable def Zaw:DSt→Dm Fl :=
 (fSeq (fAsg (fLst (fCons (fVar 1) fNil)) (hName 2))
 (fSeq (fAsg (fC (.int 0)) (hName 3))
 (fSeq (fWhile (fTest (fOp gLt (fVar 3) (fCB gLen (fCons (fVar 2) fNil)))) (fSeq (fFor (iTupF (fVar 0)) (hName 4) (fSeq (fAsg (fOp gIxT (fVar 4) (fOp gIxL (fVar 2) (fVar 3))) (hName 5))
 (fIf (fTest (fOp (gIn true) (fVar 5) (fVar 2))) (fDrop (fBM "list" gAppend (fVar 2) (fCons (fVar 5) fNil))) fNext)))
 (fAsg (fOp gAdd (fVar 3) (fC (.int 1))) (hName 3))))
 (fRet (fCB gTuple (fCons (fVar 2) fNil))))))
noncomputable def Xaq:List D→Dm D:=fnF 6 Zaw
noncomputable def zar:Stmt:=top 4
theorem yak:FnScope ["floor","s","squares","place","turning","reached"] ["floor","s"] (defScope zar):=⟨rfl,rfl,rfl,by decide +kernel,rfl,by decide +kernel,by decide +kernel⟩
theorem ZaX {f:Addr} {fd:FuncData} (D:Def K mg "squares_from" zar ["floor","s"] f fd) (T:Txt mg)  :FnOk P w K mg base CX0 1 f fd ["floor","s"] (spF K 2 Xaq):=by
 refine D.F.ok yak (fun vs H Q E h=>h.1) (fun cdv A outer s H vs Q E hr h=>?_)
 have hu:=hr.units
 have hu1:=zaC hr
 refine ⟨_,(@Xab _ _ _ _ _ (@Zag (i:=2) _ _ _ _ _ _ yak.nd rfl (by first | exact Or.inl rfl | exact Or.inr rfl) (@Yaw _ _ _ _ (@zaa _ _ _ _ _ (pv 1) Yaa (by rfl))) (by rfl) (by first | exact .inl rfl | exact .inr rfl | assumption))
  (@Xab _ _ _ _ _ (@Zag (i:=3) _ _ _ _ _ _ yak.nd rfl (by first | exact Or.inl rfl | exact Or.inr rfl) Zac (by rfl) (by first | exact .inl rfl | exact .inr rfl | assumption))
  (@Xab _ _ _ _ _ (XaS PassesOwn.never (zah zbF (pv 3) (Xaf xad (by rfl) T.n_len Yap (@zaa _ _ _ _ _ (pv 2) Yaa (by rfl))) (nomark _)) (@Xab _ _ _ _ _ (@ZaC _ _ _ _ _ _ _ _ PassesOwn.never rfl (zaU (pv 0)) (xaf (i:=4) yak.nd rfl (by first | exact Or.inl rfl | exact Or.inr rfl)) (@Xab _ _ _ _ _ (@Zag (i:=5) _ _ _ _ _ _ yak.nd rfl (by first | exact Or.inl rfl | exact Or.inr rfl) (@xah _ _ _ _ _ _ _ Yam (pv 4) (@xah _ _ _ _ _ _ _ xak (pv 2) (pv 3) (fun _ _=>rfl)) (fun _ _=>rfl)) (by rfl) (by first | exact .inl rfl | exact .inr rfl | assumption))
  (@zad _ _ _ (@yaI _ _ _ _ _ _ _ _ (zah YaC (pv 5) (pv 2) (by with_unfolding_all rfl)) (@zad _ _ _ (xaF (xaX PySem.F.plainAttrs_list PySem.F.slot_list_append PySem.F.type_list_append xaw (pv 2) (@zaa _ _ _ _ _ (pv 5) Yaa (by rfl))))) zaq))) (by intro _;rfl))
  (@zad _ _ _ (@Zag (i:=3) _ _ _ _ _ _ yak.nd rfl (by first | exact Or.inl rfl | exact Or.inr rfl) (Yah Zay (pv 3) Zac) (by rfl) (by first | exact .inl rfl | exact .inr rfl | assumption)))))
  (@zad _ _ _ (Zaj (Xac Zaf (by rfl) T.n_tuple Xak (@zaa _ _ _ _ _ (pv 2) Yaa (by rfl)))))))),?_⟩
 exact yaC (b:=Zaw) (zae (zaf (zax (yaa (Zaa 1) xaa)) (Zab 2))
  (zae (zaf (Yac _) (Zab 3))
  (zae (yaT (yah (xac ybJ (Zaa 3) (zag Xap (yaa (Zaa 2) xaa)))) (zae (XaC (zaM (Zaa 0)) (Zab 4) (zae (zaf (xac yaj (Zaa 4) (xac Xas (Zaa 2) (Zaa 3))) (Zab 5))
  (xau (yah (xac (Zbx true) (Zaa 5) (Zaa 2))) (YaG (zaO yax (Zaa 2) (yaa (Zaa 5) xaa))) yaq)))
  (zaf (xac Yay (Zaa 3) (Yac _)) (Zab 3))))
  (Yaj (zag zal (yaa (Zaa 2) xaa)))))) rfl h
noncomputable def Zar:DSt→Dm Fl :=
 (fRet (fCB xai (fCons (fCB Xaq (fCons (fVar 0) (fCons (fVar 1) fNil))) fNil)))
noncomputable def Zal:List D→Dm D:=fnF 2 Zar
noncomputable def Yal:Stmt:=top 7
theorem xaQ:FnScope ["floor","s"] ["floor","s"] (defScope Yal):=⟨rfl,rfl,rfl,by decide +kernel,rfl,by decide +kernel,by decide +kernel⟩
theorem XaQ {f:Addr} {fd:FuncData} (D:Def K mg "numbering_from" Yal ["floor","s"] f fd) (T:Txt mg)  {fturned_back:Addr} {dturned_back:FuncData} (Dturned_back:Def K mg "turned_back" yap ["turning"] fturned_back dturned_back) (Gturned_back:FnOk P w K mg base CX0 1 fturned_back dturned_back ["turning"] (spF K 1 xai)) {fsquares_from:Addr} {dsquares_from:FuncData} (Dsquares_from:Def K mg "squares_from" zar ["floor","s"] fsquares_from dsquares_from) (Gsquares_from:FnOk P w K mg base CX0 1 fsquares_from dsquares_from ["floor","s"] (spF K 2 Xaq)):FnOk P w K mg base CX0 2 f fd ["floor","s"] (spF K 2 Zal):=by
 refine D.F.ok xaQ (fun vs H Q E h=>h.1) (fun cdv A outer s H vs Q E hr h=>?_)
 have hu:=hr.units
 have hu1:=zaC hr
 refine ⟨_,(@zad _ _ _ (Zaj (Zae Gturned_back (hr.mono (by decide)) rfl Dturned_back.m Dturned_back.F.kp Dturned_back.b .nil pass0 (@zaa _ _ _ _ _ (Zae Gsquares_from (hr.mono (by decide)) rfl Dsquares_from.m Dsquares_from.F.kp Dsquares_from.b .nil pass0 (@zaa _ _ _ _ _ (pv 0) (@zaa _ _ _ _ _ (pv 1) Yaa (by rfl)) (by rfl))) Yaa (by rfl))))),?_⟩
 exact yaC (b:=Zar) (Yaj (Yae (F:=xai) (yaa (Yae (F:=Xaq) (yaa (Zaa 0) (yaa (Zaa 1) xaa)) (yab (yab (fun _ _ _ _ h=>xae h)))) xaa) (yab (fun _ _ _ _ h=>xae h)))) rfl h
noncomputable def Yau:DSt→Dm Fl :=
 (fRet (fCB yau (fCons (fVar 0) (fCons (fCB Zal (fCons (fVar 0) (fCons (fVar 1) fNil))) fNil))))
noncomputable def zao:List D→Dm D:=fnF 2 Yau
noncomputable def yao:Stmt:=top 8
theorem ZaS:FnScope ["floor","s"] ["floor","s"] (defScope yao):=⟨rfl,rfl,rfl,by decide +kernel,rfl,by decide +kernel,by decide +kernel⟩
theorem YaS {f:Addr} {fd:FuncData} (D:Def K mg "numbered_from" yao ["floor","s"] f fd) (T:Txt mg)  {fcalled_anew:Addr} {dcalled_anew:FuncData} (Dcalled_anew:Def K mg "called_anew" Zau ["floor","p"] fcalled_anew dcalled_anew) (Gcalled_anew:FnOk P w K mg base CX0 2 fcalled_anew dcalled_anew ["floor","p"] (spF K 2 yau)) {fnumbering_from:Addr} {dnumbering_from:FuncData} (Dnumbering_from:Def K mg "numbering_from" Yal ["floor","s"] fnumbering_from dnumbering_from) (Gnumbering_from:FnOk P w K mg base CX0 2 fnumbering_from dnumbering_from ["floor","s"] (spF K 2 Zal)):FnOk P w K mg base CX0 3 f fd ["floor","s"] (spF K 2 zao):=by
 refine D.F.ok ZaS (fun vs H Q E h=>h.1) (fun cdv A outer s H vs Q E hr h=>?_)
 have hu:=hr.units
 have hu1:=zaC hr
 refine ⟨_,(@zad _ _ _ (Zaj (Zae Gcalled_anew (hr.mono (by decide)) rfl Dcalled_anew.m Dcalled_anew.F.kp Dcalled_anew.b .nil pass0 (@zaa _ _ _ _ _ (pv 0) (@zaa _ _ _ _ _ (Zae Gnumbering_from (hr.mono (by decide)) rfl Dnumbering_from.m Dnumbering_from.F.kp Dnumbering_from.b .nil pass0 (@zaa _ _ _ _ _ (pv 0) (@zaa _ _ _ _ _ (pv 1) Yaa (by rfl)) (by rfl))) Yaa (by rfl)) (by rfl))))),?_⟩
 exact yaC (b:=Yau) (Yaj (Yae (F:=yau) (yaa (Zaa 0) (yaa (Yae (F:=Zal) (yaa (Zaa 0) (yaa (Zaa 1) xaa)) (yab (yab (fun _ _ _ _ h=>xae h)))) xaa)) (yab (yab (fun _ _ _ _ h=>xae h))))) rfl h
noncomputable def ZaO:DSt→Dm Fl :=
 (fRet (fCB gMinD (fCons (fComp (iRng1F (fCons (fCB gLen (fCons (fOp gIxT (fVar 0) (fC (.int 0))) fNil)) fNil)) 1 [0] (hName 0) fTrue (fCB zao (fCons (fVar 1) (fCons (fVar 0) fNil)))) fNil)))
noncomputable def Zao:List D→Dm D:=fnF 1 ZaO
noncomputable def xaJ:Stmt:=top 9
theorem zbp:FnScope ["floor"] ["floor"] (defScope xaJ):=⟨rfl,rfl,rfl,by decide +kernel,rfl,by decide +kernel,by decide +kernel⟩
theorem ybp {f:Addr} {fd:FuncData} (D:Def K mg "form_of" xaJ ["floor"] f fd) (T:Txt mg)  {fnumbered_from:Addr} {dnumbered_from:FuncData} (Dnumbered_from:Def K mg "numbered_from" yao ["floor","s"] fnumbered_from dnumbered_from) (Gnumbered_from:FnOk P w K mg base CX0 3 fnumbered_from dnumbered_from ["floor","s"] (spF K 2 zao)):FnOk P w K mg base CX0 4 f fd ["floor"] (spF K 1 Zao):=by
 refine D.F.ok zbp (fun vs H Q E h=>h.1) (fun cdv A outer s H vs Q E hr h=>?_)
 have hu:=hr.units
 have hu1:=zaC hr
 refine ⟨_,(@zad _ _ _ (Zaj (Xaf (Xa8 rfl hu) (by rfl) T.n_min xbO (@zaa _ _ _ _ _ (zay (own:=["s"]) (fr:=["floor"]) (js:=[0]) rfl ⟨⟨rfl,by decide +kernel,by decide +kernel,by dsimp only [cxOf,cxComp,Cx.nox,Cx.wish,PyProof.Rows.envOfC,compEnvC,relabel,Env.kindOf];decide +kernel,by decide +kernel⟩,rfl⟩ (Zai rfl T.n_range (@zaa _ _ _ _ _ (Xaf xad (by rfl) T.n_len Yap (@zaa _ _ _ _ _ (@xah _ _ _ _ _ _ _ Yam (pv 0) Zac (fun _ _=>rfl)) Yaa (by rfl))) Yaa (by rfl))) (fun _ _ _ _ _=>(xaf (i:=0) (show ((["s"]:List Str) ++ (["floor"]:List Str)).Nodup by decide +kernel) rfl (by first | exact Or.inl rfl | exact Or.inr rfl))) (fun _ _ _ _ _=>XaH) (fun _ _ _ _ _=>(Zae Gnumbered_from (hr.mono (by decide)) rfl Dnumbered_from.m Dnumbered_from.F.kp Dnumbered_from.b .nil pass0 (@zaa _ _ _ _ _ (pv 1) (@zaa _ _ _ _ _ (pv 0) Yaa (by rfl)) (by rfl))))) Yaa (by rfl))))),?_⟩
 exact yaC (b:=ZaO) (Yaj (zag ybC (yaa (yat (Zam (yaa (zag Xap (yaa (xac yaj (Zaa 0) (Yac _)) xaa)) xaa)) (Zab 0) yay (Yae (F:=zao) (yaa (Zaa 1) (yaa (Zaa 0) xaa)) (yab (yab (fun _ _ _ _ h=>xae h))))) xaa))) rfl h
noncomputable def YaH:DSt→Dm Fl :=
 (fRet (fCB gTuple (fCons (fComp (iTupF (fVar 0)) 1 [1] (hName 0) fTrue (fCB gTuple (fCons (fComp (iRng1F (fCons (fCB gLen (fCons (fVar 1) fNil)) fNil)) 1 [0,1] (hName 0) fTrue (fOp gIxA (fVar 2) (fOp gIxT (fVar 1) (fIndexA 2 (fCons (fVar 0) fNil))))) fNil))) fNil)))
noncomputable def yal:List D→Dm D:=fnF 2 YaH
noncomputable def zav:Stmt:=top 22
theorem Ybb:FnScope ["_law_floor_here","_law_p"] ["_law_floor_here","_law_p"] (defScope zav):=⟨rfl,rfl,rfl,by decide +kernel,rfl,by decide +kernel,by decide +kernel⟩
theorem xbb {f:Addr} {fd:FuncData} (D:Def K mg "_law_anew" zav ["_law_floor_here","_law_p"] f fd) (T:Txt mg)  :FnOk P w K mg base CX0 1 f fd ["_law_floor_here","_law_p"] (spF K 2 yal):=by
 refine D.F.ok Ybb (fun vs H Q E h=>h.1) (fun cdv A outer s H vs Q E hr h=>?_)
 have hu:=hr.units
 have hu1:=zaC hr
 refine ⟨_,(@zad _ _ _ (Zaj (Xac Zaf (by rfl) T.n_tuple Xak (@zaa _ _ _ _ _ (zay (own:=["_law_turning_here"]) (fr:=["_law_p"]) (js:=[1]) rfl ⟨⟨rfl,by decide +kernel,by decide +kernel,by dsimp only [cxOf,cxComp,Cx.nox,Cx.wish,PyProof.Rows.envOfC,compEnvC,relabel,Env.kindOf];decide +kernel,by decide +kernel⟩,rfl⟩ (zaU (pv 0)) (fun _ _ _ _ _=>(xaf (i:=0) (show ((["_law_turning_here"]:List Str) ++ (["_law_p"]:List Str)).Nodup by decide +kernel) rfl (by first | exact Or.inl rfl | exact Or.inr rfl))) (fun _ _ _ _ _=>XaH) (fun _ _ _ _ _=>(Xac (YaL (K:=K) rfl) (by rfl) T.n_tuple Xak (@zaa _ _ _ _ _ (zay (own:=["_law_s"]) (fr:=["_law_turning_here","_law_p"]) (js:=[0,1]) rfl ⟨xa0 ⟨rfl,by decide +kernel,by decide +kernel,by dsimp only [cxOf,Cx.nox,Cx.wish,PyProof.Rows.envOfC];decide +kernel,by decide +kernel⟩,rfl⟩ (Zai rfl T.n_range (@zaa _ _ _ _ _ (Xaf (ya2 (K:=K) rfl) (by rfl) T.n_len Yap (@zaa _ _ _ _ _ (pv 1) Yaa (by rfl))) Yaa (by rfl))) (fun _ _ _ _ _=>(xaf (i:=0) (show ((["_law_s"]:List Str) ++ (["_law_turning_here","_law_p"]:List Str)).Nodup by decide +kernel) rfl (by first | exact Or.inl rfl | exact Or.inr rfl))) (fun _ _ _ _ _=>XaH) (fun _ _ _ _ _=>(@xah _ _ _ _ _ _ _ (IxR.or (YaP (K:=K) rfl) (zbH (K:=K) rfl)) (pv 2) (@xah _ _ _ _ _ _ _ (YaP (K:=K) rfl) (pv 1) (pe_alt (Ya8 (K:=K) rfl PySem.F.plainAttrs_tuple PySem.F.slot_tuple_index PySem.F.type_tuple_index (xaU (K:=K) rfl) (pv 2) (@zaa _ _ _ _ _ (pv 0) Yaa (by rfl))) (Ya8 (K:=K) rfl PySem.F.plainAttrs_list PySem.F.slot_list_index PySem.F.type_list_index (Xa0 (K:=K) rfl) (pv 2) (@zaa _ _ _ _ _ (pv 0) Yaa (by rfl)))) (fun _ _=>rfl)) (fun _ _=>rfl)))) Yaa (by rfl))))) Yaa (by rfl))))),?_⟩
 exact yaC (b:=YaH) (Yaj (zag zal (yaa (yat (zaM (Zaa 0)) (Zab 0) yay (zag zal (yaa (yat (Zam (yaa (zag Xap (yaa (Zaa 1) xaa)) xaa)) (Zab 0) yay (xac so_ixA (Zaa 2) (xac yaj (Zaa 1) (so_alt (zaO za4 (Zaa 2) (yaa (Zaa 0) xaa)) (zaO yba (Zaa 2) (yaa (Zaa 0) xaa)))))) xaa))) xaa))) rfl h
noncomputable def Xar:DSt→Dm Fl :=
 (fSeq (fIf (fTest (fOp (gEq true) (fCB gLen (fCons (fOp gIxT (fVar 0) (fC (.int 0))) fNil)) (fCB gLen (fCons (fOp gIxT (fVar 1) (fC (.int 0))) fNil)))) (fRet (fC (.bl false))) fNext)
 (fSeq (fFor (iRng1F (fCons (fCB gLen (fCons (fOp gIxT (fVar 0) (fC (.int 0))) fNil)) fNil)) (hName 2) (fSeq (fAsg (fDisp (fPCons (fC (.int 0)) (fVar 2) fPNil)) (hName 3))
 (fSeq (fFor (iListF (fCB zai (fCons (fVar 0) fNil))) (hName 4) (fFor (iZipF (fCons (fVar 0) (fCons (fVar 1) fNil))) (hTup 2 (hCons (hName 5) (hCons (hName 6) hNil))) (fDrop (fDSet2 (fVar 3) (fOp gIxT (fVar 5) (fVar 4)) (fOp gIxT (fVar 6) (fDGet (fVar 3) (fVar 4)))))))
 (fIf (fTest (fOp (gEqD false) (fSortV (fVar 3)) (fCB gListR (fCons (fCB gRange1 (fCons (fCB gLen (fCons (fOp gIxT (fVar 0) (fC (.int 0))) fNil)) fNil)) fNil)))) (fIf (fTest (fOp (gEqD false) (fCB yal (fCons (fVar 0) (fCons (fComp (iRng1F (fCons (fCB gLen (fCons (fOp gIxT (fVar 0) (fC (.int 0))) fNil)) fNil)) 1 [3] (hName 0) fTrue (fDGet (fVar 1) (fVar 0))) fNil))) (fVar 1))) (fRet (fC (.bl true))) fNext) fNext))))
 (fRet (fC (.bl false)))))
noncomputable def zas:List D→Dm D:=fnF 7 Xar
noncomputable def Yax:Stmt:=top 23
theorem Zap:FnScope ["_law_one","_law_other","_law_first","_law_called","_law_s","_law_turning_here","_law_there"] ["_law_one","_law_other"] (defScope Yax):=⟨rfl,rfl,rfl,by decide +kernel,rfl,by decide +kernel,by decide +kernel⟩
theorem za5 {f:Addr} {fd:FuncData} (D:Def K mg "_law_alike" Yax ["_law_one","_law_other"] f fd) (T:Txt mg)  {f_law_met:Addr} {d_law_met:FuncData} (D_law_met:Def K mg "_law_met" yaA ["_law_floor_here"] f_law_met d_law_met) (G_law_met:FnOk P w K mg base CX0 1 f_law_met d_law_met ["_law_floor_here"] (spF K 1 zai)) {f_law_anew:Addr} {d_law_anew:FuncData} (D_law_anew:Def K mg "_law_anew" zav ["_law_floor_here","_law_p"] f_law_anew d_law_anew) (G_law_anew:FnOk P w K mg base CX0 1 f_law_anew d_law_anew ["_law_floor_here","_law_p"] (spF K 2 yal)):FnOk P w K mg base CX0 2 f fd ["_law_one","_law_other"] (spF K 2 zas):=by
 refine D.F.ok Zap (fun vs H Q E h=>h.1) (fun cdv A outer s H vs Q E hr h=>?_)
 have hu:=hr.units
 have hu1:=zaC hr
 refine ⟨_,(@Xab _ _ _ _ _ (@yaI _ _ _ _ _ _ _ _ (zah XbR (Xaf xad (by rfl) T.n_len Yap (@zaa _ _ _ _ _ (@xah _ _ _ _ _ _ _ Yam (pv 0) Zac (fun _ _=>rfl)) Yaa (by rfl))) (Xaf xad (by rfl) T.n_len Yap (@zaa _ _ _ _ _ (@xah _ _ _ _ _ _ _ Yam (pv 1) Zac (fun _ _=>rfl)) Yaa (by rfl))) (nomark _)) (@zad _ _ _ (Zaj xbE)) zaq)
  (@Xab _ _ _ _ _ (@ZaC _ _ _ _ _ _ _ _ PassesOwn.never rfl (Zai rfl T.n_range (@zaa _ _ _ _ _ (Xaf xad (by rfl) T.n_len Yap (@zaa _ _ _ _ _ (@xah _ _ _ _ _ _ _ Yam (pv 0) Zac (fun _ _=>rfl)) Yaa (by rfl))) Yaa (by rfl))) (xaf (i:=2) Zap.nd rfl (by first | exact Or.inl rfl | exact Or.inr rfl)) (@Xab _ _ _ _ _ (@Zag (i:=3) _ _ _ _ _ _ Zap.nd rfl (by first | exact Or.inl rfl | exact Or.inr rfl) (@ZbT _ _ _ _ _ (@ybG _ _ _ _ _ _ _ _ _ Zac (pv 2) ybT) rfl rfl (by decide) (by decide)) (by rfl) (by first | exact .inl rfl | exact .inr rfl | assumption))
  (@Xab _ _ _ _ _ (@ZaC _ _ _ _ _ _ _ _ PassesOwn.never rfl (XaT (Zae G_law_met (hr.mono (by decide)) rfl D_law_met.m D_law_met.F.kp D_law_met.b .nil pass0 (@zaa _ _ _ _ _ (pv 0) Yaa (by rfl)))) (xaf (i:=4) Zap.nd rfl (by first | exact Or.inl rfl | exact Or.inr rfl)) (@zad _ _ _ (@ZaC _ _ _ _ _ _ _ _ PassesOwn.never rfl (pi_zip rfl T.n_zip (@zaa _ _ _ _ _ (pv 0) (@zaa _ _ _ _ _ (pv 1) Yaa (by rfl)) (by rfl))) (XaY (n:=2) rfl (Xao (xaf (i:=5) Zap.nd rfl (by first | exact Or.inl rfl | exact Or.inr rfl)) (Xao (xaf (i:=6) Zap.nd rfl (by first | exact Or.inl rfl | exact Or.inr rfl)) XaO))) (@zad _ _ _ (xaF (XbH (pv 3) (@xah _ _ _ _ _ _ _ Yam (pv 5) (pv 4) (fun _ _=>rfl)) (@xah _ _ _ _ _ _ _ Yam (pv 6) (ybt hu1 (pv 3) (pv 4) (fun _ _=>rfl)) (fun _ _=>rfl)) ⟨rfl,rfl,rfl,rfl⟩))) (by intro _;rfl))) (by intro _;rfl))
  (@zad _ _ _ (@yaI _ _ _ _ _ _ _ _ (zah (zbu hu) (zbI rfl rfl T.n_sorted (pv 3)) (Xac (xag rfl) (by rfl) T.n_list yas (@zaa _ _ _ _ _ (Xac ZaA (by rfl) T.n_range Zas (@zaa _ _ _ _ _ (Xaf xad (by rfl) T.n_len Yap (@zaa _ _ _ _ _ (@xah _ _ _ _ _ _ _ Yam (pv 0) Zac (fun _ _=>rfl)) Yaa (by rfl))) Yaa (by rfl))) Yaa (by rfl))) (nomark _)) (@zad _ _ _ (@yaI _ _ _ _ _ _ _ _ (zah (zbu hu) (Zae G_law_anew (hr.mono (by decide)) rfl D_law_anew.m D_law_anew.F.kp D_law_anew.b .nil pass0 (@zaa _ _ _ _ _ (pv 0) (@zaa _ _ _ _ _ (zay (own:=["_law_s"]) (fr:=["_law_called"]) (js:=[3]) rfl ⟨⟨rfl,by decide +kernel,by decide +kernel,by dsimp only [cxOf,cxComp,Cx.nox,Cx.wish,PyProof.Rows.envOfC,compEnvC,relabel,Env.kindOf];decide +kernel,by decide +kernel⟩,rfl⟩ (Zai rfl T.n_range (@zaa _ _ _ _ _ (Xaf xad (by rfl) T.n_len Yap (@zaa _ _ _ _ _ (@xah _ _ _ _ _ _ _ Yam (pv 0) Zac (fun _ _=>rfl)) Yaa (by rfl))) Yaa (by rfl))) (fun _ _ _ _ _=>(xaf (i:=0) (show ((["_law_s"]:List Str) ++ (["_law_called"]:List Str)).Nodup by decide +kernel) rfl (by first | exact Or.inl rfl | exact Or.inr rfl))) (fun _ _ _ _ _=>XaH) (fun _ _ _ _ _=>(ybt hu1 (pv 1) (pv 0) (fun _ _=>rfl)))) Yaa (by rfl)) (by rfl))) (pv 1) (nomark _)) (@zad _ _ _ (Zaj xbE)) zaq)) zaq)))) (by intro _;rfl))
  (@zad _ _ _ (Zaj xbE)))),?_⟩
 exact yaC (b:=Xar) (zae (xau (yah (xac xbW (zag Xap (yaa (xac yaj (Zaa 0) (Yac _)) xaa)) (zag Xap (yaa (xac yaj (Zaa 1) (Yac _)) xaa)))) (Yaj (XbI _)) yaq)
  (zae (XaC (Zam (yaa (zag Xap (yaa (xac yaj (Zaa 0) (Yac _)) xaa)) xaa)) (Zab 2) (zae (zaf (ZbZ (ybK (Yac _) (Zaa 2) zbZ)) (Zab 3))
  (zae (XaC (yaO (Yae (F:=zai) (yaa (Zaa 0) xaa) (yab (fun _ _ _ _ h=>xae h)))) (Zab 4) (XaC (Xb1 (yaa (Zaa 0) (yaa (Zaa 1) xaa))) (ZaQ (zap (Zab 5) (zap (Zab 6) yaQ))) (YaG (XbL (Zaa 3) (xac yaj (Zaa 5) (Zaa 4)) (xac yaj (Zaa 6) (Xby (Zaa 3) (Zaa 4)))))))
  (xau (yah (xac (zaW false) (ybM (Zaa 3)) (zag zat (yaa (zag yaJ (yaa (zag Xap (yaa (xac yaj (Zaa 0) (Yac _)) xaa)) xaa)) xaa)))) (xau (yah (xac (zaW false) (Yae (F:=yal) (yaa (Zaa 0) (yaa (yat (Zam (yaa (zag Xap (yaa (xac yaj (Zaa 0) (Yac _)) xaa)) xaa)) (Zab 0) yay (Xby (Zaa 1) (Zaa 0))) xaa)) (yab (yab (fun _ _ _ _ h=>xae h)))) (Zaa 1))) (Yaj (XbI _)) yaq) yaq))))
  (Yaj (XbI _)))) rfl h
noncomputable def ZaD:DSt→Dm Fl :=
 (fSeq (fAsg (fCB xaB (fCons (fVar 0) fNil)) (hName 3))
 (fSeq (fAsg (fCB Zao (fCons (fVar 0) fNil)) (hName 4))
 (fSeq (fIf (fOr (fTest (fOp (gEq true) (fCB gRepr (fCons (fVar 4) fNil)) (fCB gRepr (fCons (fVar 3) fNil)))) (fOr (fTest (fOp (gEqD true) (fCB Zao (fCons (fVar 4) fNil)) (fVar 3))) (fTest (fOp (gEqD true) (fCB Zao (fCons (fCB yal (fCons (fVar 0) (fCons (fVar 1) fNil))) fNil)) (fVar 3))))) (fRet (fC (.bl false))) fNext)
 (fRet (fOp (gEq false) (fOp (gEqD false) (fCB Zao (fCons (fVar 2) fNil)) (fVar 4)) (fCB zas (fCons (fVar 0) (fCons (fVar 2) fNil))))))))
noncomputable def xax:List D→Dm D:=fnF 5 ZaD
noncomputable def Xax:Stmt:=top 24
theorem xaH:FnScope ["_law_floor_here","_law_p","_law_other","_law_due","_law_found"] ["_law_floor_here","_law_p","_law_other"] (defScope Xax):=⟨rfl,rfl,rfl,by decide +kernel,rfl,by decide +kernel,by decide +kernel⟩
theorem ya5 {f:Addr} {fd:FuncData} (D:Def K mg "_law_right" Xax ["_law_floor_here","_law_p","_law_other"] f fd) (T:Txt mg)  {f_law_form:Addr} {d_law_form:FuncData} (D_law_form:Def K mg "_law_form" XaB ["_law_floor_here"] f_law_form d_law_form) (G_law_form:FnOk P w K mg base CX0 2 f_law_form d_law_form ["_law_floor_here"] (spF K 1 xaB)) {fform_of:Addr} {dform_of:FuncData} (Dform_of:Def K mg "form_of" xaJ ["floor"] fform_of dform_of) (Gform_of:FnOk P w K mg base CX0 4 fform_of dform_of ["floor"] (spF K 1 Zao)) {f_law_alike:Addr} {d_law_alike:FuncData} (D_law_alike:Def K mg "_law_alike" Yax ["_law_one","_law_other"] f_law_alike d_law_alike) (G_law_alike:FnOk P w K mg base CX0 2 f_law_alike d_law_alike ["_law_one","_law_other"] (spF K 2 zas)) {f_law_anew:Addr} {d_law_anew:FuncData} (D_law_anew:Def K mg "_law_anew" zav ["_law_floor_here","_law_p"] f_law_anew d_law_anew) (G_law_anew:FnOk P w K mg base CX0 1 f_law_anew d_law_anew ["_law_floor_here","_law_p"] (spF K 2 yal)):FnOk P w K mg base CX0 5 f fd ["_law_floor_here","_law_p","_law_other"] (spF K 3 xax):=by
 refine D.F.ok xaH (fun vs H Q E h=>h.1) (fun cdv A outer s H vs Q E hr h=>?_)
 have hu:=hr.units
 have hu1:=zaC hr
 refine ⟨_,(@Xab _ _ _ _ _ (@Zag (i:=3) _ _ _ _ _ _ xaH.nd rfl (by first | exact Or.inl rfl | exact Or.inr rfl) (Zae G_law_form (hr.mono (by decide)) rfl D_law_form.m D_law_form.F.kp D_law_form.b .nil pass0 (@zaa _ _ _ _ _ (pv 0) Yaa (by rfl))) (by rfl) (by first | exact .inl rfl | exact .inr rfl | assumption))
  (@Xab _ _ _ _ _ (@Zag (i:=4) _ _ _ _ _ _ xaH.nd rfl (by first | exact Or.inl rfl | exact Or.inr rfl) (Zae Gform_of (hr.mono (by decide)) rfl Dform_of.m Dform_of.F.kp Dform_of.b .nil pass0 (@zaa _ _ _ _ _ (pv 0) Yaa (by rfl))) (by rfl) (by first | exact .inl rfl | exact .inr rfl | assumption))
  (@Xab _ _ _ _ _ (@yaI _ _ _ _ _ _ _ _ (PW.pt (pw_or (zah XbR (Xaf (za0 hr) (by rfl) T.n_repr Xbt (@zaa _ _ _ _ _ (pv 4) Yaa (by rfl))) (Xaf (za0 hr) (by rfl) T.n_repr Xbt (@zaa _ _ _ _ _ (pv 3) Yaa (by rfl))) (nomark _)) (pw_or (zah (Xbi hu) (Zae Gform_of (hr.mono (by decide)) rfl Dform_of.m Dform_of.F.kp Dform_of.b .nil pass0 (@zaa _ _ _ _ _ (pv 4) Yaa (by rfl))) (pv 3) (nomark _)) (pw_or1 (zah (Xbi hu) (Zae Gform_of (hr.mono (by decide)) rfl Dform_of.m Dform_of.F.kp Dform_of.b .nil pass0 (@zaa _ _ _ _ _ (Zae G_law_anew (hr.mono (by decide)) rfl D_law_anew.m D_law_anew.F.kp D_law_anew.b .nil pass0 (@zaa _ _ _ _ _ (pv 0) (@zaa _ _ _ _ _ (pv 1) Yaa (by rfl)) (by rfl))) Yaa (by rfl))) (pv 3) (nomark _)))))) (@zad _ _ _ (Zaj xbE)) zaq)
  (@zad _ _ _ (Zaj (ybs ybd (ybs (zbu hu) (Zae Gform_of (hr.mono (by decide)) rfl Dform_of.m Dform_of.F.kp Dform_of.b .nil pass0 (@zaa _ _ _ _ _ (pv 2) Yaa (by rfl))) (pv 4) (nomark _)) (Zae G_law_alike (hr.mono (by decide)) rfl D_law_alike.m D_law_alike.F.kp D_law_alike.b .nil pass0 (@zaa _ _ _ _ _ (pv 0) (@zaa _ _ _ _ _ (pv 2) Yaa (by rfl)) (by rfl))) (nomark _))))))),?_⟩
 exact yaC (b:=ZaD) (zae (zaf (Yae (F:=xaB) (yaa (Zaa 0) xaa) (yab (fun _ _ _ _ h=>xae h))) (Zab 3))
  (zae (zaf (Yae (F:=Zao) (yaa (Zaa 0) xaa) (yab (fun _ _ _ _ h=>xae h))) (Zab 4))
  (zae (xau (so_or (yah (xac xbW (zag xbx (yaa (Zaa 4) xaa)) (zag xbx (yaa (Zaa 3) xaa)))) (so_or (yah (xac (zaW true) (Yae (F:=Zao) (yaa (Zaa 4) xaa) (yab (fun _ _ _ _ h=>xae h))) (Zaa 3))) (yah (xac (zaW true) (Yae (F:=Zao) (yaa (Yae (F:=yal) (yaa (Zaa 0) (yaa (Zaa 1) xaa)) (yab (yab (fun _ _ _ _ h=>xae h)))) xaa) (yab (fun _ _ _ _ h=>xae h))) (Zaa 3))))) (Yaj (XbI _)) yaq)
  (Yaj (xac Zbf (xac (zaW false) (Yae (F:=Zao) (yaa (Zaa 2) xaa) (yab (fun _ _ _ _ h=>xae h))) (Zaa 4)) (Yae (F:=zas) (yaa (Zaa 0) (yaa (Zaa 2) xaa)) (yab (yab (fun _ _ _ _ h=>xae h))))))))) rfl h
noncomputable def YbM:DSt→Dm Fl :=
 (fSeq (fAsg (fLst fNil) (hName 1))
 (fSeq (fFor (iRng1F (fCons (fCB gMax2 (fCons (fC (.int 1)) (fCons (fCB gLen (fCons (fSl gSlL (fVar 0) fNoPart (fPart (fC (.int 3)))) fNil)) fNil))) fNil)) (hName 2) (fSeq (fAsg (fCB XaA (fCons (fVar 0) (fCons (fVar 2) fNil))) (hName 3))
 (fSeq (fAsg (fOp gAdd (fC (.int 1)) (fCB Yad (fCons (fVar 3) (fCons (fC (.int 8)) fNil)))) (hName 4))
 (fSeq (fPar 5 6 (fCons (fCB Yan (fCons (fVar 3) (fCons (fVar 4) fNil))) (fCons (fCB Yag (fCons (fVar 3) (fCons (fVar 4) fNil))) fNil)))
 (fSeq (fAsg (fCB yaF (fCons (fVar 5) (fCons (fCB ZaB (fCons (fVar 3) (fCons (fC (.int 3)) (fCons (fC (.int 6)) fNil)))) fNil))) (hName 7))
 (fSeq (fDrop (fBM "list" gAppend (fVar 1) (fCons (fTup (fCons (fVar 5) (fCons (fVar 6) (fCons (fVar 7) fNil)))) fNil)))
 (fDrop (fBM "list" gAppend (fVar 1) (fCons (fTup (fCons (fVar 7) (fCons (fVar 6) (fCons (fCB Yan (fCons (fVar 3) (fCons (fOp gIxL (fLst (fCons (fVar 4) (fCons (fOp gAdd (fC (.int 1)) (fCB Yad (fCons (fVar 3) (fCons (fC (.int 8)) fNil)))) fNil))) (fCB Yad (fCons (fVar 3) (fCons (fC (.int 2)) fNil)))) fNil))) fNil)))) fNil)))))))))
 (fRet (fCB gAll (fCons (fComp (iListF (fOp gCat (fVar 1) (fSl gSlL (fVar 1) fNoPart (fPart (fC (.int 1)))))) 3 [] (hTup 3 (hCons (hName 0) (hCons (hName 1) (hCons (hName 2) hNil)))) fTrue (fCB xax (fCons (fVar 0) (fCons (fVar 1) (fCons (fVar 2) fNil))))) fNil)))))
noncomputable def Zb3:List D→Dm D:=fnF 8 YbM
noncomputable def xbM:Stmt:=top 25
theorem YaX:FnScope ["_law_script","_law_asked","_law_k","_law_feed_here","_law_n","_law_floor_here","_law_p","_law_led_here"] ["_law_script"] (defScope xbM):=⟨rfl,rfl,rfl,by decide +kernel,rfl,by decide +kernel,by decide +kernel⟩
theorem ok_law {f:Addr} {fd:FuncData} (D:Def K mg "law" xbM ["_law_script"] f fd) (T:Txt mg)  {f_law_feed:Addr} {d_law_feed:FuncData} (D_law_feed:Def K mg "_law_feed" zaB ["_law_script","_law_k"] f_law_feed d_law_feed) (G_law_feed:FnOk P w K mg base CX0 1 f_law_feed d_law_feed ["_law_script","_law_k"] (spF K 2 XaA)) {f_law_led:Addr} {d_law_led:FuncData} (D_law_led:Def K mg "_law_led" ZaF ["_law_floor_here","_law_word_here"] f_law_led d_law_led) (G_law_led:FnOk P w K mg base CX0 3 f_law_led d_law_led ["_law_floor_here","_law_word_here"] (spF K 2 yaF)) {f_law_take:Addr} {d_law_take:FuncData} (D_law_take:Def K mg "_law_take" Zan ["_law_feed_here","_law_many"] f_law_take d_law_take) (G_law_take:FnOk P w K mg base CX0 1 f_law_take d_law_take ["_law_feed_here","_law_many"] (spF K 2 Yad)) {f_law_floor:Addr} {d_law_floor:FuncData} (D_law_floor:Def K mg "_law_floor" Zax ["_law_feed_here","_law_n"] f_law_floor d_law_floor) (G_law_floor:FnOk P w K mg base CX0 3 f_law_floor d_law_floor ["_law_feed_here","_law_n"] (spF K 2 Yan)) {f_law_turning:Addr} {d_law_turning:FuncData} (D_law_turning:Def K mg "_law_turning" Xal ["_law_feed_here","_law_n"] f_law_turning d_law_turning) (G_law_turning:FnOk P w K mg base CX0 2 f_law_turning d_law_turning ["_law_feed_here","_law_n"] (spF K 2 Yag)) {f_law_word:Addr} {d_law_word:FuncData} (D_law_word:Def K mg "_law_word" YaB ["_law_feed_here","_law_most","_law_great"] f_law_word d_law_word) (G_law_word:FnOk P w K mg base CX0 2 f_law_word d_law_word ["_law_feed_here","_law_most","_law_great"] (spF K 3 ZaB)) {f_law_right:Addr} {d_law_right:FuncData} (D_law_right:Def K mg "_law_right" Xax ["_law_floor_here","_law_p","_law_other"] f_law_right d_law_right) (G_law_right:FnOk P w K mg base CX0 5 f_law_right d_law_right ["_law_floor_here","_law_p","_law_other"] (spF K 3 xax)):FnOk P w K mg base CX0 6 f fd ["_law_script"] (spF K 1 Zb3):=by
 refine D.F.ok YaX (fun vs H Q E h=>h.1) (fun cdv A outer s H vs Q E hr h=>?_)
 have hu:=hr.units
 have hu1:=zaC hr
 refine ⟨_,(@Xab _ _ _ _ _ (@Zag (i:=1) _ _ _ _ _ _ YaX.nd rfl (by first | exact Or.inl rfl | exact Or.inr rfl) (@Yaw _ _ _ _ Yaa) (by rfl) (by first | exact .inl rfl | exact .inr rfl | assumption))
  (@Xab _ _ _ _ _ (@ZaC _ _ _ _ _ _ _ _ PassesOwn.never rfl (Zai rfl T.n_range (@zaa _ _ _ _ _ (Xaf (Zbs rfl) (by rfl) T.n_max bt_max (@zaa _ _ _ _ _ Zac (@zaa _ _ _ _ _ (Xaf xad (by rfl) T.n_len Yap (@zaa _ _ _ _ _ (Za1 zbe (pv 0) Zbd (Ybd Zac)) Yaa (by rfl))) Yaa (by rfl)) (by rfl))) Yaa (by rfl))) (xaf (i:=2) YaX.nd rfl (by first | exact Or.inl rfl | exact Or.inr rfl)) (@Xab _ _ _ _ _ (@Zag (i:=3) _ _ _ _ _ _ YaX.nd rfl (by first | exact Or.inl rfl | exact Or.inr rfl) (Zae G_law_feed (hr.mono (by decide)) rfl D_law_feed.m D_law_feed.F.kp D_law_feed.b .nil pass0 (@zaa _ _ _ _ _ (pv 0) (@zaa _ _ _ _ _ (pv 2) Yaa (by rfl)) (by rfl))) (by rfl) (by first | exact .inl rfl | exact .inr rfl | assumption))
  (@Xab _ _ _ _ _ (@Zag (i:=4) _ _ _ _ _ _ YaX.nd rfl (by first | exact Or.inl rfl | exact Or.inr rfl) (Yah Zay Zac (Zae G_law_take (hr.mono (by decide)) rfl D_law_take.m D_law_take.F.kp D_law_take.b .nil pass0 (@zaa _ _ _ _ _ (pv 3) (@zaa _ _ _ _ _ Zac Yaa (by rfl)) (by rfl)))) (by rfl) (by first | exact .inl rfl | exact .inr rfl | assumption))
  (@Xab _ _ _ _ _ (Xbq (i:=5) (j:=6) rfl YaX.nd rfl rfl (by decide) rfl rfl (@zaa _ _ _ _ _ (Zae G_law_floor (hr.mono (by decide)) rfl D_law_floor.m D_law_floor.F.kp D_law_floor.b .nil pass0 (@zaa _ _ _ _ _ (pv 3) (@zaa _ _ _ _ _ (pv 4) Yaa (by rfl)) (by rfl))) (@zaa _ _ _ _ _ (Zae G_law_turning (hr.mono (by decide)) rfl D_law_turning.m D_law_turning.F.kp D_law_turning.b .nil pass0 (@zaa _ _ _ _ _ (pv 3) (@zaa _ _ _ _ _ (pv 4) Yaa (by rfl)) (by rfl))) Yaa (by rfl)) (by rfl)) rfl)
  (@Xab _ _ _ _ _ (@Zag (i:=7) _ _ _ _ _ _ YaX.nd rfl (by first | exact Or.inl rfl | exact Or.inr rfl) (Zae G_law_led (hr.mono (by decide)) rfl D_law_led.m D_law_led.F.kp D_law_led.b .nil pass0 (@zaa _ _ _ _ _ (pv 5) (@zaa _ _ _ _ _ (Zae G_law_word (hr.mono (by decide)) rfl D_law_word.m D_law_word.F.kp D_law_word.b .nil pass0 (@zaa _ _ _ _ _ (pv 3) (@zaa _ _ _ _ _ Zac (@zaa _ _ _ _ _ Zac Yaa (by rfl)) (by rfl)) (by rfl))) Yaa (by rfl)) (by rfl))) (by rfl) (by first | exact .inl rfl | exact .inr rfl | assumption))
  (@Xab _ _ _ _ _ (xaF (xaX PySem.F.plainAttrs_list PySem.F.slot_list_append PySem.F.type_list_append xaw (pv 1) (@zaa _ _ _ _ _ (zaE (@zaa _ _ _ _ _ (pv 5) (@zaa _ _ _ _ _ (pv 6) (@zaa _ _ _ _ _ (pv 7) Yaa (by rfl)) (by rfl)) (by rfl))) Yaa (by rfl))))
  (@zad _ _ _ (xaF (xaX PySem.F.plainAttrs_list PySem.F.slot_list_append PySem.F.type_list_append xaw (pv 1) (@zaa _ _ _ _ _ (zaE (@zaa _ _ _ _ _ (pv 7) (@zaa _ _ _ _ _ (pv 6) (@zaa _ _ _ _ _ (Zae G_law_floor (hr.mono (by decide)) rfl D_law_floor.m D_law_floor.F.kp D_law_floor.b .nil pass0 (@zaa _ _ _ _ _ (pv 3) (@zaa _ _ _ _ _ (@xah _ _ _ _ _ _ _ xak (@Yaw _ _ _ _ (@zaa _ _ _ _ _ (pv 4) (@zaa _ _ _ _ _ (Yah Zay Zac (Zae G_law_take (hr.mono (by decide)) rfl D_law_take.m D_law_take.F.kp D_law_take.b .nil pass0 (@zaa _ _ _ _ _ (pv 3) (@zaa _ _ _ _ _ Zac Yaa (by rfl)) (by rfl)))) Yaa (by rfl)) (by rfl))) (Zae G_law_take (hr.mono (by decide)) rfl D_law_take.m D_law_take.F.kp D_law_take.b .nil pass0 (@zaa _ _ _ _ _ (pv 3) (@zaa _ _ _ _ _ Zac Yaa (by rfl)) (by rfl))) (fun _ _=>rfl)) Yaa (by rfl)) (by rfl))) Yaa (by rfl)) (by rfl)) (by rfl))) Yaa (by rfl)))))))))) (by intro _;rfl))
  (@zad _ _ _ (Zaj (Xaf (Zbu rfl) (by rfl) T.n_all bt_all (@zaa _ _ _ _ _ (zay (own:=["_law_floor_here","_law_p","_law_other"]) (fr:=[]) (js:=[]) rfl ⟨⟨rfl,by decide +kernel,by decide +kernel,by dsimp only [cxOf,cxComp,Cx.nox,Cx.wish,PyProof.Rows.envOfC,compEnvC,relabel,Env.kindOf];decide +kernel,by decide +kernel⟩,rfl⟩ (XaT (Yah yaR (pv 1) (Za1 zbe (pv 1) Zbd (Ybd Zac)))) (fun _ _ _ _ _=>(XbT (K:=K) (n:=3) rfl rfl (Xao (xaf (i:=0) (show ((["_law_floor_here","_law_p","_law_other"]:List Str) ++ ([]:List Str)).Nodup by decide +kernel) rfl (by first | exact Or.inl rfl | exact Or.inr rfl)) (Xao (xaf (i:=1) (show ((["_law_floor_here","_law_p","_law_other"]:List Str) ++ ([]:List Str)).Nodup by decide +kernel) rfl (by first | exact Or.inl rfl | exact Or.inr rfl)) (Xao (xaf (i:=2) (show ((["_law_floor_here","_law_p","_law_other"]:List Str) ++ ([]:List Str)).Nodup by decide +kernel) rfl (by first | exact Or.inl rfl | exact Or.inr rfl)) XaO))))) (fun _ _ _ _ _=>XaH) (fun _ _ _ _ _=>(Zae G_law_right (hr.mono (by decide)) rfl D_law_right.m D_law_right.F.kp D_law_right.b .nil pass0 (@zaa _ _ _ _ _ (pv 0) (@zaa _ _ _ _ _ (pv 1) (@zaa _ _ _ _ _ (pv 2) Yaa (by rfl)) (by rfl)) (by rfl))))) Yaa (by rfl))))))),?_⟩
 exact yaC (b:=YbM) (zae (zaf (zax xaa) (Zab 1))
  (zae (XaC (Zam (yaa (zag zbX (yaa (Yac _) (yaa (zag Xap (yaa (YbW zbx (Zaa 0) XaV (ybf (Yac _))) xaa)) xaa))) xaa)) (Zab 2) (zae (zaf (Yae (F:=XaA) (yaa (Zaa 0) (yaa (Zaa 2) xaa)) (yab (yab (fun _ _ _ _ h=>xae h)))) (Zab 3))
  (zae (zaf (xac Yay (Yac _) (Yae (F:=Yad) (yaa (Zaa 3) (yaa (Yac _) xaa)) (yab (yab (fun _ _ _ _ h=>xae h))))) (Zab 4))
  (zae (Xbx (yaa (Yae (F:=Yan) (yaa (Zaa 3) (yaa (Zaa 4) xaa)) (yab (yab (fun _ _ _ _ h=>xae h)))) (yaa (Yae (F:=Yag) (yaa (Zaa 3) (yaa (Zaa 4) xaa)) (yab (yab (fun _ _ _ _ h=>xae h)))) xaa)))
  (zae (zaf (Yae (F:=yaF) (yaa (Zaa 5) (yaa (Yae (F:=ZaB) (yaa (Zaa 3) (yaa (Yac _) (yaa (Yac _) xaa))) (yab (yab (yab (fun _ _ _ _ h=>xae h))))) xaa)) (yab (yab (fun _ _ _ _ h=>xae h)))) (Zab 7))
  (zae (YaG (zaO yax (Zaa 1) (yaa (YaE (yaa (Zaa 5) (yaa (Zaa 6) (yaa (Zaa 7) xaa)))) xaa)))
  (YaG (zaO yax (Zaa 1) (yaa (YaE (yaa (Zaa 7) (yaa (Zaa 6) (yaa (Yae (F:=Yan) (yaa (Zaa 3) (yaa (xac Xas (zax (yaa (Zaa 4) (yaa (xac Yay (Yac _) (Yae (F:=Yad) (yaa (Zaa 3) (yaa (Yac _) xaa)) (yab (yab (fun _ _ _ _ h=>xae h))))) xaa))) (Yae (F:=Yad) (yaa (Zaa 3) (yaa (Yac _) xaa)) (yab (yab (fun _ _ _ _ h=>xae h))))) xaa)) (yab (yab (fun _ _ _ _ h=>xae h)))) xaa)))) xaa)))))))))
  (Yaj (zag so_all (yaa (yat (yaO (xac xaR (Zaa 1) (YbW zbx (Zaa 1) XaV (ybf (Yac _))))) (ZaQ (zap (Zab 0) (zap (Zab 1) (zap (Zab 2) yaQ)))) yay (Yae (F:=xax) (yaa (Zaa 0) (yaa (Zaa 1) (yaa (Zaa 2) xaa))) (yab (yab (yab (fun _ _ _ _ h=>xae h)))))) xaa))))) rfl h
end
theorem Yao {st:Store} {f:Nat} {n:Int} (hf:FeedIs st f) (h0:0 < n) (h1:n < 1073741824):Wp (Yad [.ref f,.int n] st) fun d st'=>∃ k:Int,d=.int k∧0≤k∧k < n∧FeedIs st' f∧Ex [f] st st':=by
 obtain ⟨o,m,e,o0,m0,m1⟩:=hf
 have hfl:=Zad e
 refine Xay ?_
 show Ws (zaH [some (.ref f),some (.int n),none,none] st) _ _ _ _
 unfold zaH
 refine Xad (YaD ?_)
 set_option simprocs false in simp only [wpB,zac e,Xai e]
 refine ⟨fun ho=>?_,fun ho=>?_⟩
 ·refine Xad (yag ?_)
  set_option simprocs false in simp only [wpB,zac e]
  refine ⟨h0,Xad (zaS ?_)⟩
  set_option simprocs false in simp only [wpB,zac e,Xai e,(show ixN [D.int o,D.int m].length 0=some 0 from ix2_0)]
  refine ⟨⟨h0,h1⟩,Zak ?_⟩
  set_option simprocs false in simp only [wpB]
  refine ⟨Int.emod_nonneg _ (by omega),Int.emod_lt_of_pos _ h0,⟨o / n,m,?_,Int.ediv_nonneg o0 (by omega),m0,m1⟩,Ex.refl.put (by simp)⟩
  rw [List.getElem?_set_self hfl]
 ·refine yan (Xad (yag ?_))
  set_option simprocs false in simp only [wpB,zac e]
  refine ⟨by omega,by omega,Xad (zaS ?_)⟩
  set_option simprocs false in simp only [wpB,zac e,Xai e,(show ixN [D.int o,D.int m].length 1=some 1 from ix2_1)]
  refine ⟨by omega,by omega,Zak ?_⟩
  have e2:(st.set f (.lst [.int o,.int ((m * 48271 % 2147483647 * 40692 + 30103) % 2147483399 + 1)]))[f]?=some (.lst [.int o,.int ((m * 48271 % 2147483647 * 40692 + 30103) % 2147483399 + 1)]):=List.getElem?_set_self hfl
  set_option simprocs false in simp only [wpB,zac e2]
  refine ⟨by omega,by omega,h0,Int.emod_nonneg _ (by omega),Int.emod_lt_of_pos _ h0,⟨_,_,e2,o0,by omega,by omega⟩,Ex.refl.put (by simp)⟩
theorem XbC {st:Store} {a:Nat} {ns:List Int} {k:Nat} (hs:items st a=some (ns.map D.int)) (hk:k≤100):Wp (XaA [.ref a,.int (k:Int)] st) fun d st'=>d=.ref st.length∧FeedIs st' st.length∧Ex [] st st':=by
 refine Xay ?_
 show Ws (XaG [some (.ref a),some (.int (k:Int)),none,none] st) _ _ _ _
 unfold XaG
 refine Xad (yag ?_)
 set_option simprocs false in simp only [wpB]
 refine ⟨by omega,Xad (YaQ (N:=fun δ st1=>st1=st∧∃ c:Int,δ=[some (.ref a),some (.int (k:Int)),some (.int c),none]) (YaD ?_) ?_)⟩
 ·set_option simprocs false in simp only [wpB,hs]
  refine ⟨fun h=>yag ?_,fun h=>YaD ?_⟩
  ·have h:=of_decide_eq_true h
   rw [List.length_map] at h
   set_option simprocs false in simp only [wpB,hs]
   refine ⟨.int (ns[k]'(by omega)),yaP (by rw [List.getElem?_map,List.getElem?_eq_getElem];rfl),_,rfl⟩
  ·set_option simprocs false in simp only [wpB,hs]
   refine ⟨fun h=>yag ?_,fun h=>yan ⟨rfl,_,rfl⟩⟩
   have h:=of_decide_eq_true h
   obtain ⟨v,hv,hm⟩:=atI_lt (xs:=ns.map D.int) (i:=(k:Int) % ((ns.map D.int).length:Int)) (Int.emod_nonneg _ (by omega)) (Int.emod_lt_of_pos _ h)
   obtain ⟨c,_,rfl⟩:=List.mem_map.mp hm
   set_option simprocs false in simp only [wpB,hs]
   refine ⟨h,_,hv,?_⟩
   set_option simprocs false in simp only [wpB]
   exact ⟨by omega,by omega,by omega,_,rfl⟩
 ·rintro δ st1 ⟨rfl,c,rfl⟩
  refine Xad (yag ?_)
  set_option simprocs false in simp only [wpB]
  refine Xad (YaQ (N:=fun δ st2=>st2=st1∧∃ o:Int,0≤o∧δ=[some (.ref a),some (.int (k:Int)),some (.int c),some (.int o)]) (YaD ?_) ?_)
  ·set_option simprocs false in simp only [wpB]
   refine ⟨by decide,fun h=>yag ?_,fun h=>yan ⟨rfl,0,by decide,rfl⟩⟩
   have h:=of_decide_eq_true h
   set_option simprocs false in simp only [wpB]
   exact ⟨c,Int.le_trans (by decide) h,rfl⟩
  ·rintro δ st2 ⟨rfl,o,o0,rfl⟩
   refine Zak ?_
   set_option simprocs false in simp only [wpB]
   have h1:0≤c % 2147483629:=Int.emod_nonneg _ (by decide)
   have h2:c % 2147483629 < 2147483629:=Int.emod_lt_of_pos _ (by decide)
   refine ⟨by omega,by omega,by omega,by omega,by omega,by rfl,⟨_,_,Zah,o0,?_,?_⟩,Ex.app0 _⟩
   ·have:=Int.emod_nonneg ((c % 2147483629 * 48271 + 40692 * (k:Int)) ^ (5:Int).toNat) (show (2147483629:Int)≠0 by decide)
    omega
   ·have:=Int.emod_lt_of_pos ((c % 2147483629 * 48271 + 40692 * (k:Int)) ^ (5:Int).toNat) (show (0:Int) < 2147483629 by decide)
    omega
theorem XaJ {st:Store} {f:Nat} {n:Nat} (hf:FeedIs st f) (hn:n≤100):Wp (Yag [.ref f,.int (n:Int)] st) fun d st'=>∃ xs:List Int,d=.tup (xs.map D.int)∧Mth.Tn n xs∧FeedIs st' f∧Ex [f] st st':=by
 have hfl:=hf.lt
 refine Xay ?_
 show Ws (Xav [some (.ref f),some (.int (n:Int)),none,none] st) _ _ _ _
 unfold Xav
 refine Xad (yag ?_)
 set_option simprocs false in simp only [wpB]
 have e1:((n:Int) - 0).toNat=n:=by omega
 rw [e1,yaf]
 refine ⟨by unfold okR;rw [Bool.and_eq_true,decide_eq_true_eq];exact ⟨by omega,Yaq (by omega)⟩,Xad (yag ?_)⟩
 set_option simprocs false in simp only [wpB]
 refine ⟨rfl,Xad (ZaT (fun m δ st2=>∃ L xs:List Int,m=L.length∧δ=[some (.ref f),some (.int (n:Int)),some (.ref (st ++ [O.rng 0 (n:Int)]).length),some (.tup (xs.map D.int))]∧st2[(st ++ [O.rng 0 (n:Int)]).length]?=some (.lst (L.map D.int))∧(xs ++ L).Perm (Mth.upto n)∧FeedIs st2 f∧Ex [f] st st2) n (Nat.lt_of_le_of_lt hn (by decide)) ⟨Mth.upto n,[],(Mth.Xae n).symm,rfl,Zah,List.Perm.refl _,hf.keep ((Ex.app0 _).app _),(Ex.app0 _).app _⟩ ?_)⟩
 have hl:(st ++ [O.rng 0 (n:Int)]).length≠f:=by rw [List.length_append];omega
 have hls:st.length≤(st ++ [O.rng 0 (n:Int)]).length:=by rw [List.length_append];omega
 generalize (st ++ [O.rng 0 (n:Int)]).length=l at hl hls ⊢
 rintro m δ st2 ⟨L,xs,rfl,rfl,hL,pm,hf2,k2⟩
 have hlen:(xs ++ L).length=n:=by rw [pm.length_eq,Mth.Xae]
 rw [List.length_append] at hlen
 refine Xaa ?_
 intro qhQ hQ
 set_option simprocs false in simp only [wpB,zbB (L:=L) (M:=[]) (st:=st2 ++ [O.lst []]) (zac (zam hL)) Zaq]
 refine ⟨rfl,hQ _ _ ⟨fun h=>?_,fun h=>?_⟩⟩
 ·have hne:L≠[]:=by simpa using h
  have hpos:0 < L.length:=List.length_pos_iff.mpr hne
  have hL3:(st2 ++ [O.lst []])[l]?=some (.lst (L.map D.int)):=zam hL
  have f3:FeedIs (st2 ++ [O.lst []]) f:=hf2.keep (Ex.app0 _)
  have k3:Ex [f] st (st2 ++ [O.lst []]):=k2.app _
  generalize (st2 ++ [O.lst []])=st3 at hL3 f3 k3 ⊢
  refine yag ?_
  refine Xaa ?_
  intro qhQ hQ
  set_option simprocs false in simp only [wpB,zac hL3]
  refine ⟨Yav (by rw [zac hL3];rfl),?_⟩
  refine Yab (Yao (n:=((L.map D.int).length:Int)) f3 (by rw [List.length_map];omega) (by rw [List.length_map];omega)) ?_
  rintro d st4 ⟨k,rfl,k0,k1,f4,k4⟩
  rw [List.length_map] at k1
  have hL4:=k4.keep _ _ hL3 (by simpa using hl)
  have hkl:k.toNat < L.length:=by omega
  set_option simprocs false in simp only [wpB,Xai hL4]
  have hk':((k.toNat:Nat):Int)=k:=Int.toNat_of_nonneg k0
  refine ⟨by omega,k.toNat,?_,D.int L[k.toNat],by rw [List.getElem?_map,List.getElem?_eq_getElem hkl];rfl,rfl,Yaq ?_,hQ _ _ ⟨(L.eraseIdx k.toNat).length,?_,L.eraseIdx k.toNat,xs ++ [L[k.toNat]],rfl,?_,?_,?_,?_,?_⟩⟩
  ·rw [← hk',Int.toNat_natCast]
   exact (Xbd (za2 (by rw [List.length_map];exact hkl))).1
  ·simp only [List.length_map,List.length_cons,List.length_nil];omega
  ·rw [List.length_eraseIdx,if_pos hkl];omega
  ·rw [List.map_append];rfl
  ·rw [List.getElem?_set_self (Zad hL4),Xbo]
  ·refine List.Perm.trans ?_ pm
   rw [List.append_assoc]
   exact List.Perm.append_left xs (Ybg hkl)
  ·exact f4.ne hl
  ·exact (k3.trans k4).loc hls
 ·have he:L=[]:=by simpa using h
  subst he
  refine Zak ?_
  refine Xaa ?_
  intro qhQ hQ
  set_option simprocs false in simp only [wpB]
  exact hQ _ _ ⟨xs,rfl,by simpa [Mth.Tn] using pm,hf2.keep (Ex.app0 _),k2.app _⟩
theorem zbD {st:Store} {xs ys:List Int} {n:Nat} (tx:Mth.Tn n xs) (ty:Mth.Tn n ys) (n0:0 < n) (hn:n≤100):Wp (zai [flD xs ys] st) fun d st'=>∃ (g:Nat) (F:List Int),d=.ref g∧items st' g=some (F.map D.int)∧(∀ x,x∈F↔Mth.Rch xs ys x)∧F.length≤n∧Mth.Od xs ys F∧Ex [] st st':=by
 have hlx:=tx.length
 have hly:=ty.length
 refine Xay ?_
 show Ws (zaL [some (flD xs ys),none,none,none,none] st) _ _ _ _
 unfold zaL
 refine Xad (yag ?_)
 refine Xaa ?_
 intro qhQ hQ
 set_option simprocs false in simp only [wpB]
 refine ⟨rfl,hQ _ _ (Xad (zaI (rangeD 0 (n + 1)) (fun i δ st2=>∃ (v2 v3 v4:Option D) (F:List Int),δ=[some (flD xs ys),some (.ref st.length),v2,v3,v4]∧st2[st.length]?=some (.lst (F.map D.int))∧Mth.Fo xs ys F∧(Mth.Cl xs ys F∨i + 1≤F.length)∧Ex [] st st2) ?_ ?_ ?_ ?_))⟩
 ·unfold flD
  refine Xaa ?_
  intro qhQ hQ
  set_option simprocs false in simp only [wpB]
  have e0:((1:Int) + ((xs.map D.int).length:Int)).toNat=n + 1:=by rw [List.length_map];omega
  refine ⟨by rw [List.length_map];omega,hQ _ _ ⟨by rw [e0],none,none,none,[0],rfl,Zah,Mth.Fo.one xs ys,.inr (Nat.le_refl _),Ex.app0 _⟩⟩
 ·rw [xab];omega
 ·rintro i d δ st2 hd ⟨v2,v3,v4,F,rfl,hg2,hF,hcl,k2⟩
  refine Xaa ?_
  intro qhQ hQ
  set_option simprocs false in simp only [wpB]
  refine hQ _ _ (zaI [.tup (xs.map D.int),.tup (ys.map D.int)] (fun m δ st3=>∃ (v3 v4:Option D) (G:List Int),δ=[some (flD xs ys),some (.ref st.length),some d,v3,v4]∧st3[st.length]?=some (.lst (G.map D.int))∧Mth.Fo xs ys G ∧
    (m=0→G=F)∧(m=1→F <+: G∧∀ x∈F,Mth.app xs x∈G)∧(2≤m→∃ F1,F <+: F1∧F1 <+: G∧(∀ x∈F,Mth.app xs x∈F1)∧∀ x∈F1,Mth.app ys x∈G)∧Ex [] st st3) ?_ (by simp) ?_ ?_)
  ·unfold flD
   refine Xaa ?_
   intro qhQ hQ
   set_option simprocs false in simp only [wpB]
   exact hQ _ _ ⟨rfl,v3,v4,F,rfl,hg2,hF,fun _=>rfl,fun z=>by omega,fun z=>by omega,k2⟩
  ·rintro m z δ st3 hm ⟨v3,v4,G,rfl,hg3,hG,m0,m1,_,k3⟩
   have hm2:m < 2:=Zad hm
   obtain ⟨zs,rfl,hz,em⟩:∃ (zs:List Int),z=.tup (zs.map D.int)∧(zs=xs∨zs=ys)∧((m=0∧zs=xs)∨(m=1∧zs=ys)):=by
    rcases (show m=0∨m=1 by omega) with rfl | rfl
    ·exact ⟨xs,by simpa using hm.symm,.inl rfl,.inl ⟨rfl,rfl⟩⟩
    ·exact ⟨ys,by simpa using hm.symm,.inr rfl,.inr ⟨rfl,rfl⟩⟩
   have tz:Mth.Tn n zs:=by rcases hz with rfl | rfl;exact tx;exact ty
   have hlz:=tz.length
   have go:∀ x,Mth.Rch xs ys x→Mth.Rch xs ys (Mth.app zs x):=fun x h=>by rcases hz with rfl | rfl;exact h.r;exact h.u
   refine Xaa ?_
   intro qhQ hQ
   set_option simprocs false in simp only [wpB]
   refine hQ _ _ (xbf (G.map D.int) st3.length (fun j δ st4=>∃ (v4:Option D) (G':List Int),δ=[some (flD xs ys),some (.ref st.length),some d,some (.tup (zs.map D.int)),v4]∧st4[st.length]?=some (.lst (G'.map D.int))∧st4[st3.length]?=some (.lst (G.map D.int))∧Mth.Fo xs ys G'∧G <+: G'∧(∀ i',i' < j→∀ x,G[i']?=some x→Mth.app zs x∈G')∧Ex [] st st4) ?_ ?_ ?_ ?_ ?_)
   ·refine Xaa ?_
    intro qhQ hQ
    set_option simprocs false in simp only [wpB,zac hg3]
    exact hQ _ _ ⟨rfl,v4,G,rfl,zam hg3,Zah,hG,List.prefix_refl _,fun i' h=>absurd h (Nat.not_lt_zero _),k3.app _⟩
   ·rw [List.length_map]
    have:=hG.len tx ty n0
    omega
   ·rintro j δ st4 ⟨_,_,_,_,h,_⟩
    exact zac h
   ·rintro j y0' δ st4 hj0 ⟨v4,G',rfl,hg4,hl4,hG',pG,hd',k4⟩
    obtain ⟨y,hj,rfl⟩:=YaT hj0
    have hjl:=Zad hj
    have hR:=hG.mt _ (List.mem_of_getElem? hj)
    obtain ⟨y0,y1⟩:=hR.bound tx ty n0
    have at':=xay (xs:=zs) y0 (by rw [hlz];exact y1)
    have hnext:∀ G'':List Int,G' <+: G''→Mth.app zs y∈G''→∀ i',i' < j + 1→∀ x,G[i']?=some x→Mth.app zs x∈G'':=fun G'' p h i' hi' x hx=>by
     by_cases e:i'=j
     ·subst e
      rw [hj] at hx
      cases hx;exact h
     ·exact p.subset (hd' i' (by omega) x hx)
    refine Xaa ?_
    intro qhQ hQ
    set_option simprocs false in simp only [wpB]
    refine hQ _ _ (YaD ?_)
    refine Xaa ?_
    intro qhQ2 hQ2
    set_option simprocs false in simp only [wpB,at',Ybl (st:=st4) (c:=.ref st.length) (ns:=G') (zac hg4)]
    refine hQ2 _ _ ⟨fun hcn=>?_,fun hcn=>?_⟩
    ·have hnm:Mth.app zs y ∉ G':=fun z=>by rw [List.contains_iff_mem.mpr z] at hcn;cases hcn
     have hG2:Mth.Fo xs ys (G' ++ [Mth.app zs y]):=by
      refine ⟨⟨List.mem_append_left _ hG'.z,?_,fun x hx=>?_⟩,hG'.od.snoc (pG.subset (List.mem_of_getElem? hj)) (hz.imp (fun e=>by rw [e]) fun e=>by rw [e])⟩
      ·rw [List.nodup_append]
       refine ⟨hG'.nd,by simp,fun x hx y' hy e=>hnm ?_⟩
       have e2:y'=Mth.app zs y:=by simpa using hy
       rw [← e2,← e];exact hx
      ·rcases List.mem_append.mp hx with h | h
       ·exact hG'.mt x h
       ·have e2:x=Mth.app zs y:=by simpa using h
        rw [e2];exact go _ hR
     have hlen2:=hG2.len tx ty n0
     rw [List.length_append] at hlen2
     refine xaG ?_
     refine Xaa ?_
     intro qhQ3 hQ3
     set_option simprocs false in simp only [wpB,at',Xai hg4]
     refine ⟨Yav (by rw [zac hg4];rfl),Yaq (by rw [List.length_map];simp at hlen2;omega),hQ3 _ _ ⟨_,G' ++ [Mth.app zs y],rfl,?_,?_,hG2,pG.trans (List.prefix_append _ _),hnext _ (List.prefix_append _ _) (by simp),k4.loc (Nat.le_refl _)⟩⟩
     ·rw [List.getElem?_set_self (Zad hg4),List.map_append];rfl
     ·rw [List.getElem?_set_ne (by have:=Zad hg3;omega)];exact hl4
    ·have hcn:G'.contains (Mth.app zs y)=true:=by simpa using hcn
     exact yan ⟨_,G',rfl,hg4,hl4,hG',pG,hnext G' (List.prefix_refl _) (List.contains_iff_mem.mp hcn),k4⟩
   ·rintro δ st4 ⟨v4,G',rfl,hg4,hl4,hG',pG,hd',k4⟩
    rw [List.length_map] at hd'
    have hall:∀ x∈G,Mth.app zs x∈G':=fun x hx=>by
     obtain ⟨i',hi',e⟩:=List.getElem_of_mem hx
     exact hd' i' hi' x (by rw [List.getElem?_eq_getElem hi',e])
    refine ⟨_,_,G',rfl,hg4,hG',fun z=>by omega,fun z=>?_,fun z=>?_,k4⟩
    ·rcases em with ⟨rfl,rfl⟩ | ⟨rfl,_⟩
     ·have:=m0 rfl
      subst this
      exact ⟨pG,hall⟩
     ·omega
    ·rcases em with ⟨rfl,_⟩ | ⟨rfl,rfl⟩
     ·omega
     ·obtain ⟨p1,c1⟩:=m1 rfl
      exact ⟨G,p1,pG,c1,hall⟩
  ·rintro δ st3 ⟨v3,v4,G,rfl,hg3,hG,_,_,m2,k3⟩
   obtain ⟨F1,p1,p2,c1,c2⟩:=m2 (Nat.le_refl 2)
   exact ⟨_,_,_,G,rfl,hg3,hG,Mth.round hF.toFd hG.toFd p1 p2 c1 c2 hcl,k3⟩
 ·rintro δ st2 ⟨v2,v3,v4,F,rfl,hg2,hF,hcl,k2⟩
  rw [xab] at hcl
  have hl:=hF.len tx ty n0
  have hc:Mth.Cl xs ys F:=hcl.resolve_right (by omega)
  refine Zak ?_
  refine Xaa ?_
  intro qhQ hQ
  set_option simprocs false in simp only [wpB]
  exact hQ _ _ ⟨_,F,rfl,zac hg2,fun x=>⟨hF.mt x,fun h=>hc.all hF.z h⟩,hl,hF.od,k2⟩
theorem XbM {st:Store} {xs ys:List Int} {n:Nat} (tx:Mth.Tn n xs) (ty:Mth.Tn n ys) (n0:0 < n) (hn:n≤100):Wp (zai [flD xs ys] st) fun d st'=>∃ (g:Nat) (F:List Int),d=.ref g∧items st' g=some (F.map D.int)∧(∀ x,x∈F↔Mth.Rch xs ys x)∧F.length≤n∧Ex [] st st' :=
 Yab (zbD tx ty n0 hn) fun d st' ⟨g,F,h1,h2,h3,h4,_,h5⟩=>⟨g,F,h1,h2,h3,h4,h5⟩
theorem za1 {st:Store} {δ:DSt} {X Y:List Int} {n:Nat} {Q:D→Store→Prop} (tX:Mth.Tn n X) (tY:Mth.Tn n Y) (n0:0 < n) (hn:n≤100) (h1:δ[1]?=some (some (.int (n:Int)))) (h6:δ[6]?=some (some (flD X Y)))
  (q:∀ (L:List Int) (st':Store),L.length≤n→L.Nodup→(∀ x,x∈L↔(0≤x∧x < (n:Int)∧¬ Mth.Rch X Y x))→Ex [] st st'→Q (.ref st'.length) (st' ++ [.lst (L.map D.int)])) :
  Wp (fComp (iRng1F (fCons (fVar 1) fNil)) 1 [6] (hName 0) (fTest (fOp (gIn true) (fVar 0) (fCB zai (fCons (fVar 1) fNil)))) (fVar 0) δ st) Q:=by
 have h6':δ.getD 6 none=some (flD X Y):=by rw [List.getD_eq_getElem?_getD,h6];rfl
 refine Xbf (rangeD 0 n) (fun j zs δ' st8=>∃ (v:Option D) (L:List Int),δ'=[v,some (flD X Y)]∧zs=L.map D.int∧L.length≤j∧L.Nodup∧(∀ x,x∈L↔(0≤x∧x < (j:Int)∧¬ Mth.Rch X Y x))∧Ex [] st st8) ?_ (by rw [xab];omega) ?_ ?_ ?_
 ·refine Xaa ?_
  intro qhQ hQ
  set_option simprocs false in simp only [wpB,h1]
  refine ⟨by omega,hQ _ _ ⟨fun i ys δ st hi _=>?_,none,[],?_,rfl,Nat.le_refl _,List.nodup_nil,fun x=>⟨(fun h=>nomatch h),fun h=>by omega⟩,Ex.refl⟩⟩
  ·rw [Int.toNat_natCast]
   show (if i≤(rangeD 0 n).length then some (rangeD 0 n)[i]? else none)=_
   rw [if_pos hi]
  ·unfold compD
   simp only [List.map_cons,List.map_nil,h6']
   rfl
 ·rintro j zs δ' st8 ⟨v,L,_,rfl,hl,_⟩
  rw [List.length_map];exact hl
 ·rintro j d zs δ' st8 hd ⟨v,L,rfl,rfl,hll,nd,hL,k8⟩
  have hjl:=Zad hd
  rw [xab] at hjl
  rw [YaK hjl] at hd
  cases hd
  rw [Int.zero_add]
  refine Xaa ?_
  intro qhQ hQ
  set_option simprocs false in simp only [wpB]
  refine hQ _ _ ?_
  refine Xaa ?_
  intro qhQ2 hQ2
  set_option simprocs false in simp only [wpB]
  refine Yab (XbM (st:=st8) tX tY n0 hn) ?_
  rintro d st9 ⟨g,F,rfl,hg,hF,hFl,k9⟩
  rw [Ybl (c:=.ref g) (ns:=F) hg]
  refine ⟨_,rfl,hQ2 _ _ ⟨fun hc=>?_,fun hc=>?_⟩⟩
  ·have hR:¬ Mth.Rch X Y (j:Int):=fun h=>by rw [List.contains_iff_mem.mpr ((hF _).mpr h)] at hc;cases hc
   refine Xaa ?_
   intro qhQ3 hQ3
   set_option simprocs false in simp only [wpB]
   refine hQ3 _ _ ⟨_,L ++ [(j:Int)],rfl,by rw [List.map_append];rfl,by rw [List.length_append];simp;omega,?_,fun x=>?_,k8.trans k9⟩
   ·rw [List.nodup_append]
    refine ⟨nd,by simp,fun x hx y hy e=>?_⟩
    have e2:y=(j:Int):=by simpa using hy
    have:=((hL x).mp hx).2.1
    omega
   ·rw [List.mem_append,hL x]
    constructor
    ·rintro (⟨a1,a2,a3⟩ | h)
     ·exact ⟨a1,by omega,a3⟩
     ·have e2:x=(j:Int):=by simpa using h
      rw [e2];exact ⟨by omega,by omega,hR⟩
    ·rintro ⟨a1,a2,a3⟩
     rcases Int.lt_or_le x (j:Int) with h | h
     ·exact .inl ⟨a1,h,a3⟩
     ·exact .inr (by simp;omega)
  ·have hc:F.contains (j:Int)=true:=by simpa using hc
   have hR:=(hF _).mp (List.contains_iff_mem.mp hc)
   refine ⟨_,L,rfl,rfl,by omega,nd,fun x=>?_,k8.trans k9⟩
   rw [hL x]
   constructor
   ·rintro ⟨a1,a2,a3⟩;exact ⟨a1,by omega,a3⟩
   ·rintro ⟨a1,a2,a3⟩
    refine ⟨a1,?_,a3⟩
    rcases Int.lt_or_le x (j:Int) with h | h
    ·exact h
    ·exact absurd hR (by rw [show (j:Int)=x by omega];exact a3)
 ·rintro zs δ' st8 ⟨v,L,rfl,rfl,hll,nd,hL,k8⟩
  rw [xab] at hll hL
  exact q L st8 hll nd hL k8
theorem ya1 {st:Store} {f n:Nat} (hf:FeedIs st f) (n1:1≤n) (n20:n≤20):Wp (Yan [.ref f,.int (n:Int)] st) fun d st'=>∃ xs ys:List Int,d=flD xs ys∧IsFl n xs ys∧FeedIs st' f∧Ex [f] st st':=by
 have hfl:=hf.lt
 refine Xay ?_
 show Ws (zaD [some (.ref f),some (.int (n:Int)),none,none,none,none,none,none,none] st) _ _ _ _
 unfold zaD
 refine Xad (yag ?_)
 refine Xaa ?_
 intro qhQ hQ
 set_option simprocs false in simp only [wpB]
 refine Yab (Yao (n:=6) hf (by decide) (by decide)) ?_
 rintro d st1 ⟨form,rfl,g0,g6,f1,k1⟩
 refine hQ _ _ (Xad (xby ?_))
 clear hQ
 refine Xaa ?_
 intro qhQ hQ
 set_option simprocs false in simp only [wpB]
 refine Yab (XaJ (n:=n) f1 (by omega)) ?_
 rintro d st2 ⟨X,rfl,tX,f2,k2⟩
 set_option simprocs false in simp only [wpB]
 refine Yab (XaJ (n:=n) (f2.keep (Ex.app0 [.lst (X.map D.int)])) (by omega)) ?_
 rintro d st3 ⟨Y,rfl,tY,f3,k3⟩
 set_option simprocs false in simp only [wpB]
 refine hQ _ _ ⟨_,_,rfl,?_⟩
 clear hQ
 have hr3:st3[st2.length]?=some (.lst (X.map D.int)):=k3.keep _ _ Zah (by have:=f2.lt;simp;omega)
 have two:Two st (st3 ++ [.lst (Y.map D.int)]) f st2.length st3.length n X Y:=⟨zam hr3,Zah,by have:=Zad hr3;omega,(k1.trans k2).len,((k1.trans k2).trans ((Ex.app0 _).trans k3)).len,tX,tY,f3.keep (Ex.app0 _),(((k1.trans k2).app _).trans k3).app _⟩
 show Ws _ _ _ _ _
 generalize (st3 ++ [O.lst (Y.map D.int)])=st4 at two ⊢
 generalize st2.length=r at two ⊢
 generalize st3.length=u at two ⊢
 clear hr3 tX tY f3 k3 f2 k2 f1 k1
 refine Xad (YaQ (N:=fun δ st5=>∃ (r u:Nat) (X Y:List Int),δ=[some (.ref f),some (.int (n:Int)),some (.int form),some (.ref r),some (.ref u),none,none,none,none]∧Two st st5 f r u n X Y) (YaD ?_) ?_)
 ·refine Xaa ?_
  intro qhQ hQ
  set_option simprocs false in simp only [wpB]
  refine hQ _ _ ⟨fun _=>yag ?_,fun _=>yan ⟨r,u,X,Y,rfl,two⟩⟩
  refine Xaa ?_
  intro qhQ2 hQ2
  set_option simprocs false in simp only [wpB]
  rw [← ZbB]
  refine ⟨xaD (by omega),rfl,Yaq (by rw [xab];simp;omega),hQ2 _ _ ⟨_,u,_,Y,rfl,(two.keep (((Ex.app0 _).app _).app _)).setR (Mth.Ybj (show n < 21 by omega) (by omega))⟩⟩
 rintro δ st5 ⟨r,u,X,Y,rfl,two⟩
 refine Xad (YaQ (N:=fun δ st5=>∃ (r u:Nat) (X Y:List Int),δ=[some (.ref f),some (.int (n:Int)),some (.int form),some (.ref r),some (.ref u),none,none,none,none]∧Two st st5 f r u n X Y) (YaD ?_) ?_)
 ·refine Xaa ?_
  intro qhQ hQ
  set_option simprocs false in simp only [wpB]
  refine hQ _ _ ⟨fun _=>xby ?_,fun _=>yan ⟨r,u,X,Y,rfl,two⟩⟩
  refine Xaa ?_
  intro qhQ2 hQ2
  set_option simprocs false in simp only [wpB]
  rw [← ZbB,show ((n:Int) - 0).toNat=n by omega,yaf]
  refine ⟨xaD (by omega),xaD (by omega),rfl,Yaq (by rw [xab];simp;omega),hQ2 _ _ ⟨_,_,rfl,_,_,_,_,rfl,(((two.keep (Ex.app0 [.rng 0 (n:Int)])).setR (Z:=Mth.upto n) (List.Perm.refl _)).keep (((Ex.app0 _).app _).app _)).setU (Mth.Ybj (show n < 21 by omega) (by omega))⟩⟩
 rintro δ st6 ⟨r,u,X,Y,rfl,two⟩
 refine Xad (YaQ (N:=fun δ st5=>∃ (r u:Nat) (v5:Option D) (X Y:List Int),δ=[some (.ref f),some (.int (n:Int)),some (.int form),some (.ref r),some (.ref u),v5,none,none,none]∧Two st st5 f r u n X Y) (YaD ?_) ?_)
 ·refine Xaa ?_
  intro qhQ hQ
  set_option simprocs false in simp only [wpB]
  refine hQ _ _ ⟨fun _=>Xad (yag ?_),fun _=>yan ⟨r,u,none,X,Y,rfl,two⟩⟩
  refine Xaa ?_
  intro qhQ2 hQ2
  set_option simprocs false in simp only [wpB]
  refine Yab (Yao (n:=(n:Int)) two.fd (by omega) (by omega)) ?_
  rintro d st7 ⟨w,rfl,w0,w1,f7,k7⟩
  obtain ⟨wd,rfl⟩:∃ wd:Nat,w=(wd:Int) - 1:=⟨(w + 1).toNat,by omega⟩
  have t7:Two st st7 f r u n X Y:=⟨k7.keep _ _ two.hr (by have:=two.r0;simp;omega),k7.keep _ _ two.hu (by have:=two.u0;simp;omega),two.ne,two.r0,two.u0,two.tX,two.tY,f7,two.ex.trans k7⟩
  set_option simprocs false in simp only [wpB]
  rw [show (1:Int) + ((wd:Int) - 1)=(wd:Int) by omega]
  refine hQ2 _ _ (Xad (yag ?_))
  clear hQ2 hQ
  refine Xaa ?_
  intro qhQ2 hQ2
  set_option simprocs false in simp only [wpB]
  rw [← rowR_D]
  refine ⟨xaD (by omega),rfl,Yaq (by rw [xab];simp;omega),xaD (by omega),Yaq (by rw [List.length_append,xab,xab];simp;omega),hQ2 _ _ (Xad (yag ?_))⟩
  clear hQ2
  have t8:=(t7.keep ((((((Ex.app0 [.rng 1 (wd:Int)]).app [.lst (rangeD 1 ((wd:Int) - 1).toNat)]).app [.lst [.int 0]]).app [.lst (rangeD 1 ((wd:Int) - 1).toNat ++ [.int 0])]).app [.rng (wd:Int) (n:Int)]).app [.lst (rangeD (wd:Int) ((n:Int) - (wd:Int)).toNat)])).setR (Mth.zbV (w:=wd) (show n < 21 by omega) (by omega) (by omega))
  generalize hst8:(st7 ++ _ ++ _ ++ _ ++ _ ++ _ ++ _ ++ _:Store)=st8 at t8 ⊢
  generalize List.length _=r8 at t8 ⊢
  refine Xaa ?_
  intro qhQ2 hQ2
  set_option simprocs false in simp only [wpB]
  refine ⟨rfl,xaD (by omega),Yaq (by simp [xab];omega),xaD (by omega),Yaq (by simp [xab];omega),rfl,Yaq (by simp [xab];omega),hQ2 _ _ (YaD ?_)⟩
  clear hQ2
  generalize hsE:(st8 ++ _ ++ _ ++ _ ++ _ ++ _ ++ _ ++ _ ++ _ ++ _:Store)=stE
  have tE:Two st stE f r8 u n (Mth.rowR wd n) Y:=by rw [← hsE];exact t8.keep (((((((((Ex.app0 _).app _).app _).app _).app _).app _).app _).app _).app _)
  refine Xaa ?_
  intro qhQ hQ
  set_option simprocs false in simp only [wpB]
  refine hQ _ _ ⟨fun hw=>?_,fun hw=>?_⟩
  ·refine yag ?_
   refine Xaa ?_
   intro qhQ2 hQ2
   set_option simprocs false in simp only [wpB]
   rw [show ((n:Int) - 0).toNat=n by omega,yaf]
   exact ⟨xaD (by omega),hQ2 _ _ ⟨r8,_,_,_,_,rfl,(tE.keep ((Ex.app0 _).app _)).setU (List.Perm.refl _)⟩⟩
  ·have hne:wd≠n:=fun z=>by simp [z] at hw
   have tF:=tE.setU (Mth.ybV (w:=wd) (show n < 21 by omega) (by omega) (by omega))
   rw [colU_D (by omega) (by omega)] at tF
   exact yan ⟨r8,_,_,_,_,rfl,tF⟩
 rintro δ st7 ⟨r,u,v5,X,Y,rfl,two⟩
 have n0:0 < n:=by omega
 refine Xad (yag ?_)
 refine Xaa ?_
 intro qhQ hQ
 set_option simprocs false in simp only [wpB,zac two.hr,zac two.hu]
 refine ⟨rfl,hQ _ _ (Xad (yag (za1 (X:=X) (Y:=Y) two.tX two.tY n0 (by omega) rfl rfl ?_)))⟩
 clear hQ
 intro L st8 hll nd hL k8
 have t8:=(two.keep k8).keep (Ex.app0 [.lst (L.map D.int)])
 refine Xad (ZaT (fun mm δ st9=>∃ (pa:Nat) (X L:List Int) (v8:Option D),mm=L.length∧δ=[some (.ref f),some (.int (n:Int)),some (.int form),some (.ref r),some (.ref u),v5,some (flD X Y),some (.ref pa),v8]∧Two st st9 f r u n X Y∧items st9 pa=some (L.map D.int)∧L.length≤n∧L.Nodup∧(∀ x,x∈L↔(0≤x∧x < (n:Int)∧¬ Mth.Rch X Y x))) L.length (Nat.lt_of_le_of_lt hll (Nat.lt_of_le_of_lt n20 (by decide))) ⟨_,X,L,none,rfl,rfl,t8,Zaq,hll,nd,hL⟩ ?_)
 rintro mm δ st9 ⟨pa,X,L,v8,rfl,rfl,two,hpa,hll,nd,hL⟩
 have hlX:=two.tX.length
 have hpa2:items (st9 ++ [O.lst []]) pa=some (L.map D.int):=by
  unfold items at hpa ⊢
  cases e:st9[pa]? with
  | none=>rw [e] at hpa;cases hpa
  | some o=>rw [zam e];rw [e] at hpa;exact hpa
 refine Xaa ?_
 intro qhQ hQ
 set_option simprocs false in simp only [wpB,zbB (L:=L) (M:=[]) (st:=st9 ++ [O.lst []]) hpa2 Zaq]
 refine ⟨rfl,hQ _ _ ⟨fun h=>?_,fun h=>?_⟩⟩
 ·have hne:L≠[]:=by simpa using h
  clear hQ
  obtain ⟨m,L1,rfl⟩:∃ m L1,L=m :: L1:=by cases L with | nil=>exact absurd rfl hne | cons m L1=>exact ⟨m,L1,rfl⟩
  obtain ⟨m0,m1,mR⟩:=(hL m).mp List.mem_cons_self
  have t2:=two.keep (Ex.app0 [O.lst []])
  generalize (st9 ++ [O.lst []])=stE at hpa2 t2 ⊢
  refine Xad (yag ?_)
  refine Xaa ?_
  intro qhQ hQ
  set_option simprocs false in simp only [wpB,hpa2,List.map_cons]
  refine hQ _ _ (Xad (zaS ?_))
  clear hQ
  refine Xaa ?_
  intro qhQ hQ
  set_option simprocs false in simp only [wpB,zac t2.hr,xay (xs:=X) m0 (by omega),xay (xs:=X) (i:=0) (by decide) (by omega)]
  refine ⟨rfl,hQ _ _ ?_⟩
  clear hQ
  have i0:ixN (X.map D.int).length 0=some 0:=za2 (j:=0) (by rw [List.length_map];omega)
  have im:ixN ((X.map D.int).set 0 (.int (Mth.app X m))).length m=some m.toNat:=by
   rw [List.length_set]
   have:=za2 (n:=(X.map D.int).length) (j:=m.toNat) (by rw [List.length_map];omega)
   rwa [Int.toNat_of_nonneg m0] at this
  have hr3:(stE.set r (.lst ((X.map D.int).set 0 (.int (Mth.app X m)))))[r]?=some (.lst ((X.map D.int).set 0 (.int (Mth.app X m)))):=List.getElem?_set_self (Zad t2.hr)
  have eS:((X.map D.int).set 0 (.int (Mth.app X m))).set m.toNat (.int (Mth.app X 0))=(Mth.swp X m.toNat).map D.int:=by
   unfold Mth.swp
   rw [Int.toNat_of_nonneg m0,List.map_set,List.map_set]
  refine Xaa ?_
  intro qhQ hQ
  set_option simprocs false in simp only [wpB,Xai t2.hr,Xai hr3,i0,im,eS]
  refine ⟨rfl,hQ _ _ (Xad (yag ?_))⟩
  clear hQ
  have tS:=Mth.swp_tn t2.tX (m:=m.toNat) (by omega)
  have hmet:=Mth.YbU t2.tX t2.tY (m:=m.toNat) (by omega) (by rw [Int.toNat_of_nonneg m0];exact mR)
  rw [Int.toNat_of_nonneg m0] at hmet
  rw [List.set_set]
  have t3:=t2.put (Z:=Mth.swp X m.toNat) tS hfl
  generalize stE.set r _=st3 at t3 ⊢
  refine Xaa ?_
  intro qhQ hQ
  set_option simprocs false in simp only [wpB,zac t3.hr,zac t3.hu]
  refine ⟨rfl,hQ _ _ (yag (za1 (X:=Mth.swp X m.toNat) (Y:=Y) t3.tX t3.tY n0 (by omega) rfl rfl ?_))⟩
  intro L' st4 hll' nd' hL' k4
  refine ⟨_,?_,st4.length,Mth.swp X m.toNat,L',_,rfl,rfl,(t3.keep k4).keep (Ex.app0 _),Zaq,hll',nd',hL'⟩
  refine Mth.less (m:=m) nd' (fun x hx=>?_) List.mem_cons_self (fun h=>((hL' m).mp h).2.2 hmet.1)
  obtain ⟨a1,a2,a3⟩:=(hL' x).mp hx
  exact (hL x).mpr ⟨a1,a2,fun h=>a3 (hmet.2 x h)⟩
 ·have he:L=[]:=by simpa using h
  subst he
  refine Zak ?_
  refine Xaa ?_
  intro qhQ2 hQ2
  set_option simprocs false in simp only [wpB]
  have t2:=two.keep (Ex.app0 [O.lst []])
  refine hQ2 _ _ ⟨X,Y,rfl,⟨t2.tX,t2.tY,fun x x0 x1=>?_⟩,t2.fd,t2.ex⟩
  exact Classical.byContradiction fun h=>nomatch (hL x).mpr ⟨x0,x1,h⟩
theorem Xbb {st:Store} {xs:List Int} {n:Nat} (tn:Mth.Tn n xs) (hn:n≤100):Wp (xai [.tup (xs.map D.int)] st) fun d st'=>d=.tup ((Mth.inv xs).map D.int)∧Ex [] st st':=by
 have hlen:=tn.length
 refine Xay ?_
 show Ws (Zaz [some (.tup (xs.map D.int)),none,none,none] st) _ _ _ _
 unfold Zaz
 refine Xad (yag ?_)
 refine Xaa ?_
 intro qhQ hQ
 set_option simprocs false in simp only [wpB]
 have e0:(((xs.map D.int).length:Int)).toNat=n:=by rw [List.length_map];omega
 have ez:(List.replicate n [D.int 0]).flatten=(List.replicate n (0:Int)).map D.int:=by
  induction n with
  | zero=>rfl
  | succ n ih=>simp [List.replicate_succ]
 rw [e0,ez]
 refine ⟨rfl,by rw [List.length_map];omega,Yaq (by simp;omega),hQ _ _ (Xad (zaI (enumD (xs.map D.int)) (fun k δ st2=>∃ (v2 v3:Option D) (bs:List Int),δ=[some (.tup (xs.map D.int)),some (.ref (st ++ [O.lst [D.int 0]]).length),v2,v3]∧st2[(st ++ [O.lst [D.int 0]]).length]?=some (.lst (bs.map D.int))∧bs.length=n∧(∀ j,j < k→∀ x,xs[j]?=some x→bs[x.toNat]?=some (j:Int))∧Ex [] st st2) ?_ ?_ ?_ ?_))⟩
 ·refine Xaa ?_
  intro qhQ hQ
  set_option simprocs false in simp only [wpB]
  exact hQ _ _ ⟨rfl,none,none,_,rfl,Zah,by simp,fun j hj=>absurd hj (Nat.not_lt_zero _),(Ex.app0 _).app _⟩
 ·rw [ZaJ,List.length_map];omega
 ·have hB0:st.length≤(st ++ [O.lst [D.int 0]]).length:=by simp
  generalize (st ++ [O.lst [D.int 0]]).length=B at hB0 ⊢
  rintro k d δ st2 hd ⟨v2,v3,bs,rfl,hB,hbl,hbs,k2⟩
  obtain ⟨d',hd',rfl⟩:=zba hd
  obtain ⟨x,hx,rfl⟩:=YaT hd'
  obtain ⟨x0,x1⟩:=tn.bound (List.mem_of_getElem? hx)
  have hkl:=Zad hx
  refine Xaa ?_
  intro qhQ hQ
  set_option simprocs false in simp only [wpB]
  refine ⟨rfl,hQ _ _ (zaS ?_)⟩
  have hix:ixN (bs.map D.int).length x=some x.toNat:=by
   have:=za2 (n:=(bs.map D.int).length) (j:=x.toNat) (by rw [List.length_map];omega)
   rwa [Int.toNat_of_nonneg x0] at this
  have es:(bs.map D.int).set x.toNat (.int (k:Int))=(bs.set x.toNat (k:Int)).map D.int:=by rw [List.map_set]
  refine Xaa ?_
  intro qhQ2 hQ2
  set_option simprocs false in simp only [wpB]
  refine hQ2 _ _ ?_
  refine Xaa ?_
  intro qhQ3 hQ3
  set_option simprocs false in simp only [wpB,Xai hB,hix,es]
  refine hQ3 _ _ ⟨_,_,bs.set x.toNat (k:Int),rfl,List.getElem?_set_self (Zad hB),by rw [List.length_set];exact hbl,fun j hj y hy=>?_,k2.loc hB0⟩
  by_cases hjk:j=k
  ·subst hjk
   rw [hx] at hy
   cases hy
   rw [List.getElem?_set_self (by rw [hbl];omega)]
  ·obtain ⟨y0,y1⟩:=tn.bound (List.mem_of_getElem? hy)
   rw [List.getElem?_set_ne (fun z=>?_)]
   ·exact hbs j (by omega) y hy
   ·obtain ⟨h1,e1⟩:=List.getElem?_eq_some_iff.mp hx
    obtain ⟨h2,e2⟩:=List.getElem?_eq_some_iff.mp hy
    exact hjk ((List.getElem_inj tn.nodup).mp (show xs[j]=xs[k] by omega))
 ·rintro δ st2 ⟨v2,v3,bs,rfl,hB,hbl,hbs,k2⟩
  rw [ZaJ,List.length_map] at hbs
  have eb:bs=Mth.inv xs:=by
   apply List.ext_getElem?
   intro i
   by_cases hi:i < n
   ·have hm:=tn.mem (i:=(i:Int)) (by omega) (by omega)
    have hil:=List.idxOf_lt_length_of_mem hm
    have:=hbs (xs.idxOf (i:Int)) hil (i:Int) (by rw [List.getElem?_eq_getElem hil];exact congrArg some (List.getElem_idxOf hil))
    rw [Int.toNat_natCast] at this
    rw [this]
    have ea:=Mth.Xam (xs:=Mth.inv xs) (i:=(i:Int)) (by omega) (by rw [Mth.yaE];omega)
    rw [Int.toNat_natCast,Mth.Xa2 (by omega) (by omega)] at ea
    exact ea.symm
   ·rw [List.getElem?_eq_none (by omega),List.getElem?_eq_none (by rw [Mth.yaE];omega)]
  subst eb
  refine Zak ?_
  refine Xaa ?_
  intro qhQ hQ
  set_option simprocs false in simp only [wpB,zac hB]
  exact hQ _ _ ⟨rfl,k2⟩
theorem xaz {st:Store} {xs ys:List Int} (hb:∀ x∈xs,0≤x∧x < (ys.length:Int)) (hn:xs.length≤100):Wp (zak [.tup (xs.map D.int),.tup (ys.map D.int)] st) fun d st'=>d=.tup ((Mth.fol xs ys).map D.int)∧Ex [] st st':=by
 refine Xay ?_
 show Ws (yaL [some (.tup (xs.map D.int)),some (.tup (ys.map D.int))] st) _ _ _ _
 unfold yaL
 refine Zak ?_
 refine Xaa ?_
 intro qhQ hQ
 set_option simprocs false in simp only [wpB]
 refine xaj (xs.map D.int) (fun d=>.int (Mth.app ys (inD d))) ?_ (by rw [List.length_map];omega) ?_ ?_
 ·refine Xaa ?_
  intro qhQ2 hQ2
  set_option simprocs false in simp only [wpB]
  exact hQ2 _ _ ⟨XaD _ _,Ex.refl⟩
 ·intro d hd st1 k1
  obtain ⟨x,hx,rfl⟩:=zaz hd
  obtain ⟨x0,x1⟩:=hb x hx
  refine Xaa ?_
  intro qhQ2 hQ2
  set_option simprocs false in simp only [wpB,List.map_cons,List.map_nil,List.getD_cons_succ,List.getD_cons_zero,xay (xs:=ys) x0 x1]
  exact hQ2 _ _ ⟨rfl,Ex.refl⟩
 ·intro st' k'
  rw [yaM (f:=Mth.app ys) fun x hx=>rfl]
  set_option simprocs false in simp only [wpB]
  exact hQ _ _ ⟨rfl,k'.app _⟩
theorem Ybh {st:Store} {xs ys p:List Int} {n:Nat} (tx:Mth.Tn n xs) (ty:Mth.Tn n ys) (tp:Mth.Tn n p) (hn:n≤100):Wp (yau [flD xs ys,.tup (p.map D.int)] st) fun d st'=>d=flD (Mth.anew xs p) (Mth.anew ys p)∧Ex [] st st':=by
 have hlx:=tx.length
 have hly:=ty.length
 have hlp:=tp.length
 have ti:=tp.inv_tn
 have hli:=ti.length
 refine Xay ?_
 show Ws (Yaz [some (flD xs ys),some (.tup (p.map D.int)),none,none,none] st) _ _ _ _
 unfold Yaz flD
 refine Xad (yag ?_)
 refine Xaa ?_
 intro qhQ hQ
 set_option simprocs false in simp only [wpB]
 refine Yab (Xbb tp hn) ?_
 rintro d st1 ⟨rfl,k1⟩
 refine hQ _ _ (Xad (yag ?_))
 clear hQ
 refine Xaa ?_
 intro qhQ hQ
 set_option simprocs false in simp only [wpB]
 refine Yab (xaz (xs:=Mth.inv p) (ys:=xs) (fun x hx=>by rw [hlx];exact ti.bound hx) (by omega)) ?_
 rintro d st2 ⟨rfl,k2⟩
 refine Yab (xaz (xs:=Mth.fol (Mth.inv p) xs) (ys:=p) (fun x hx=>by rw [hlp];exact (ti.fol tx).bound hx) (by rw [Mth.ZaE];omega)) ?_
 rintro d st3 ⟨rfl,k3⟩
 refine hQ _ _ (Xad (yag ?_))
 clear hQ
 refine Xaa ?_
 intro qhQ hQ
 set_option simprocs false in simp only [wpB]
 refine Yab (xaz (xs:=Mth.inv p) (ys:=ys) (fun x hx=>by rw [hly];exact ti.bound hx) (by omega)) ?_
 rintro d st4 ⟨rfl,k4⟩
 refine Yab (xaz (xs:=Mth.fol (Mth.inv p) ys) (ys:=p) (fun x hx=>by rw [hlp];exact (ti.fol ty).bound hx) (by rw [Mth.ZaE];omega)) ?_
 rintro d st5 ⟨rfl,k5⟩
 refine hQ _ _ (Zak ?_)
 clear hQ
 refine Xaa ?_
 intro qhQ hQ
 set_option simprocs false in simp only [wpB]
 exact ⟨rfl,hQ _ _ ⟨rfl,(((k1.trans k2).trans k3).trans k4).trans k5⟩⟩
theorem ybD {F:List Int} {x:Int}:(!F.contains x)=true→Mth.addIf F x=F ++ [x]:=fun h=>by
 unfold Mth.addIf
 rw [if_neg fun z=>by rw [List.contains_iff_mem.mpr z] at h;cases h]
theorem Ybm {F:List Int} {x:Int}:(!F.contains x)=false→Mth.addIf F x=F:=fun h=>by
 unfold Mth.addIf
 rw [if_pos (List.contains_iff_mem.mp (by simpa using h))]
theorem zbc {st:Store} {xs ys:List Int} {n:Nat} {s:Int} (tx:Mth.Tn n xs) (ty:Mth.Tn n ys) (hn:n≤100) (s0:0≤s) (s1:s < (n:Int)):Wp (Xaq [flD xs ys,.int s] st) fun d st'=>d=.tup ((Mth.bf xs ys s n).map D.int)∧Ex [] st st':=by
 have hlx:=tx.length
 have hly:=ty.length
 refine Xay ?_
 show Ws (Zaw [some (flD xs ys),some (.int s),none,none,none,none] st) _ _ _ _
 unfold Zaw
 refine Xad (yag ?_)
 refine Xaa ?_
 intro qhQ hQ
 set_option simprocs false in simp only [wpB]
 refine ⟨rfl,hQ _ _ (Xad (yag ?_))⟩
 clear hQ
 refine Xaa ?_
 intro qhQ hQ
 set_option simprocs false in simp only [wpB]
 refine hQ _ _ (Xad (ZaT (fun m δ st2=>∃ (k:Nat) (v4 v5:Option D),m=n - k∧δ=[some (flD xs ys),some (.int s),some (.ref st.length),some (.int (k:Int)),v4,v5]∧st2[st.length]?=some (.lst ((Mth.bf xs ys s k).map D.int))∧k≤(Mth.bf xs ys s k).length∧Ex [] st st2) n (Nat.lt_of_le_of_lt hn (by decide)) ⟨0,none,none,by omega,rfl,Zah,Nat.zero_le _,Ex.app0 _⟩ ?_))
 clear hQ
 rintro m δ st2 ⟨k,v4,v5,rfl,rfl,hl,hk,k2⟩
 have hbl:=Mth.ya9 tx ty s0 s1 k
 refine Xaa ?_
 intro qhQ hQ
 set_option simprocs false in simp only [wpB,zac hl]
 refine hQ _ _ ⟨fun hlt=>?_,fun hlt=>?_⟩
 ·clear hQ
  have hlt:=of_decide_eq_true hlt
  rw [List.length_map] at hlt
  have hkl:k < (Mth.bf xs ys s k).length:=by omega
  obtain ⟨x,hx⟩:∃ x,(Mth.bf xs ys s k)[k]?=some x:=⟨_,List.getElem?_eq_getElem hkl⟩
  obtain ⟨x0,x1⟩:=Mth.yam tx ty s0 s1 k x (List.mem_of_getElem? hx)
  have e1:Mth.bf xs ys s (k + 1)=Mth.visit xs ys (Mth.bf xs ys s k) x:=by
   show (match (Mth.bf xs ys s k)[k]? with | some x=>Mth.visit xs ys (Mth.bf xs ys s k) x | none=>Mth.bf xs ys s k)=_
   rw [hx]
  have hb1:=Mth.ya9 tx ty s0 s1 (k + 1)
  rw [e1] at hb1
  have hp1:=(Mth.Xaw (Mth.addIf (Mth.bf xs ys s k) (Mth.app xs x)) (Mth.app ys x)).length_le
  have hp0:=(Mth.Xaw (Mth.bf xs ys s k) (Mth.app xs x)).length_le
  change _≤(Mth.visit xs ys (Mth.bf xs ys s k) x).length at hp1
  refine Xad (zaI [.tup (xs.map D.int),.tup (ys.map D.int)] (fun m δ st3=>∃ (v4 v5:Option D) (G:List Int),δ=[some (flD xs ys),some (.int s),some (.ref st.length),some (.int (k:Int)),v4,v5]∧st3[st.length]?=some (.lst (G.map D.int))∧(m=0→G=Mth.bf xs ys s k)∧(m=1→G=Mth.addIf (Mth.bf xs ys s k) (Mth.app xs x))∧(m=2→G=Mth.visit xs ys (Mth.bf xs ys s k) x)∧Ex [] st st3) ?_ (by simp) ?_ ?_)
  ·unfold flD
   refine Xaa ?_
   intro qhQ hQ
   set_option simprocs false in simp only [wpB]
   exact hQ _ _ ⟨rfl,v4,v5,_,rfl,hl,fun _=>rfl,fun z=>by omega,fun z=>by omega,k2⟩
  ·rintro m z δ st3 hm ⟨v4,v5,G,rfl,hl3,g0,g1,_,k3⟩
   have hm2:m < 2:=Zad hm
   obtain ⟨zs,rfl,tz,em⟩:∃ (zs:List Int),z=.tup (zs.map D.int)∧Mth.Tn n zs∧((m=0∧zs=xs)∨(m=1∧zs=ys)):=by
    rcases (show m=0∨m=1 by omega) with rfl | rfl
    ·exact ⟨xs,by simpa using hm.symm,tx,.inl ⟨rfl,rfl⟩⟩
    ·exact ⟨ys,by simpa using hm.symm,ty,.inr ⟨rfl,rfl⟩⟩
   have hG:G.length≤100∧G[k]?=some x:=by
    rcases em with ⟨rfl,_⟩ | ⟨rfl,_⟩
    ·rw [g0 rfl];exact ⟨by omega,hx⟩
    ·rw [g1 rfl]
     refine ⟨by omega,?_⟩
     obtain ⟨t,e⟩:=Mth.Xaw (Mth.bf xs ys s k) (Mth.app xs x)
     rw [← e,List.getElem?_append_left hkl];exact hx
   have nxt:∀ G',G'=Mth.addIf G (Mth.app zs x)→(m + 1=0→G'=Mth.bf xs ys s k)∧(m + 1=1→G'=Mth.addIf (Mth.bf xs ys s k) (Mth.app xs x))∧(m + 1=2→G'=Mth.visit xs ys (Mth.bf xs ys s k) x):=fun G' e=>by
    rcases em with ⟨rfl,rfl⟩ | ⟨rfl,rfl⟩
    ·exact ⟨fun z=>by omega,fun _=>by rw [e,g0 rfl],fun z=>by omega⟩
    ·exact ⟨fun z=>by omega,fun z=>by omega,fun _=>by rw [e,g1 rfl];rfl⟩
   have hat:atI (G.map D.int) (k:Int)=some (.int x):=yaP (by rw [List.getElem?_map,hG.2];rfl)
   refine Xaa ?_
   intro qhQ hQ
   set_option simprocs false in simp only [wpB]
   refine hQ _ _ (Xad (yag ?_))
   clear hQ
   refine Xaa ?_
   intro qhQ hQ
   set_option simprocs false in simp only [wpB,zac hl3,hat,xay (xs:=zs) x0 (by rw [tz.length];exact x1)]
   refine hQ _ _ (YaD ?_)
   clear hQ
   refine Xaa ?_
   intro qhQ hQ
   set_option simprocs false in simp only [wpB,Ybl (st:=st3) (c:=.ref st.length) (ns:=G) (zac hl3)]
   refine hQ _ _ ⟨fun hc=>xaG ?_,fun hc=>yan ?_⟩
   ·obtain ⟨n0,n1,n2⟩:=nxt (G ++ [Mth.app zs x]) (ybD hc).symm
    refine Xaa ?_
    intro qhQ2 hQ2
    set_option simprocs false in simp only [wpB,Xai hl3]
    refine ⟨Yav (by rw [zac hl3];rfl),Yaq (by rw [List.length_map];omega),hQ2 _ _ ⟨_,_,G ++ [Mth.app zs x],rfl,?_,n0,n1,n2,k3.loc (Nat.le_refl _)⟩⟩
    rw [List.getElem?_set_self (Zad hl3),List.map_append];rfl
   ·obtain ⟨n0,n1,n2⟩:=nxt G (Ybm hc).symm
    exact ⟨_,_,G,rfl,hl3,n0,n1,n2,k3⟩
  ·rintro δ st3 ⟨v4,v5,G,rfl,hl3,_,_,g2,k3⟩
   have g2:=g2 rfl
   subst g2
   refine yag ?_
   refine Xaa ?_
   intro qhQ hQ
   set_option simprocs false in simp only [wpB]
   refine hQ _ _ ⟨n - (k + 1),by omega,k + 1,v4,v5,rfl,by simp,by rw [e1];exact hl3,by rw [e1];omega,k3⟩
 ·have hlt:=of_decide_eq_false hlt
  rw [List.length_map] at hlt
  have hle:(Mth.bf xs ys s k).length≤k:=by omega
  have e:Mth.bf xs ys s n=Mth.bf xs ys s k:=by
   have:=Mth.ya3 hle (n - k)
   rwa [show k + (n - k)=n by omega] at this
  refine Zak ?_
  refine Xaa ?_
  intro qhQ2 hQ2
  set_option simprocs false in simp only [wpB,zac hl]
  rw [← e]
  exact hQ2 _ _ ⟨rfl,k2⟩
theorem YaO {st:Store} {Q:D→Store→Prop} {xs:List Int} {v:Int} (h:v∈xs):Wp (gIndex (.tup (xs.map D.int)) [.int v] st) Q↔Q (.int (xs.idxOf v:Int)) st:=by
 rw [Xbk]
 constructor
 ·rintro ⟨ns,j,h1,h2,q⟩
  rw [YbA] at h1
  cases h1
  rw [xbl h] at h2
  cases h2
  exact q
 ·intro q
  exact ⟨xs,_,YbA xs,xbl h,q⟩
theorem Yb3 {xs:List Int} {i:Int} {m:Nat} {j:Int} (h0:0≤j) (h1:j < ((m + 1:Nat):Int)):atI ((Mth.row xs i m).map D.int) j=some (.int (Mth.itr xs i j.toNat)):=by
 have e:((Mth.row xs i m).map D.int)[j.toNat]?=some (.int (Mth.itr xs i j.toNat)):=by
  unfold Mth.row
  rw [List.map_map,List.getElem?_map,List.getElem?_range (by omega)];rfl
 have:=yaP e
 rwa [Int.toNat_of_nonneg h0] at this
theorem ZbD {xs:List Int} {i:Int} {m:Nat}:atI ((Mth.row xs i m).map D.int) (-1)=some (.int (Mth.itr xs i m)):=by
 have hl:((Mth.row xs i m).map D.int).length=m + 1:=by rw [List.length_map,Mth.yaK]
 unfold atI ixN
 rw [if_neg (by decide),hl,if_pos (by omega),Option.bind_some,show ((-1:Int) + ((m + 1:Nat):Int)).toNat=m by omega]
 unfold Mth.row
 rw [List.map_map,List.getElem?_map,List.getElem?_range (by omega)];rfl
theorem xbh {st:Store} {xs:List Int} {n:Nat} {s k:Int} (tn:Mth.Tn n xs) (hn:n≤100) (s0:0≤s) (s1:s < (n:Int)):Wp (Yat [.tup (xs.map D.int),.int s,.int k] st) fun d st'=>d=.int (Mth.pw xs k s)∧Ex [] st st':=by
 have hlen:=tn.length
 refine Xay ?_
 show Ws (yaz [some (.tup (xs.map D.int)),some (.int s),some (.int k),none] st) _ _ _ _
 unfold yaz
 refine Xad (YaQ (N:=fun δ st1=>∃ (zs:List Int) (j:Nat),δ=[some (.tup (zs.map D.int)),some (.int s),some (.int (j:Int)),none]∧Mth.Tn n zs∧Mth.itr zs s j=Mth.pw xs k s∧Ex [] st st1) (YaD ?_) ?_)
 ·refine Xaa ?_
  intro qhQ hQ
  set_option simprocs false in simp only [wpB]
  refine hQ _ _ ⟨fun h=>?_,fun h=>yan ⟨xs,k.toNat,?_,tn,?_,Ex.refl⟩⟩
  ·have h:=of_decide_eq_true h
   clear hQ
   refine Xad (yag ?_)
   refine Xaa ?_
   intro qhQ hQ
   set_option simprocs false in simp only [wpB]
   refine xaj (rangeD 0 n) (fun d=>.int (xs.idxOf (inD d):Int)) ?_ (by rw [xab];omega) ?_ ?_
   ·refine Xaa ?_
    intro qhQ2 hQ2
    set_option simprocs false in simp only [wpB]
    rw [List.length_map,hlen]
    exact ⟨by omega,hQ2 _ _ ⟨by rw [Int.toNat_natCast];exact XaD _ _,Ex.refl⟩⟩
   ·intro d hd st7 k7
    rw [yaf] at hd
    obtain ⟨x,hx,rfl⟩:=zaz hd
    obtain ⟨x0,x1⟩:=Mth.Xag.mp hx
    refine Xaa ?_
    intro qhQ2 hQ2
    set_option simprocs false in simp only [wpB,List.map_cons,List.map_nil,List.getD_cons_succ,List.getD_cons_zero,Xbz,YaO (tn.mem x0 x1)]
    exact hQ2 _ _ ⟨rfl,Ex.refl⟩
   ·intro st7 k7
    have e:(rangeD 0 n).map (fun d=>D.int (xs.idxOf (inD d):Int))=(Mth.inv xs).map D.int:=by
     rw [yaf,yaM (f:=fun x=>(xs.idxOf x:Int)) fun x hx=>rfl]
     unfold Mth.inv
     rw [hlen]
    rw [e]
    set_option simprocs false in simp only [wpB]
    refine hQ _ _ (yag ?_)
    clear hQ
    refine Xaa ?_
    intro qhQ hQ
    set_option simprocs false in simp only [wpB]
    refine hQ _ _ ⟨Mth.inv xs,(-k).toNat,?_,tn.inv_tn,?_,k7.app _⟩
    ·rw [show (0:Int) - k=(((-k).toNat:Nat):Int) by omega];rfl
    ·unfold Mth.pw;rw [if_neg (by omega)]
  ·have h:=of_decide_eq_false h
   rw [Int.toNat_of_nonneg (by omega)]
  ·have h:=of_decide_eq_false h
   unfold Mth.pw;rw [if_pos (by omega)]
 rintro δ st1 ⟨zs,j,rfl,tz,ej,k1⟩
 have hlz:=tz.length
 refine Xad (yag ?_)
 refine Xaa ?_
 intro qhQ hQ
 set_option simprocs false in simp only [wpB]
 refine ⟨rfl,hQ _ _ (Xad (ZaT (fun m δ st2=>∃ k:Nat,m=n - (k + 1)∧δ=[some (.tup (zs.map D.int)),some (.int s),some (.int (j:Int)),some (.ref st1.length)]∧st2[st1.length]?=some (.lst ((Mth.row zs s k).map D.int))∧Mth.NB zs s k∧Ex [] st1 st2) (n - 1) (Nat.lt_of_le_of_lt (show n - 1≤100 by omega) (by decide)) ⟨0,rfl,rfl,Zah,fun j h1 h2=>by omega,Ex.app0 _⟩ ?_))⟩
 clear hQ
 rintro m δ st2 ⟨k',rfl,rfl,hL,nb,k2⟩
 have hrl:=tz.row_le s0 s1 nb
 obtain ⟨y0,y1⟩:=tz.itr s0 s1 k'
 refine Xaa ?_
 intro qhQ hQ
 set_option simprocs false in simp only [wpB,zac hL,ZbD,xay (xs:=zs) y0 (by omega)]
 refine hQ _ _ ⟨fun hb=>?_,fun hb=>?_⟩
 ·have hb:Mth.itr zs s (k' + 1)≠s:=by show Mth.app zs (Mth.itr zs s k')≠s;simpa using hb
  have nb':Mth.NB zs s (k' + 1):=fun j h1 h2=>by
   by_cases hj:j≤k'
   ·exact nb j h1 hj
   ·have:j=k' + 1:=by omega
    rw [this];exact hb
  have hle:=tz.row_le s0 s1 nb'
  refine xaG ?_
  refine Xaa ?_
  intro qhQ2 hQ2
  set_option simprocs false in simp only [wpB,zac hL,ZbD,xay (xs:=zs) y0 (by omega),Xai hL]
  refine ⟨Yav (by rw [zac hL];rfl),Yaq (by rw [List.length_map,Mth.yaK];omega),hQ2 _ _ ⟨n - (k' + 1 + 1),by omega,k' + 1,rfl,rfl,?_,nb',k2.loc (Nat.le_refl _)⟩⟩
  rw [List.getElem?_set_self (Zad hL),Mth.ybI,List.map_append];rfl
 ·have hb:Mth.itr zs s (k' + 1)=s:=by show Mth.app zs (Mth.itr zs s k')=s;simpa using hb
  refine Zak ?_
  have hpos:(0:Int) < ((k' + 1:Nat):Int):=by omega
  have eL:((((Mth.row zs s k').map D.int).length:Nat):Int)=((k' + 1:Nat):Int):=by rw [List.length_map,Mth.yaK]
  refine Xaa ?_
  intro qhQ2 hQ2
  set_option simprocs false in simp only [wpB,zac hL,eL,Yb3 (Int.emod_nonneg (j:Int) (Int.ne_of_gt hpos)) (Int.emod_lt_of_pos (j:Int) hpos)]
  refine ⟨hpos,hQ2 _ _ ⟨?_,k1.trans k2⟩⟩
  rw [← ej,show ((j:Int) % ((k' + 1:Nat):Int)).toNat=j % (k' + 1) by omega,Mth.YbI hb]
theorem Zbp {st:Store} {xs ys:List Int} {n:Nat} {k:Int} (tx:Mth.Tn n xs) (ty:Mth.Tn n ys) (hn:n≤100):Wp (zaj [flD xs ys,.tup [.str "s",.int k]] st) fun d st'=>d=flD xs (Mth.shr xs ys k)∧Ex [] st st':=by
 have hlx:=tx.length
 have hly:=ty.length
 refine Xay ?_
 show Ws (xal [some (flD xs ys),some (.tup [.str "s",.int k]),none,none,none] st) _ _ _ _
 unfold xal flD
 refine Xad (zaS ?_)
 refine Xaa ?_
 intro qhQ hQ
 set_option simprocs false in simp only [wpB]
 refine hQ _ _ ?_
 clear hQ
 refine Xaa ?_
 intro qhQ hQ
 set_option simprocs false in simp only [wpB]
 refine ⟨rfl,hQ _ _ (Xad (YaD ?_))⟩
 clear hQ
 refine Xaa ?_
 intro qhQ hQ
 set_option simprocs false in simp only [wpB]
 refine hQ _ _ ⟨fun _=>Zak ?_,fun h=>absurd h (by simp)⟩
 clear hQ
 refine Xaa ?_
 intro qhQ hQ
 set_option simprocs false in simp only [wpB]
 refine xaj (rangeD 0 n) (fun d=>.int (Mth.app ys (Mth.pw xs (-k) (inD d)))) ?_ (by rw [xab];omega) ?_ ?_
 ·refine Xaa ?_
  intro qhQ2 hQ2
  set_option simprocs false in simp only [wpB]
  rw [List.length_map,hly]
  exact ⟨by omega,hQ2 _ _ ⟨by rw [Int.toNat_natCast];exact XaD _ _,Ex.refl⟩⟩
 ·intro d hd st7 k7
  rw [yaf] at hd
  obtain ⟨x,hx,rfl⟩:=zaz hd
  obtain ⟨x0,x1⟩:=Mth.Xag.mp hx
  obtain ⟨p0,p1⟩:=tx.pw x0 x1 (-k)
  refine Xaa ?_
  intro qhQ2 hQ2
  set_option simprocs false in simp only [wpB,List.map_cons,List.map_nil,List.getD_cons_succ,List.getD_cons_zero]
  refine Yab (xbh (k:=0 - k) tx hn x0 x1) ?_
  rintro d st8 ⟨rfl,k8⟩
  rw [show (0:Int) - k=-k by omega]
  set_option simprocs false in simp only [wpB,xay (xs:=ys) p0 (by omega)]
  exact hQ2 _ _ ⟨rfl,k8⟩
 ·intro st7 k7
  have e:(rangeD 0 n).map (fun d=>D.int (Mth.app ys (Mth.pw xs (-k) (inD d))))=(Mth.shr xs ys k).map D.int:=by
   rw [yaf,yaM (f:=fun x=>Mth.app ys (Mth.pw xs (-k) x)) fun x hx=>rfl]
   unfold Mth.shr Mth.fol Mth.pws
   rw [hlx,List.map_map,List.map_map,List.map_map]
   rfl
  rw [e]
  set_option simprocs false in simp only [wpB]
  exact ⟨rfl,hQ _ _ ⟨rfl,k7.app _⟩⟩
noncomputable def qtr (xs ys:List Int):Nat→List Int×List Int
 | 0=>(xs,ys)
 | j + 1=>(Mth.inv (qtr xs ys j).2,(qtr xs ys j).1)
theorem xbm {n:Nat} {xs ys:List Int} (tx:Mth.Tn n xs) (ty:Mth.Tn n ys):∀ j,Mth.Tn n (qtr xs ys j).1∧Mth.Tn n (qtr xs ys j).2
 | 0=>⟨tx,ty⟩
 | j + 1=>⟨(xbm tx ty j).2.inv_tn,(xbm tx ty j).1⟩
theorem Ybp {st:Store} {xs ys:List Int} {n j:Nat} (tx:Mth.Tn n xs) (ty:Mth.Tn n ys) (hn:n≤100) (hj:j < 4):Wp (zaj [flD xs ys,.tup [.str "t",.int (j:Int)]] st) fun d st'=>d=flD (qtr xs ys j).1 (qtr xs ys j).2∧Ex [] st st':=by
 refine Xay ?_
 show Ws (xal [some (flD xs ys),some (.tup [.str "t",.int (j:Int)]),none,none,none] st) _ _ _ _
 unfold xal flD
 refine Xad (zaS ?_)
 refine Xaa ?_
 intro qhQ hQ
 set_option simprocs false in simp only [wpB]
 refine hQ _ _ ?_
 clear hQ
 refine Xaa ?_
 intro qhQ hQ
 set_option simprocs false in simp only [wpB]
 refine ⟨rfl,hQ _ _ (Xad (YaD ?_))⟩
 clear hQ
 refine Xaa ?_
 intro qhQ hQ
 set_option simprocs false in simp only [wpB]
 refine hQ _ _ ⟨fun h=>absurd h (by decide),fun _=>yan (Xad (zaI (rangeD 0 j) (fun i δ st2=>∃ v4:Option D,δ=[some (.tup [.tup (xs.map D.int),.tup (ys.map D.int)]),some (.tup [.str "t",.int (j:Int)]),some (.tup ((qtr xs ys i).1.map D.int)),some (.tup ((qtr xs ys i).2.map D.int)),v4]∧Ex [] st st2) ?_ (by rw [xab];omega) ?_ ?_))⟩
 ·clear hQ
  refine Xaa ?_
  intro qhQ hQ
  set_option simprocs false in simp only [wpB]
  rw [show (j:Int) % 4=(j:Int) by omega]
  exact ⟨by omega,by omega,hQ _ _ ⟨by rw [Int.toNat_natCast],none,rfl,Ex.refl⟩⟩
 ·rintro i d δ st2 hd ⟨v4,rfl,k2⟩
  obtain ⟨ta,tb⟩:=xbm tx ty i
  show Wp _ _
  have hlb:=tb.length
  generalize hzs:(qtr xs ys i).2=zs at tb hlb ⊢
  clear hQ
  refine Xaa ?_
  intro qhQ hQ
  set_option simprocs false in simp only [wpB]
  refine hQ _ _ (zaS ?_)
  clear hQ
  refine Xaa ?_
  intro qhQ hQ
  set_option simprocs false in simp only [wpB]
  refine xaj (rangeD 0 n) (fun d=>.int (zs.idxOf (inD d):Int)) ?_ (by rw [xab];omega) ?_ ?_
  ·refine Xaa ?_
   intro qhQ2 hQ2
   set_option simprocs false in simp only [wpB]
   rw [List.length_map,hlb]
   exact ⟨by omega,hQ2 _ _ ⟨by rw [Int.toNat_natCast];exact XaD _ _,Ex.refl⟩⟩
  ·intro d hd st7 k7
   rw [yaf] at hd
   obtain ⟨x,hx,rfl⟩:=zaz hd
   obtain ⟨x0,x1⟩:=Mth.Xag.mp hx
   refine Xaa ?_
   intro qhQ2 hQ2
   set_option simprocs false in simp only [wpB,List.map_cons,List.map_nil,List.getD_cons_succ,List.getD_cons_zero,Xbz,YaO (tb.mem x0 x1)]
   exact hQ2 _ _ ⟨rfl,Ex.refl⟩
  ·intro st7 k7
   have e:(rangeD 0 n).map (fun d=>D.int (zs.idxOf (inD d):Int))=(Mth.inv zs).map D.int:=by
    rw [yaf,yaM (f:=fun x=>(zs.idxOf x:Int)) fun x hx=>rfl]
    unfold Mth.inv
    rw [hlb]
   rw [e]
   set_option simprocs false in simp only [wpB]
   refine ⟨rfl,hQ _ _ ?_⟩
   clear hQ
   refine Xaa ?_
   intro qhQ hQ
   set_option simprocs false in simp only [wpB]
   refine ⟨rfl,hQ _ _ ⟨some d,?_,(k2.trans k7).app _⟩⟩
   rw [show (qtr xs ys (i + 1)).1=Mth.inv (qtr xs ys i).2 from rfl,show (qtr xs ys (i + 1)).2=(qtr xs ys i).1 from rfl,hzs]
 ·rintro δ st2 ⟨v4,rfl,k2⟩
  rw [xab]
  refine Zak ?_
  clear hQ
  refine Xaa ?_
  intro qhQ hQ
  set_option simprocs false in simp only [wpB]
  exact ⟨rfl,hQ _ _ ⟨rfl,k2⟩⟩
noncomputable def okS (s:Stp):Prop:=(s.1=false→1≤s.2∧s.2≤3)∧-1000≤s.2∧s.2≤1000
noncomputable def stepW (p:List Int×List Int) (s:Stp):List Int×List Int:=if s.1=true then (p.1,Mth.shr p.1 p.2 s.2) else qtr p.1 p.2 s.2.toNat
noncomputable def ledW (p:List Int×List Int) (w:List Stp):List Int×List Int:=w.foldl stepW p
theorem zbN {n:Nat} {p:List Int×List Int} (h:Mth.Tn n p.1∧Mth.Tn n p.2) (s:Stp):Mth.Tn n (stepW p s).1∧Mth.Tn n (stepW p s).2:=by
 unfold stepW
 split
 ·exact ⟨h.1,h.1.shr h.2 _⟩
 ·exact xbm h.1 h.2 _
theorem YbD {n:Nat}:∀ {p:List Int×List Int},Mth.Tn n p.1∧Mth.Tn n p.2→∀ w:List Stp,Mth.Tn n (ledW p w).1∧Mth.Tn n (ledW p w).2
 | _,h,[]=>h
 | _,h,s :: w=>YbD (zbN h s) w
theorem ybN (p:List Int×List Int) (v w:List Stp):ledW p (v ++ w)=ledW (ledW p v) w:=by unfold ledW;rw [List.foldl_append]
theorem xbD (p:List Int×List Int) (w:List Stp) (s:Stp):ledW p (w ++ [s])=stepW (ledW p w) s:=by rw [ybN];rfl
noncomputable def flP (p:List Int×List Int):D:=flD p.1 p.2
theorem ybc {st:Store} {p:List Int×List Int} {n:Nat} {s:Stp} (h:Mth.Tn n p.1∧Mth.Tn n p.2) (hn:n≤100) (hs:okS s):Wp (zaj [flP p,stD s] st) fun d st'=>d=flP (stepW p s)∧Ex [] st st':=by
 obtain ⟨b,k⟩:=s
 cases b with
 | true=>exact Zbp (k:=k) h.1 h.2 hn
 | false =>
  obtain ⟨k1,k3⟩:=hs.1 rfl
  obtain ⟨j,rfl⟩:∃ j:Nat,k=(j:Int):=⟨k.toNat,by simp only at k1;omega⟩
  have:=Ybp (st:=st) (j:=j) h.1 h.2 hn (by simp only at k3;omega)
  refine Yab this ?_
  rintro d st1 ⟨rfl,k1⟩
  refine ⟨?_,k1⟩
  unfold flP stepW
  rw [if_neg (show ¬ (false=true) from Bool.false_ne_true),Int.toNat_natCast]
theorem Xbh {st:Store} {p:List Int×List Int} {n:Nat} {w:List Stp} (h:Mth.Tn n p.1∧Mth.Tn n p.2) (hn:n≤100) (hw:∀ s∈w,okS s) (hl:w.length≤1000):Wp (yaF [flP p,.tup (w.map stD)] st) fun d st'=>d=flP (ledW p w)∧Ex [] st st':=by
 refine Xay ?_
 show Ws (XaK [some (flP p),some (.tup (w.map stD)),none] st) _ _ _ _
 unfold XaK
 refine Xad (zaI (w.map stD) (fun i δ st2=>∃ v2:Option D,δ=[some (flP (ledW p (w.take i))),some (.tup (w.map stD)),v2]∧Ex [] st st2) ?_ (by rw [List.length_map];omega) ?_ ?_)
 ·refine Xaa ?_
  intro qhQ hQ
  set_option simprocs false in simp only [wpB]
  exact hQ _ _ ⟨rfl,none,rfl,Ex.refl⟩
 ·rintro i d δ st2 hd ⟨v2,rfl,k2⟩
  rw [List.getElem?_map] at hd
  obtain ⟨s,hs,rfl⟩:=Option.map_eq_some_iff.mp hd
  obtain ⟨hil,es⟩:=List.getElem?_eq_some_iff.mp hs
  refine Xaa ?_
  intro qhQ hQ
  set_option simprocs false in simp only [wpB]
  refine hQ _ _ (yag ?_)
  clear hQ
  refine Xaa ?_
  intro qhQ hQ
  set_option simprocs false in simp only [wpB]
  refine Yab (ybc (YbD h _) hn (hw s (List.mem_of_getElem? hs))) ?_
  rintro d st3 ⟨rfl,k3⟩
  refine hQ _ _ ⟨some (stD s),?_,k2.trans k3⟩
  rw [List.take_succ_eq_append_getElem hil,xbD,es]
  rfl
 ·rintro δ st2 ⟨v2,rfl,k2⟩
  rw [List.length_map,List.take_length]
  refine Zak ?_
  refine Xaa ?_
  intro qhQ hQ
  set_option simprocs false in simp only [wpB]
  exact hQ _ _ ⟨rfl,k2⟩
noncomputable def okG (g:Int) (s:Stp):Prop:=(s.1=false→1≤s.2∧s.2≤3)∧(s.2.natAbs:Int)≤g∧s.2≠0
theorem xbp {st:Store} {f:Nat} {most great:Int} (hf:FeedIs st f) (m0:0≤most) (m1:most≤100) (g0:3≤great) (g1:great≤1000):Wp (ZaB [.ref f,.int most,.int great] st) fun d st'=>∃ w:List Stp,d=.tup (w.map stD)∧(∀ s∈w,okG great s)∧(w.length:Int)≤most∧FeedIs st' f∧Ex [f] st st':=by
 have hfl:=hf.lt
 refine Xay ?_
 show Ws (yaH [some (.ref f),some (.int most),some (.int great),none,none] st) _ _ _ _
 unfold yaH
 refine Xad (yag ?_)
 refine Xaa ?_
 intro qhQ hQ
 set_option simprocs false in simp only [wpB]
 refine ⟨rfl,hQ _ _ ?_⟩
 clear hQ
 show Ws _ _ _ _ _
 obtain ⟨d,st1,e1,c,rfl,c0,c1,f1,k1⟩:=Yao (st:=st ++ [O.lst []]) (n:=most + 1) (hf.keep (Ex.app0 _)) (by omega) (by omega)
 obtain ⟨m,rfl⟩:∃ m:Nat,c=(m:Int):=⟨c.toNat,by omega⟩
 have hl1:st1[st.length]?=some (.lst []):=k1.keep _ _ Zah (by simp;omega)
 have kx:Ex [f] st st1:=(Ex.app0 _).trans k1
 refine Xad (zaI (rangeD 0 m) (fun i δ st2=>∃ (v4:Option D) (w:List Stp),δ=[some (.ref f),some (.int most),some (.int great),some (.ref st.length),v4]∧st2[st.length]?=some (.lst (w.map stD))∧(∀ s∈w,okG great s)∧w.length≤i∧FeedIs st2 f∧Ex [f] st st2) ?_ (by rw [xab];omega) ?_ ?_)
 ·refine Xaa ?_
  intro qhQ hQ
  set_option simprocs false in simp only [wpB]
  refine ⟨_,_,e1,?_⟩
  exact ⟨_,rfl,by omega,hQ _ _ ⟨by rw [Int.toNat_natCast],none,[],rfl,hl1,(fun s hs=>nomatch hs),Nat.le_refl _,f1,kx⟩⟩
 ·rintro i d δ st2 hd ⟨v4,w,rfl,hl2,hw,hwl,f2,k2⟩
  have hil:=Zad hd
  rw [xab] at hil
  have put:∀ (s:Stp) (st5:Store),okG great s→FeedIs st5 f→st5[st.length]?=some (.lst (w.map stD))→Ex [f] st st5→∀ v4:Option D,∃ (v4':Option D) (w':List Stp),[some (.ref f),some (.int most),some (.int great),some (.ref st.length),v4]=[some (.ref f),some (.int most),some (.int great),some (.ref st.length),v4']∧(st5.set st.length (.lst (w.map stD ++ [stD s])))[st.length]?=some (.lst (w'.map stD))∧(∀ s∈w',okG great s)∧w'.length≤i + 1∧FeedIs (st5.set st.length (.lst (w.map stD ++ [stD s]))) f∧Ex [f] st (st5.set st.length (.lst (w.map stD ++ [stD s]))):=fun s st5 os f5 h5 k5 v4=>by
   refine ⟨v4,w ++ [s],rfl,?_,fun s' hs'=>?_,by rw [List.length_append];simp;omega,f5.ne (by omega),k5.loc (Nat.le_refl _)⟩
   ·rw [List.getElem?_set_self (Zad h5),List.map_append];rfl
   ·rcases List.mem_append.mp hs' with h | h
    ·exact hw s' h
    ·rw [List.mem_singleton.mp h];exact os
  refine Xaa ?_
  intro qhQ hQ
  set_option simprocs false in simp only [wpB]
  refine hQ _ _ (YaD ?_)
  clear hQ
  refine Xaa ?_
  intro qhQ hQ
  set_option simprocs false in simp only [wpB]
  refine Yab (Yao (n:=2) f2 (by decide) (by decide)) ?_
  rintro d' st3 ⟨b,rfl,b0,b1,f3,k3⟩
  have hl3:=k3.keep _ _ hl2 (by simp;omega)
  set_option simprocs false in simp only [wpB]
  refine hQ _ _ ⟨fun _=>xaG ?_,fun _=>Xad (yag ?_)⟩
  ·clear hQ
   refine Xaa ?_
   intro qhQ hQ
   set_option simprocs false in simp only [wpB]
   refine ⟨Yav (by rw [zac hl3];rfl),?_⟩
   refine Yab (Yao (n:=3) f3 (by decide) (by decide)) ?_
   rintro d' st4 ⟨c,rfl,c0,c1,f4,k4⟩
   have hl4:=k4.keep _ _ hl3 (by simp;omega)
   set_option simprocs false in simp only [wpB,Xai hl4]
   refine ⟨rfl,Yaq (by rw [List.length_map];omega),hQ _ _ ?_⟩
   exact put (false,1 + c) st4 ⟨fun _=>⟨by show 1≤1 + c;omega,by show 1 + c≤3;omega⟩,by show ((1 + c).natAbs:Int)≤great;omega,by show 1 + c≠0;omega⟩ f4 hl4 ((k2.trans k3).trans k4) _
  ·clear hQ
   refine Xaa ?_
   intro qhQ hQ
   set_option simprocs false in simp only [wpB]
   refine Yab (Yao (n:=great) f3 (by omega) (by omega)) ?_
   rintro d' st4 ⟨c,rfl,c0,c1,f4,k4⟩
   have hl4:=k4.keep _ _ hl3 (by simp;omega)
   set_option simprocs false in simp only [wpB]
   refine hQ _ _ (xaG ?_)
   clear hQ
   refine Xaa ?_
   intro qhQ hQ
   set_option simprocs false in simp only [wpB]
   refine ⟨Yav (by rw [zac hl4];rfl),rfl,?_⟩
   refine Yab (Yao (n:=2) (f4.keep (Ex.app0 [O.lst [D.int (1 + c),D.int (0 - (1 + c))]])) (by decide) (by decide)) ?_
   rintro d' st5 ⟨g,rfl,g0',g1',f5,k5⟩
   have hi5:st5[st4.length]?=some (.lst [D.int (1 + c),D.int (0 - (1 + c))]):=k5.keep _ _ Zah (by have:=f4.lt;simp;omega)
   have hl5:st5[st.length]?=some (.lst (w.map stD)):=k5.keep _ _ (zam hl4) (by simp;omega)
   obtain ⟨sg,hsg,s1,s2⟩:∃ sg:Int,atI [D.int (1 + c),D.int (0 - (1 + c))] g=some (.int sg)∧(sg.natAbs:Int)≤great∧sg≠0:=by
    rcases (show g=0∨g=1 by omega) with rfl | rfl
    ·exact ⟨1 + c,at0 _ _,by omega,by omega⟩
    ·exact ⟨0 - (1 + c),at1 _ _ _,by omega,by omega⟩
   set_option simprocs false in simp only [wpB,zac hi5,hsg,Xai hl5]
   refine ⟨rfl,Yaq (by rw [List.length_map];omega),hQ _ _ ?_⟩
   exact put (true,sg) st5 ⟨fun z=>Bool.noConfusion (show true=false from z),s1,s2⟩ f5 hl5 (((k2.trans k3).trans k4).trans ((Ex.app0 _).trans k5)) _
 ·rintro δ st2 ⟨v4,w,rfl,hl2,hw,hwl,f2,k2⟩
  rw [xab] at hwl
  refine Zak ?_
  refine Xaa ?_
  intro qhQ hQ
  set_option simprocs false in simp only [wpB,zac hl2]
  exact hQ _ _ ⟨w,rfl,hw,by omega,f2,k2⟩
theorem YaY {st:Store} {xs ys:List Int} {n:Nat} {s:Int} (fl:IsFl n xs ys) (hn:n≤100) (s0:0≤s) (s1:s < (n:Int)):Wp (Zal [flD xs ys,.int s] st) fun d st'=>d=.tup ((Mth.inv (Mth.bf xs ys s n)).map D.int)∧Ex [] st st':=by
 obtain ⟨tx,ty,all⟩:=fl
 refine Xay ?_
 show Ws (Zar [some (flD xs ys),some (.int s)] st) _ _ _ _
 unfold Zar
 refine Zak ?_
 refine Xaa ?_
 intro qhQ hQ
 set_option simprocs false in simp only [wpB]
 refine Yab (zbc tx ty hn s0 s1) ?_
 rintro d st1 ⟨rfl,k1⟩
 refine Yab (Xbb (Mth.xbI tx ty s0 s1 all) hn) ?_
 rintro d st2 ⟨rfl,k2⟩
 exact hQ _ _ ⟨rfl,k1.trans k2⟩
noncomputable def numD (xs ys:List Int) (s:Int) (n:Nat):D:=flD (Mth.num xs (Mth.bf xs ys s n)) (Mth.num ys (Mth.bf xs ys s n))
theorem Za5 {st:Store} {xs ys:List Int} {n:Nat} {s:Int} (fl:IsFl n xs ys) (hn:n≤100) (s0:0≤s) (s1:s < (n:Int)):Wp (zao [flD xs ys,.int s] st) fun d st'=>d=numD xs ys s n∧Ex [] st st':=by
 have fl':=fl
 obtain ⟨tx,ty,all⟩:=fl
 have tb:=Mth.xbI tx ty s0 s1 all
 refine Xay ?_
 show Ws (Yau [some (flD xs ys),some (.int s)] st) _ _ _ _
 unfold Yau
 refine Zak ?_
 refine Xaa ?_
 intro qhQ hQ
 set_option simprocs false in simp only [wpB]
 refine Yab (YaY fl' hn s0 s1) ?_
 rintro d st1 ⟨rfl,k1⟩
 refine Yab (Ybh tx ty tb.inv_tn hn) ?_
 rintro d st2 ⟨rfl,k2⟩
 rw [Mth.xaC tx tb,Mth.xaC ty tb]
 exact hQ _ _ ⟨rfl,k1.trans k2⟩
theorem zbi {st:Store} {xs ys:List Int} {n:Nat} {s:Int} (fl:IsFl n xs ys) (hn:n≤100) (s0:0≤s) (s1:s < (n:Int)):Wp (xan [flD xs ys,.int s] st) fun d st'=>d=numD xs ys s n∧Ex [] st st':=by
 obtain ⟨tx,ty,all⟩:=fl
 have hlx:=tx.length
 have hly:=ty.length
 refine Xay ?_
 show Ws (zau [some (flD xs ys),some (.int s),none,none,none] st) _ _ _ _
 unfold zau
 refine Xad (yag ?_)
 refine Xaa ?_
 intro qhQ hQ
 set_option simprocs false in simp only [wpB]
 refine ⟨rfl,hQ _ _ (Xad (xbf ((Mth.upto n).map D.int) (st.length + 2) (fun k δ st2=>∃ (v3 v4:Option D),δ=[some (flD xs ys),some (.int s),some (.ref st.length),v3,v4]∧st2[st.length]?=some (.lst ((Mth.bf xs ys s k).map D.int))∧st2[st.length + 2]?=some (.lst ((Mth.upto n).map D.int))∧Ex [] st st2) ?_ ?_ ?_ ?_ ?_))⟩
 ·clear hQ
  unfold flD
  refine Xaa ?_
  intro qhQ hQ
  set_option simprocs false in simp only [wpB]
  rw [List.length_map,hlx,show ((n:Int) - 0).toNat=n by omega,yaf]
  have e:(st ++ [O.lst [D.int s]] ++ [O.rng 0 (n:Int)]).length=st.length + 2:=by simp
  rw [e]
  exact ⟨xaD (by omega),hQ _ _ ⟨rfl,none,none,rfl,zam (zam Zah),by rw [← e];exact Zah,((Ex.app0 _).app _).app _⟩⟩
 ·rw [List.length_map,Mth.Xae];omega
 ·rintro k δ st2 ⟨_,_,_,_,h,_⟩
  exact zac h
 ·rintro k d δ st2 hd ⟨v3,v4,rfl,hl,hr,k2⟩
  obtain ⟨x',hx',rfl⟩:=YaT hd
  have hkn:=Zad hx'
  rw [Mth.Xae] at hkn
  rw [Mth.XaN hkn] at hx'
  cases hx'
  have hbl:=Mth.ya9 tx ty s0 s1 k
  have hb1:=Mth.ya9 tx ty s0 s1 (k + 1)
  clear hQ
  refine Xaa ?_
  intro qhQ hQ
  set_option simprocs false in simp only [wpB]
  refine hQ _ _ ?_
  clear hQ
  by_cases hkl:k < (Mth.bf xs ys s k).length
  ·obtain ⟨x,hx⟩:∃ x,(Mth.bf xs ys s k)[k]?=some x:=⟨_,List.getElem?_eq_getElem hkl⟩
   obtain ⟨x0,x1⟩:=Mth.yam tx ty s0 s1 k x (List.mem_of_getElem? hx)
   have e1:Mth.bf xs ys s (k + 1)=Mth.visit xs ys (Mth.bf xs ys s k) x:=by
    show (match (Mth.bf xs ys s k)[k]? with | some x=>Mth.visit xs ys (Mth.bf xs ys s k) x | none=>Mth.bf xs ys s k)=_
    rw [hx]
   rw [e1] at hb1 ⊢
   have hp1:=(Mth.Xaw (Mth.addIf (Mth.bf xs ys s k) (Mth.app xs x)) (Mth.app ys x)).length_le
   have hp0:=(Mth.Xaw (Mth.bf xs ys s k) (Mth.app xs x)).length_le
   change _≤(Mth.visit xs ys (Mth.bf xs ys s k) x).length at hp1
   refine zaI [.tup (xs.map D.int),.tup (ys.map D.int)] (fun m δ st3=>∃ (v4:Option D) (G:List Int),δ=[some (flD xs ys),some (.int s),some (.ref st.length),some (.int (k:Int)),v4]∧st3[st.length]?=some (.lst (G.map D.int))∧st3[st.length + 2]?=some (.lst ((Mth.upto n).map D.int))∧(m=0→G=Mth.bf xs ys s k)∧(m=1→G=Mth.addIf (Mth.bf xs ys s k) (Mth.app xs x))∧(m=2→G=Mth.visit xs ys (Mth.bf xs ys s k) x)∧Ex [] st st3) ?_ (by simp) ?_ ?_
   ·unfold flD
    refine Xaa ?_
    intro qhQ hQ
    set_option simprocs false in simp only [wpB]
    exact hQ _ _ ⟨rfl,v4,_,rfl,hl,hr,fun _=>rfl,fun z=>by omega,fun z=>by omega,k2⟩
   ·rintro m z δ st3 hm ⟨v4,G,rfl,hl3,hr3,g0,g1,_,k3⟩
    have hm2:m < 2:=Zad hm
    obtain ⟨zs,rfl,tz,em⟩:∃ (zs:List Int),z=.tup (zs.map D.int)∧Mth.Tn n zs∧((m=0∧zs=xs)∨(m=1∧zs=ys)):=by
     rcases (show m=0∨m=1 by omega) with rfl | rfl
     ·exact ⟨xs,by simpa using hm.symm,tx,.inl ⟨rfl,rfl⟩⟩
     ·exact ⟨ys,by simpa using hm.symm,ty,.inr ⟨rfl,rfl⟩⟩
    have hG:G.length≤100∧G[k]?=some x∧k < G.length:=by
     rcases em with ⟨rfl,_⟩ | ⟨rfl,_⟩
     ·rw [g0 rfl];exact ⟨by omega,hx,hkl⟩
     ·rw [g1 rfl]
      refine ⟨by omega,?_,by omega⟩
      obtain ⟨t,e⟩:=Mth.Xaw (Mth.bf xs ys s k) (Mth.app xs x)
      rw [← e,List.getElem?_append_left hkl];exact hx
    have nxt:∀ G',G'=Mth.addIf G (Mth.app zs x)→(m + 1=0→G'=Mth.bf xs ys s k)∧(m + 1=1→G'=Mth.addIf (Mth.bf xs ys s k) (Mth.app xs x))∧(m + 1=2→G'=Mth.visit xs ys (Mth.bf xs ys s k) x):=fun G' e=>by
     rcases em with ⟨rfl,rfl⟩ | ⟨rfl,rfl⟩
     ·exact ⟨fun z=>by omega,fun _=>by rw [e,g0 rfl],fun z=>by omega⟩
     ·exact ⟨fun z=>by omega,fun z=>by omega,fun _=>by rw [e,g1 rfl];rfl⟩
    have hat:atI (G.map D.int) (k:Int)=some (.int x):=yaP (by rw [List.getElem?_map,hG.2.1];rfl)
    have hdt:decide ((k:Int) < ((G.map D.int).length:Int))=true:=decide_eq_true (by rw [List.length_map];omega)
    refine Xaa ?_
    intro qhQ hQ
    set_option simprocs false in simp only [wpB]
    refine hQ _ _ (YaD ?_)
    clear hQ
    refine Xaa ?_
    intro qhQ hQ
    set_option simprocs false in simp only [wpB,zac hl3,hdt,hat,xay (xs:=zs) x0 (by rw [tz.length];exact x1),Ybl (st:=st3) (c:=.ref st.length) (ns:=G) (zac hl3)]
    refine hQ _ _ ⟨fun hc=>xaG ?_,fun hc=>yan ?_⟩
    ·obtain ⟨n0,n1,n2⟩:=nxt (G ++ [Mth.app zs x]) (ybD hc).symm
     refine Xaa ?_
     intro qhQ2 hQ2
     set_option simprocs false in simp only [wpB,zac hl3,hat,xay (xs:=zs) x0 (by rw [tz.length];exact x1),Xai hl3]
     refine ⟨Yav (by rw [zac hl3];rfl),Yaq (by rw [List.length_map];omega),hQ2 _ _ ⟨_,G ++ [Mth.app zs x],rfl,?_,?_,n0,n1,n2,k3.loc (Nat.le_refl _)⟩⟩
     ·rw [List.getElem?_set_self (Zad hl3),List.map_append];rfl
     ·rw [List.getElem?_set_ne (by omega)];exact hr3
    ·obtain ⟨n0,n1,n2⟩:=nxt G (Ybm hc).symm
     exact ⟨_,G,rfl,hl3,hr3,n0,n1,n2,k3⟩
   ·rintro δ st3 ⟨v4,G,rfl,hl3,hr3,_,_,g2,k3⟩
    have g2:=g2 rfl
    subst g2
    exact ⟨_,_,rfl,hl3,hr3,k3⟩
  ·have e1:Mth.bf xs ys s (k + 1)=Mth.bf xs ys s k:=Mth.ya3 (k:=k) (by omega) 1
   rw [e1]
   have hdf:decide ((k:Int) < (((Mth.bf xs ys s k).map D.int).length:Int))=false:=decide_eq_false (by rw [List.length_map];omega)
   refine zaI [.tup (xs.map D.int),.tup (ys.map D.int)] (fun m δ st3=>∃ (v4:Option D),δ=[some (flD xs ys),some (.int s),some (.ref st.length),some (.int (k:Int)),v4]∧st3=st2) ?_ (by simp) ?_ ?_
   ·unfold flD
    refine Xaa ?_
    intro qhQ hQ
    set_option simprocs false in simp only [wpB]
    exact hQ _ _ ⟨rfl,v4,rfl,rfl⟩
   ·rintro m z δ st3 hm ⟨v4,rfl,rfl⟩
    refine Xaa ?_
    intro qhQ hQ
    set_option simprocs false in simp only [wpB]
    refine hQ _ _ (YaD ?_)
    clear hQ
    refine Xaa ?_
    intro qhQ hQ
    set_option simprocs false in simp only [wpB,zac hl,hdf]
    exact hQ _ _ ⟨fun h=>absurd h (by decide),fun _=>yan ⟨_,rfl,rfl⟩⟩
   ·rintro δ st3 ⟨v4,rfl,rfl⟩
    exact ⟨_,_,rfl,hl,hr,k2⟩
 ·rintro δ st2 ⟨v3,v4,rfl,hl,hr,k2⟩
  rw [List.length_map,Mth.Xae] at hl
  have tb:=Mth.xbI tx ty s0 s1 all
  have hlb:=tb.length
  generalize hsq:Mth.bf xs ys s n=sq at hl tb hlb ⊢
  clear hQ
  unfold flD
  refine Zak ?_
  refine Xaa ?_
  intro qhQ hQ
  set_option simprocs false in simp only [wpB]
  refine xaj [.tup (xs.map D.int),.tup (ys.map D.int)] (fun d=>match d with | .tup ds=>.tup ((Mth.num (ds.map inD) sq).map D.int) | _=>.non) ?_ (by simp) ?_ ?_
  ·refine Xaa ?_
   intro qhQ2 hQ2
   set_option simprocs false in simp only [wpB]
   exact hQ2 _ _ ⟨XaD _ _,Ex.refl⟩
  ·intro d hd st3 k3
   obtain ⟨zs,rfl,tz⟩:∃ zs:List Int,d=.tup (zs.map D.int)∧Mth.Tn n zs:=by
    rcases List.mem_cons.mp hd with rfl | hd
    ·exact ⟨xs,rfl,tx⟩
    ·exact ⟨ys,List.mem_singleton.mp hd,ty⟩
   have hl3:=k3.keep _ _ hl (by simp)
   refine Xaa ?_
   intro qhQ2 hQ2
   set_option simprocs false in simp only [wpB,List.map_cons,List.map_nil,List.getD_cons_succ,List.getD_cons_zero]
   refine xaj (sq.map D.int) (fun d=>.int (sq.idxOf (Mth.app zs (inD d)):Int)) ?_ (by rw [List.length_map];omega) ?_ ?_
   ·refine Xaa ?_
    intro qhQ3 hQ3
    set_option simprocs false in simp only [wpB]
    exact ⟨_,zac hl3,hQ3 _ _ ⟨YbL (zac hl3),Ex.refl⟩⟩
   ·intro d hd st4 k4
    obtain ⟨x,hx,rfl⟩:=zaz hd
    obtain ⟨x0,x1⟩:=tb.bound hx
    obtain ⟨a0,a1⟩:=tz.app x0 x1
    have hl4:=k4.keep _ _ hl3 (by simp)
    refine Xaa ?_
    intro qhQ3 hQ3
    set_option simprocs false in simp only [wpB,List.map_cons,List.map_nil,List.getD_cons_succ,List.getD_cons_zero,xay (xs:=zs) x0 (by rw [tz.length];exact x1),ZaW (zac hl4) (tb.mem a0 a1) (by omega) (fun i hi=>by have:=tb.bound hi;omega)]
    exact ⟨Yav (by rw [zac hl4];rfl),hQ3 _ _ ⟨rfl,Ex.refl⟩⟩
   ·intro st4 k4
    rw [yaM (f:=fun x=>(sq.idxOf (Mth.app zs x):Int)) fun x hx=>rfl]
    set_option simprocs false in simp only [wpB]
    refine hQ2 _ _ ⟨?_,k4.app _⟩
    show D.tup _=D.tup ((Mth.num ((zs.map D.int).map inD) sq).map D.int)
    rw [Xbl]
    rfl
  ·intro st3 k3
   set_option simprocs false in simp only [wpB]
   refine hQ _ _ ⟨?_,(k2.trans k3).app _⟩
   simp only [List.map_cons,List.map_nil,Xbl]
   unfold numD
   rw [hsq]
   rfl
noncomputable def SqA (st:Store) (dp:D) (p:List Int):Prop:=dp=.tup (p.map D.int)∨∃ k,dp=.ref k∧items st k=some (p.map D.int)
theorem SqA.keep {st st':Store} {dp:D} {p:List Int} (h:SqA st dp p) (k:Ex [] st st'):SqA st' dp p:=h.imp id fun ⟨i,e,hi⟩=>⟨i,e,zaF hi k⟩
theorem SqA.seq {st:Store} {dp:D} {p:List Int} (h:SqA st dp p):seqOf st dp=some (p.map D.int):=by
 rcases h with rfl | ⟨k,rfl,hi⟩
 ·rfl
 ·rw [xbz];exact hi
theorem SqA.ix {st:Store} {dp:D} {p:List Int} {j:Int} {Q:D→Store→Prop} (h:SqA st dp p) (j0:0≤j) (j1:j < (p.length:Int)):Wp (gIxA dp (.int j) st) Q↔Q (.int (Mth.app p j)) st:=by
 rcases h with rfl | ⟨k,rfl,hi⟩
 ·set_option simprocs false in simp only [wpB,zb3,xay (xs:=p) j0 j1]
 ·set_option simprocs false in simp only [wpB,yb3,hi,xay (xs:=p) j0 j1]
theorem SqA.index {st:Store} {dp:D} {p:List Int} {x:Int} {i:Nat} {fa:DSt→Dm (List D)} {δ:DSt} {Q:D→Store→Prop} (h:SqA st dp p) (hx:x∈p) (hl:p.length≤1000) (hs:∀ i∈p,-1000000000000000000≤i∧i≤1000000000000000000) (hd:δ[i]?=some (some dp)) (ha:∀ {R:List D→Store→Prop},Wp (fa δ st) R↔R [.int x] st):Wp (fIndexA i fa δ st) Q↔Q (.int (p.idxOf x:Int)) st:=by
 rw [xbC]
 constructor
 ·rintro ⟨d,e,⟨ds,e2,w⟩ | ⟨k',e2,_,w⟩⟩
  ·rw [hd] at e
   cases e
   rw [ha] at w
   rcases h with rfl | ⟨k,rfl,hi⟩
   ·exact (YaO hx).mp w
   ·cases e2
  ·rw [hd] at e
   cases e
   rw [ha] at w
   rcases h with rfl | ⟨k,rfl,hi⟩
   ·cases e2
   ·exact (ZaW hi hx hl hs).mp w
 ·intro q
  refine ⟨dp,hd,?_⟩
  rcases h with rfl | ⟨k,rfl,hi⟩
  ·exact .inl ⟨_,rfl,ha.mpr ((YaO hx).mpr q)⟩
  ·exact .inr ⟨k,rfl,by rw [hi];rfl,ha.mpr ((ZaW hi hx hl hs).mpr q)⟩
theorem lawanewA {st:Store} {xs ys p:List Int} {n:Nat} {dp:D} (tx:Mth.Tn n xs) (ty:Mth.Tn n ys) (tp:Mth.Tn n p) (hn:n≤100) (hp:SqA st dp p):Wp (yal [flD xs ys,dp] st) fun d st'=>d=flD (Mth.anew xs p) (Mth.anew ys p)∧Ex [] st st':=by
 have hlp:=tp.length
 refine Xay ?_
 show Ws (YaH [some (flD xs ys),some dp] st) _ _ _ _
 unfold YaH flD
 refine Zak ?_
 refine Xaa ?_
 intro qhQ hQ
 set_option simprocs false in simp only [wpB]
 refine xaj [.tup (xs.map D.int),.tup (ys.map D.int)] (fun d=>match d with | .tup ds=>.tup ((Mth.anew (ds.map inD) p).map D.int) | _=>.non) ?_ (by simp) ?_ ?_
 ·refine Xaa ?_
  intro qhQ2 hQ2
  set_option simprocs false in simp only [wpB]
  exact hQ2 _ _ ⟨XaD _ _,Ex.refl⟩
 ·intro d hd st1 k1
  obtain ⟨zs,rfl,tz⟩:∃ zs:List Int,d=.tup (zs.map D.int)∧Mth.Tn n zs:=by
   rcases List.mem_cons.mp hd with rfl | hd
   ·exact ⟨xs,rfl,tx⟩
   ·exact ⟨ys,List.mem_singleton.mp hd,ty⟩
  have hlz:=tz.length
  have hp1:=hp.keep k1
  refine Xaa ?_
  intro qhQ2 hQ2
  set_option simprocs false in simp only [wpB,List.map_cons,List.map_nil,List.getD_cons_succ,List.getD_cons_zero]
  refine xaj (rangeD 0 n) (fun d=>.int (Mth.app p (Mth.app zs (p.idxOf (inD d):Int)))) ?_ (by rw [xab];omega) ?_ ?_
  ·refine Xaa ?_
   intro qhQ3 hQ3
   set_option simprocs false in simp only [wpB,hp1.seq]
   rw [List.length_map,hlp]
   exact ⟨by omega,hQ3 _ _ ⟨by rw [Int.toNat_natCast];exact XaD _ _,Ex.refl⟩⟩
  ·intro d hd st2 k2
   rw [yaf] at hd
   obtain ⟨x,hx,rfl⟩:=zaz hd
   obtain ⟨x0,x1⟩:=Mth.Xag.mp hx
   have hm:=tp.mem x0 x1
   have hi:=tp.idx x0 x1
   obtain ⟨a0,a1⟩:=tz.app (i:=(p.idxOf x:Int)) (by omega) (by omega)
   have hp2:=hp1.keep k2
   refine Xaa ?_
   intro qhQ3 hQ3
   set_option simprocs false in simp only [wpB,List.map_cons,List.map_nil,List.getD_cons_succ,List.getD_cons_zero]
   rw [hp2.index (x:=x) hm (by omega) (fun i hi=>by have:=tp.bound hi;omega) rfl ?ha]
   case ha =>
    intro R
    set_option simprocs false in simp only [wpB]
   set_option simprocs false in simp only [wpB,xay (xs:=zs) (i:=(p.idxOf x:Int)) (by omega) (by omega)]
   rw [hp2.ix a0 (by omega)]
   exact hQ3 _ _ ⟨rfl,Ex.refl⟩
  ·intro st' k'
   have e:(rangeD 0 n).map (fun d=>D.int (Mth.app p (Mth.app zs (p.idxOf (inD d):Int))))=(Mth.anew zs p).map D.int:=by
    rw [yaf,yaM (f:=fun x=>Mth.app p (Mth.app zs (p.idxOf x:Int))) fun x hx=>rfl]
    congr 1
    unfold Mth.anew Mth.fol Mth.inv
    rw [List.map_map,List.map_map,hlp]
    rfl
   rw [e]
   set_option simprocs false in simp only [wpB]
   refine hQ2 _ _ ⟨?_,k'.app _⟩
   show D.tup _=D.tup ((Mth.anew ((zs.map D.int).map inD) p).map D.int)
   rw [List.map_map]
   congr 3
   exact (List.map_id zs).symm
 ·intro st' k'
  set_option simprocs false in simp only [wpB]
  refine hQ _ _ ⟨?_,k'.app _⟩
  have e:∀ zs:List Int,(zs.map D.int).map inD=zs:=fun zs=>by rw [List.map_map];exact List.map_id zs
  simp only [List.map_cons,List.map_nil,e]
theorem Zbc {st:Store} {xs ys p:List Int} {n:Nat} (tx:Mth.Tn n xs) (ty:Mth.Tn n ys) (tp:Mth.Tn n p) (hn:n≤100):Wp (yal [flD xs ys,.tup (p.map D.int)] st) fun d st'=>d=flD (Mth.anew xs p) (Mth.anew ys p)∧Ex [] st st':=lawanewA tx ty tp hn (.inl rfl)
theorem whO {n:Nat} {xs ys:List Int} (fl:IsFl n xs ys):Mth.Wh n (xs,ys):=⟨⟨fl.1,fl.2.1⟩,fl.2.2⟩
theorem flO {n:Nat} {p:Mth.Flo} (w:Mth.Wh n p):IsFl n p.1 p.2:=⟨w.v.1,w.v.2,w.all⟩
theorem XbD {n:Nat} (p:Mth.Flo) (n0:0 < n):∃ s:Int,0≤s∧s < (n:Int)∧Mth.fmF n p=Mth.nbF p n s:=by
 have h:=(Mth.xa3 (l:=(Mth.upto n).map (Mth.nbF p n)) (fun e=>by
  have:=congrArg List.length e
  rw [List.length_map,Mth.Xae] at this
  simp at this
  omega)).1
 obtain ⟨s,hs,e⟩:=List.mem_map.mp h
 obtain ⟨s0,s1⟩:=Mth.Xag.mp hs
 exact ⟨s,s0,s1,e.symm⟩
theorem zbE {n:Nat} {p:Mth.Flo} (w:Mth.Wh n p) (n0:0 < n):Mth.Alk n p (Mth.fmF n p):=by
 obtain ⟨s,s0,s1,e⟩:=XbD p n0
 have tb:=w.bf s0 s1
 refine ⟨Mth.inv (Mth.bf p.1 p.2 s n),tb.inv_tn,?_⟩
 rw [e,Mth.xaC w.v.1 tb,Mth.xaC w.v.2 tb]
 rfl
theorem YbQ {n:Nat} {p q:Mth.Flo} (w:Mth.Wh n p) (n0:0 < n) (a:Mth.Alk n p q):Mth.Wh n q:=by
 obtain ⟨g,tg,rfl⟩:=a
 have:=Mth.anew_fl (flO w) tg n0
 exact ⟨⟨this.1,this.2.1⟩,this.2.2⟩
theorem xbQ {n:Nat} {p q:Mth.Flo} (wp:Mth.Wh n p) (wq:Mth.Wh n q) (n0:0 < n):Mth.fmF n p=Mth.fmF n q↔∃ g,Mth.Cg n p q g:=by
 constructor
 ·intro e
  obtain ⟨s,s0,s1,es⟩:=XbD p n0
  obtain ⟨t,t0,t1,et⟩:=XbD q n0
  rw [es,et] at e
  exact ⟨_,(Mth.gF_of wp wq s0 s1 t0 t1 e).1⟩
 ·rintro ⟨g,tg,e⟩
  exact Mth.Xa3 n0 wp.v ⟨g,tg,e⟩
theorem XbQ {n:Nat} {p:Mth.Flo} (w:Mth.Wh n p) (n0:0 < n):(Mth.fmF n p).1.length=n:=((YbQ w n0 (zbE w n0)).v.1).length
theorem ybE (p:Mth.Flo) (n:Nat):(rangeD 0 n).map (fun d=>flD (Mth.nbF p n (inD d)).1 (Mth.nbF p n (inD d)).2)=((Mth.upto n).map (Mth.nbF p n)).map fun q=>flD q.1 q.2:=by
 rw [yaf,List.map_map,List.map_map]
 rfl
theorem xaO {st:Store} {xs ys:List Int} {n:Nat} (fl:IsFl n xs ys) (n0:0 < n) (hn:n≤20):Wp (Zao [flD xs ys] st) fun d st'=>d=flD (Mth.fmF n (xs,ys)).1 (Mth.fmF n (xs,ys)).2∧Ex [] st st':=by
 have hlx:=fl.1.length
 refine Xay ?_
 show Ws (ZaO [some (flD xs ys)] st) _ _ _ _
 unfold ZaO
 refine Zak ?_
 refine Xaa ?_
 intro qhQ hQ
 set_option simprocs false in simp only [wpB]
 refine xaj (rangeD 0 n) (fun d=>flD (Mth.nbF (xs,ys) n (inD d)).1 (Mth.nbF (xs,ys) n (inD d)).2) ?_ (by rw [xab];omega) ?_ ?_
 ·unfold flD
  refine Xaa ?_
  intro qhQ2 hQ2
  set_option simprocs false in simp only [wpB]
  rw [List.length_map,hlx]
  exact ⟨by omega,hQ2 _ _ ⟨by rw [Int.toNat_natCast];exact XaD _ _,Ex.refl⟩⟩
 ·intro d hd st2 k2
  rw [yaf] at hd
  obtain ⟨x,hx,rfl⟩:=zaz hd
  obtain ⟨x0,x1⟩:=Mth.Xag.mp hx
  refine Xaa ?_
  intro qhQ2 hQ2
  set_option simprocs false in simp only [wpB,List.map_cons,List.map_nil,List.getD_cons_succ,List.getD_cons_zero]
  refine Yab (Za5 fl (by omega) x0 x1) ?_
  rintro d st3 ⟨rfl,k3⟩
  exact hQ2 _ _ ⟨rfl,k3⟩
 ·intro st' k'
  rw [ybE,ZbC (Xai Zah) (by rw [List.length_map,Mth.Xae];exact n0)]
  exact hQ _ _ ⟨rfl,k'.app _⟩
theorem Ybc {st:Store} {xs ys:List Int} {n:Nat} (fl:IsFl n xs ys) (n0:0 < n) (hn:n≤20):Wp (xaB [flD xs ys] st) fun d st'=>d=flD (Mth.fmF n (xs,ys)).1 (Mth.fmF n (xs,ys)).2∧Ex [] st st':=by
 have hlx:=fl.1.length
 refine Xay ?_
 show Ws (ZaH [some (flD xs ys)] st) _ _ _ _
 unfold ZaH
 refine Zak ?_
 refine Xaa ?_
 intro qhQ hQ
 set_option simprocs false in simp only [wpB]
 refine xaj (rangeD 0 n) (fun d=>flD (Mth.nbF (xs,ys) n (inD d)).1 (Mth.nbF (xs,ys) n (inD d)).2) ?_ (by rw [xab];omega) ?_ ?_
 ·unfold flD
  refine Xaa ?_
  intro qhQ2 hQ2
  set_option simprocs false in simp only [wpB]
  rw [List.length_map,hlx]
  exact ⟨by omega,hQ2 _ _ ⟨by rw [Int.toNat_natCast];exact XaD _ _,Ex.refl⟩⟩
 ·intro d hd st2 k2
  rw [yaf] at hd
  obtain ⟨x,hx,rfl⟩:=zaz hd
  obtain ⟨x0,x1⟩:=Mth.Xag.mp hx
  refine Xaa ?_
  intro qhQ2 hQ2
  set_option simprocs false in simp only [wpB,List.map_cons,List.map_nil,List.getD_cons_succ,List.getD_cons_zero]
  refine Yab (zbi fl (by omega) x0 x1) ?_
  rintro d st3 ⟨rfl,k3⟩
  exact hQ2 _ _ ⟨rfl,k3⟩
 ·intro st' k'
  rw [ybE,ZbC (Xai Zah) (by rw [List.length_map,Mth.Xae];exact n0)]
  exact hQ _ _ ⟨rfl,k'.app _⟩
structure Cd (p q:Mth.Flo) (n:Nat) (first:Int) (F:List Int) (k m:Nat) (kvs:List (Key×D)):Prop where
 z:valD kvs (.inl 0)=some (.int first)
 bd:∀ (x:Int) (d:D),valD kvs (.inl x)=some d→(0≤x∧x < (n:Int))∧∃ v:Int,d=.int v∧0≤v∧v < (n:Int)
 dn:∀ j,j < k→∀ x,F[j]?=some x→(valD kvs (.inl (Mth.app p.1 x))).isSome=true∧(valD kvs (.inl (Mth.app p.2 x))).isSome=true
 c1:1≤m→∀ x,F[k]?=some x→(valD kvs (.inl (Mth.app p.1 x))).isSome=true
 c2:2≤m→∀ x,F[k]?=some x→(valD kvs (.inl (Mth.app p.2 x))).isSome=true
 cg:∀ g,Mth.Cg n p q g→Mth.app g 0=first→∀ (x:Int) (d:D),valD kvs (.inl x)=some d→d=.int (Mth.app g x)
 len:kvs.length≤2 * k + 1 + m
theorem Cd.next {p q:Mth.Flo} {n:Nat} {first:Int} {F:List Int} {k:Nat} {kvs:List (Key×D)} (h:Cd p q n first F k 2 kvs):Cd p q n first F (k + 1) 0 kvs:=by
 refine ⟨h.z,h.bd,fun j hj x hx=>?_,fun z=>by omega,fun z=>by omega,h.cg,by have:=h.len;omega⟩
 by_cases e:j=k
 ·subst e
  exact ⟨h.c1 (by omega) x hx,h.c2 (by omega) x hx⟩
 ·exact h.dn j (by omega) x hx
theorem Cd.has {p q:Mth.Flo} {n:Nat} {first:Int} {F:List Int} {k m:Nat} {kvs:List (Key×D)} (h:Cd p q n first F k m kvs) (od:Mth.Od p.1 p.2 F) {i:Nat} (hi:i≤k) {x:Int} (hx:F[i]?=some x):∃ v:Int,valD kvs (.inl x)=some (.int v)∧0≤v∧v < (n:Int):=by
 have hs:(valD kvs (.inl x)).isSome=true:=by
  cases i with
  | zero =>
   rw [od.1] at hx
   cases hx
   rw [h.z];rfl
  | succ i =>
   obtain ⟨j,y,hj,hy,e⟩:=od.2 i x hx
   obtain ⟨a,b⟩:=h.dn j (by omega) y hy
   rcases e with e | e
   ·rw [e];exact a
   ·rw [e];exact b
 obtain ⟨d,hd⟩:=Option.isSome_iff_exists.mp hs
 obtain ⟨_,v,rfl,v0,v1⟩:=h.bd x d hd
 exact ⟨v,hd,v0,v1⟩
theorem Ya5 {kvs:List (Key×D)} {y:D} {k j:Key} (h:(valD kvs j).isSome=true):(valD (putD kvs k y) j).isSome=true:=by
 rw [xaK]
 split
 ·rfl
 ·exact h
theorem Cd.step {p q:Mth.Flo} {n:Nat} {first:Int} {F:List Int} {k m:Nat} {kvs:List (Key×D)} (h:Cd p q n first F k m kvs) (vp:Mth.Vf n p) (vq:Mth.Vf n q) {zs ws:List Int} (e:(m=0∧zs=p.1∧ws=q.1)∨(m=1∧zs=p.2∧ws=q.2)) {x v:Int} (hx:F[k]?=some x) (hv:valD kvs (.inl x)=some (.int v)) :
  ((valD kvs (.inl (Mth.app zs x))).isSome=true→Cd p q n first F k (m + 1) kvs)∧(valD kvs (.inl (Mth.app zs x))=none→Cd p q n first F k (m + 1) (putD kvs (.inl (Mth.app zs x)) (.int (Mth.app ws v)))):=by
 obtain ⟨⟨x0,x1⟩,v',ev,v0,v1⟩:=h.bd _ _ hv
 cases ev
 have tz:Mth.Tn n zs:=by rcases e with ⟨_,rfl,_⟩ | ⟨_,rfl,_⟩;exact vp.1;exact vp.2
 have tw:Mth.Tn n ws:=by rcases e with ⟨_,_,rfl⟩ | ⟨_,_,rfl⟩;exact vq.1;exact vq.2
 refine ⟨fun hs=>⟨h.z,h.bd,h.dn,fun _ y hy=>?_,fun hm y hy=>?_,h.cg,by have:=h.len;omega⟩,fun hn=>⟨?_,fun y d hd=>?_,fun j hj y hy=>⟨Ya5 (h.dn j hj y hy).1,Ya5 (h.dn j hj y hy).2⟩,fun _ y hy=>?_,fun hm y hy=>?_,fun g cg g0 y d hd=>?_,?_⟩⟩
 ·rw [hx] at hy
  cases hy
  rcases e with ⟨_,rfl,_⟩ | ⟨rfl,_,_⟩
  ·exact hs
  ·exact h.c1 (Nat.le_refl _) _ hx
 ·rw [hx] at hy
  cases hy
  rcases e with ⟨rfl,_,_⟩ | ⟨_,rfl,_⟩
  ·omega
  ·exact hs
 ·rw [xaK]
  split
  ·next e0=>rw [← e0,h.z] at hn;cases hn
  ·exact h.z
 ·rw [xaK] at hd
  split at hd
  ·next e0 =>
   cases hd
   have e0:=Sum.inl.inj e0
   rw [e0]
   exact ⟨tz.app x0 x1,_,rfl,tw.app v0 v1⟩
  ·exact h.bd y d hd
 ·rw [hx] at hy
  cases hy
  rcases e with ⟨_,rfl,_⟩ | ⟨rfl,_,_⟩
  ·rw [xaK,if_pos rfl];rfl
  ·exact Ya5 (h.c1 (Nat.le_refl _) _ hx)
 ·rw [hx] at hy
  cases hy
  rcases e with ⟨rfl,_,_⟩ | ⟨_,rfl,_⟩
  ·omega
  ·rw [xaK,if_pos rfl];rfl
 ·rw [xaK] at hd
  split at hd
  ·next e0 =>
   cases hd
   have e0:=Sum.inl.inj e0
   rw [e0]
   have ev:=D.int.inj (h.cg g cg g0 x _ hv)
   obtain ⟨tg,eq⟩:=cg
   congr 1
   rw [ev]
   rcases e with ⟨_,rfl,rfl⟩ | ⟨_,rfl,rfl⟩
   ·rw [eq];exact vp.1.anew_at tg x0 x1
   ·rw [eq];exact vp.2.anew_at tg x0 x1
  ·exact h.cg g cg g0 y d hd
 ·have:=xbg kvs (.inl (Mth.app zs x)) (.int (Mth.app ws v))
  have:=h.len
  omega
theorem Cd.first {p q:Mth.Flo} {n:Nat} {first:Int} {F:List Int} (n0:0 < n) (f0:0≤first) (f1:first < (n:Int)):Cd p q n first F 0 0 [(.inl 0,.int first)]:=by
 have e:∀ x:Int,valD [((.inl 0:Key),D.int first)] (.inl x)=if x=0 then some (.int first) else none:=fun x=>by
  rw [Zat]
  by_cases h:x=0
  ·rw [if_pos h,if_pos (by rw [h])]
  ·rw [if_neg h,if_neg (fun z=>h (Sum.inl.inj z).symm)];rfl
 refine ⟨by rw [e,if_pos rfl],fun x d hd=>?_,fun j hj=>absurd hj (Nat.not_lt_zero _),fun z=>by omega,fun z=>by omega,fun g cg g0 x d hd=>?_,by simp⟩
 ·rw [e] at hd
  split at hd
  ·next h=>cases hd;subst h;exact ⟨⟨by decide,by omega⟩,_,rfl,f0,f1⟩
  ·cases hd
 ·rw [e] at hd
  split at hd
  ·next h=>cases hd;subst h;rw [g0]
  ·cases hd
noncomputable def plOf (n:Nat) (kvs:List (Key×D)):List Int:=(Mth.upto n).map fun x=>inD ((valD kvs (.inl x)).getD .non)
theorem ZaK {n:Nat} {f:Int→Int} {x:Int} (x0:0≤x) (x1:x < (n:Int)):Mth.app ((Mth.upto n).map f) x=f x:=by
 unfold Mth.app
 rw [List.getD_eq_getElem?_getD,List.getElem?_map,Mth.XaN (by omega)]
 show f ((x.toNat:Nat):Int)=f x
 rw [Int.toNat_of_nonneg x0]
theorem pl_ok {p q:Mth.Flo} {n:Nat} {first:Int} {F:List Int} {kvs:List (Key×D)} (h:Cd p q n first F F.length 0 kvs) (od:Mth.Od p.1 p.2 F) (all:∀ x:Int,0≤x→x < (n:Int)→x∈F) (n0:0 < n) :
  (∀ x:Int,0≤x→x < (n:Int)→valD kvs (.inl x)=some (.int (Mth.app (plOf n kvs) x)))∧(plOf n kvs).length=n∧Mth.app (plOf n kvs) 0=first∧∀ g,Mth.Cg n p q g→Mth.app g 0=first→plOf n kvs=g:=by
 have a:∀ x:Int,0≤x→x < (n:Int)→valD kvs (.inl x)=some (.int (Mth.app (plOf n kvs) x)):=fun x x0 x1=>by
  obtain ⟨i,hi,e⟩:=List.getElem_of_mem (all x x0 x1)
  obtain ⟨v,hv,_⟩:=h.has od (i:=i) (by omega) (x:=x) (by rw [List.getElem?_eq_getElem hi,e])
  unfold plOf
  rw [ZaK x0 x1,hv]
  rfl
 have l:(plOf n kvs).length=n:=by unfold plOf;rw [List.length_map,Mth.Xae]
 refine ⟨a,l,?_,fun g cg g0=>Mth.XaI l cg.1.length fun x x0 x1=>?_⟩
 ·have:=a 0 (by decide) (by omega)
  rw [h.z] at this
  exact (D.int.inj (Option.some.inj this)).symm
 ·exact D.int.inj (h.cg g cg g0 x _ (a x x0 x1))
theorem xb3 {n:Nat} {l:List Int} (hl:l.length=n):sortI l=Mth.upto l.length↔Mth.Tn n l:=by
 constructor
 ·intro h
  have p:(sortI l).Perm l:=List.mergeSort_perm _ _
  rw [h,hl] at p
  exact p.symm
 ·intro h
  rw [hl]
  refine (Xa9 h.symm ?_).symm
  unfold Mth.upto
  rw [List.pairwise_map]
  exact List.pairwise_lt_range.imp fun h=>by omega
noncomputable def ofP (q:Int×Int):Key×D:=(.inl q.1,.int q.2)
structure Pr (kvs:List (Key×D)) (L:List (Int×Int)):Prop where
 e:kvs=L.map ofP
 nd:(L.map (·.1)).Nodup
theorem xa5:∀ (L:List (Int×Int)) (x:Int),valD (L.map ofP) (.inl x)=(L.find? fun q=>decide (q.1=x)).map fun q=>.int q.2
 | [],x=>rfl
 | q :: L,x=>by
  rw [List.map_cons,Zat,List.find?_cons,xa5 L x]
  by_cases h:q.1=x
  ·rw [if_pos (show (ofP q).1=.inl x by unfold ofP;rw [h]),decide_eq_true h];rfl
  ·rw [if_neg (fun z:(ofP q).1=.inl x=>h (Sum.inl.inj z)),decide_eq_false h]
theorem Pr.put {kvs:List (Key×D)} {L:List (Int×Int)} {x v:Int} (h:Pr kvs L) (hn:valD kvs (.inl x)=none):Pr (putD kvs (.inl x) (.int v)) (L ++ [(x,v)]):=by
 have hx:x ∉ L.map (·.1):=fun hm=>by
  obtain ⟨q,hq,e⟩:=List.mem_map.mp hm
  rw [h.e,xa5,Option.map_eq_none_iff,List.find?_eq_none] at hn
  exact hn q hq (decide_eq_true e)
 constructor
 ·unfold putD
  have hk:¬ (kvs.any fun kv=>decide (kv.1=.inl x))=true:=fun z=>by
   obtain ⟨kv,hkv,e⟩:=List.any_eq_true.mp z
   rw [h.e] at hkv
   obtain ⟨q,hq,rfl⟩:=List.mem_map.mp hkv
   exact hx (List.mem_map.mpr ⟨q,hq,Sum.inl.inj (of_decide_eq_true e)⟩)
  rw [if_neg hk,h.e,List.map_append]
  rfl
 ·rw [List.map_append,List.nodup_append]
  refine ⟨h.nd,by simp,fun a ha b hb e=>hx ?_⟩
  rw [List.mem_singleton.mp (show b∈[x] from hb)] at e
  rw [← e];exact ha
theorem ZbE:∀ L:List (Int×Int),mapO iV ((L.map ofP).map (·.2))=some (L.map (·.2)):=fun L=>by
 rw [List.map_map]
 exact yav (f:=iV) (g:=fun q:Int×Int=>D.int q.2) (k:=fun q=>q.2) (fun _=>rfl) L
theorem xbc:∀ {L:List (Int×Int)} {q:Int×Int},(L.map (·.1)).Nodup→q∈L→L.find? (fun r=>decide (r.1=q.1))=some q
 | r :: L,q,nd,h=>by
  obtain ⟨h1,h2⟩:=List.nodup_cons.mp (show (r.1 :: L.map (·.1)).Nodup from nd)
  rw [List.find?_cons]
  rcases List.mem_cons.mp h with rfl | h
  ·rw [decide_eq_true rfl]
  ·rw [decide_eq_false (fun e:r.1=q.1=>h1 (by rw [e];exact List.mem_map.mpr ⟨q,h,rfl⟩))]
   exact xbc h2 h
theorem Pr.perm {n:Nat} {kvs:List (Key×D)} {L:List (Int×Int)} {p:List Int} (h:Pr kvs L) (bd:∀ (x:Int) (d:D),valD kvs (.inl x)=some d→0≤x∧x < (n:Int)) (hp:∀ x:Int,0≤x→x < (n:Int)→valD kvs (.inl x)=some (.int (Mth.app p x))) (hl:p.length=n):(L.map (·.2)).Perm p:=by
 have vq:∀ q∈L,valD kvs (.inl q.1)=some (.int q.2):=fun q hq=>by rw [h.e,xa5,xbc h.nd hq];rfl
 have e1:L.map (·.2)=(L.map (·.1)).map (Mth.app p):=by
  rw [List.map_map]
  refine List.map_congr_left fun q hq=>?_
  have hv:=vq q hq
  obtain ⟨x0,x1⟩:=bd _ _ hv
  rw [hp _ x0 x1] at hv
  exact (D.int.inj (Option.some.inj hv)).symm
 have e2:(L.map (·.1)).Perm (Mth.upto n):=by
  refine (List.perm_ext_iff_of_nodup h.nd (Mth.ZbW n)).mpr fun x=>?_
  rw [Mth.Xag]
  constructor
  ·intro hx
   obtain ⟨q,hq,rfl⟩:=List.mem_map.mp hx
   exact bd _ _ (vq q hq)
  ·rintro ⟨x0,x1⟩
   have hv:=hp x x0 x1
   rw [h.e,xa5] at hv
   obtain ⟨q,hq,_⟩:=Option.map_eq_some_iff.mp hv
   have:=List.find?_some hq
   exact List.mem_map.mpr ⟨q,List.mem_of_find?_eq_some hq,of_decide_eq_true this⟩
 have e3:(Mth.upto n).map (Mth.app p)=p:=Mth.XaI (by rw [List.length_map,Mth.Xae]) hl fun s s0 s1=>ZaK s0 s1
 rw [e1]
 have:=e2.map (Mth.app p)
 rw [e3] at this
 exact this
theorem ZbN {st:Store} {i j:Nat} {o:O} (h:i≠j):items (st.set i o) j=items st j:=by
 simp only [items,List.getElem?_set_ne h]
theorem Xa5 {st:Store} {xs ys:List Int} {Q:D→Store→Prop}:Wp (gIxT (flD xs ys) (.int 0) st) Q↔Q (.tup (xs.map D.int)) st:=zab
theorem YbN {st:Store} {xs ys us vs:List Int} {n:Nat} (fl:IsFl n xs ys) (fm:IsFl n us vs) (n0:0 < n) (hn:n≤20):Wp (zas [flD xs ys,flD us vs] st) fun d st'=>∃ b:Bool,d=.bl b∧(b=true↔∃ g,Mth.Cg n (xs,ys) (us,vs) g)∧Ex [] st st':=by
 have hlx:=fl.1.length
 have hlu:=fm.1.length
 refine Xay ?_
 show Ws (Xar [some (flD xs ys),some (flD us vs),none,none,none,none,none] st) _ _ _ _
 unfold Xar
 refine Xad (YaD ?_)
 refine Xaa ?_
 intro qhQ hQ
 set_option simprocs false in simp only [wpB,Xa5]
 rw [List.length_map,List.length_map,hlx,hlu]
 refine hQ _ _ ⟨fun hc=>absurd hc (by simp),fun _=>yan ?_⟩
 clear hQ
 refine Xad (zaI (rangeD 0 n) (fun i δ st3=>∃ v2 v3 v4 v5 v6:Option D,δ=[some (flD xs ys),some (flD us vs),v2,v3,v4,v5,v6]∧(∀ g,Mth.Cg n (xs,ys) (us,vs) g→∀ s:Nat,s < i→Mth.app g 0≠(s:Int))∧Ex [] st st3) ?_ (by rw [xab];omega) ?_ ?_)
 ·unfold flD
  refine Xaa ?_
  intro qhQ hQ
  set_option simprocs false in simp only [wpB]
  rw [List.length_map,hlx]
  exact ⟨by omega,hQ _ _ ⟨by rw [Int.toNat_natCast],none,none,none,none,none,rfl,fun g _ s h=>absurd h (Nat.not_lt_zero _),Ex.refl⟩⟩
 ·rintro i d δ st3 hd ⟨v2,v3,v4,v5,v6,rfl,hno,k3⟩
  have hil:=Zad hd
  rw [xab] at hil
  rw [YaK hil,Int.zero_add] at hd
  cases hd
  have nxt:¬ (∃ g,Mth.Cg n (xs,ys) (us,vs) g∧Mth.app g 0=(i:Int))→∀ g,Mth.Cg n (xs,ys) (us,vs) g→∀ s:Nat,s < i + 1→Mth.app g 0≠(s:Int):=fun hx g cg s hs=>by
   by_cases e:s=i
   ·subst e;exact fun z=>hx ⟨g,cg,z⟩
   ·exact hno g cg s (by omega)
  refine Xaa ?_
  intro qhQ hQ
  set_option simprocs false in simp only [wpB]
  refine hQ _ _ (Xad (yag ?_))
  clear hQ
  refine Xaa ?_
  intro qhQ hQ
  set_option simprocs false in simp only [wpB,ybz,xbk,zbz]
  refine ⟨Zah,[(.inl 0,.int (i:Int))],rfl,by simp,?_⟩
  have hSet:List.set (st3 ++ [O.dct []]) (List.length st3) (O.dct (mergeD [] [((.inl 0:Key),D.int (i:Int))]))=st3 ++ [O.dct [((.inl 0:Key),D.int (i:Int))]]:=by
   rw [List.set_append_right _ _ (Nat.le_refl _),Nat.sub_self]
   rfl
  rw [hSet]
  have c4:(st3 ++ [O.dct [((.inl 0:Key),D.int (i:Int))]])[st3.length]?=some (.dct [((.inl 0:Key),D.int (i:Int))]):=Zah
  have k4:Ex [] st (st3 ++ [O.dct [((.inl 0:Key),D.int (i:Int))]]):=k3.app _
  have hc0:st.length≤st3.length:=k3.len
  generalize (st3 ++ [O.dct [((.inl 0:Key),D.int (i:Int))]])=st4 at c4 k4 ⊢
  generalize st3.length=c at c4 hc0 ⊢
  obtain ⟨d5,st5,e5,g,F,rfl,hi5,hF,hFl,od,k5⟩:=zbD (st:=st4) fl.1 fl.2.1 n0 (by omega)
  have all:∀ x:Int,0≤x→x < (n:Int)→x∈F:=fun x x0 x1=>(hF x).mpr (fl.2.2 x x0 x1)
  have hbF:∀ x∈F,0≤x∧x < (n:Int):=fun x hx=>((hF x).mp hx).bound fl.1 fl.2.1 n0
  have cg5:c≠g:=fun z=>by
   have:=k5.keep _ _ c4 (by simp)
   rw [z] at this
   simp only [items,this] at hi5
   cases hi5
  refine hQ _ _ (Xad (xbf (F.map D.int) g (fun k δ s=>∃ (v4 v5 v6:Option D) (kvs:List (Key×D)) (L:List (Int×Int)),δ=[some (flD xs ys),some (flD us vs),some (.int (i:Int)),some (.ref c),v4,v5,v6]∧s[c]?=some (.dct kvs)∧Cd (xs,ys) (us,vs) n (i:Int) F k 0 kvs∧Pr kvs L∧items s g=some (F.map D.int)∧Ex [] st s) ?_ ?_ ?_ ?_ ?_))
  ·clear hQ
   refine Xaa ?_
   intro qhQ hQ
   set_option simprocs false in simp only [wpB]
   refine ⟨_,_,e5,?_⟩
   exact ⟨g,rfl,_,hi5,hQ _ _ ⟨rfl,v4,v5,v6,_,[(0,(i:Int))],rfl,k5.keep _ _ c4 (by simp),Cd.first n0 (by omega) (by omega),⟨rfl,by simp⟩,hi5,k4.trans k5⟩⟩
  ·rw [List.length_map];omega
  ·rintro k δ s ⟨_,_,_,_,_,_,_,_,_,h,_⟩
   exact h
  ·rintro k d δ s hd ⟨v4,v5,v6,kvs,L,rfl,c6,cd,pr,i6,k6⟩
   obtain ⟨x,hx,rfl⟩:=YaT hd
   obtain ⟨x0,x1⟩:=hbF x (List.mem_of_getElem? hx)
   clear hQ
   refine Xaa ?_
   intro qhQ hQ
   set_option simprocs false in simp only [wpB]
   refine hQ _ _ (zaI [.tup [.tup (xs.map D.int),.tup (us.map D.int)],.tup [.tup (ys.map D.int),.tup (vs.map D.int)]] (fun m δ s=>∃ (v5 v6:Option D) (kvs:List (Key×D)) (L:List (Int×Int)),δ=[some (flD xs ys),some (flD us vs),some (.int (i:Int)),some (.ref c),some (.int x),v5,v6]∧s[c]?=some (.dct kvs)∧Cd (xs,ys) (us,vs) n (i:Int) F k m kvs∧Pr kvs L∧items s g=some (F.map D.int)∧Ex [] st s) ?_ (by simp) ?_ ?_)
   ·clear hQ
    refine Xaa ?_
    intro qhQ hQ
    set_option simprocs false in simp only [wpB,zb2]
    exact ⟨_,_,⟨rfl,rfl⟩,_,rfl,_,rfl,hQ _ _ ⟨rfl,v5,v6,kvs,L,rfl,c6,cd,pr,i6,k6⟩⟩
   ·rintro m z δ s hm ⟨v5,v6,kvs,L,rfl,c7,cd,pr,i7,k7⟩
    have hm2:m < 2:=Zad hm
    obtain ⟨zs,ws,rfl,tz,tw,em⟩:∃ zs ws:List Int,z=.tup [.tup (zs.map D.int),.tup (ws.map D.int)]∧Mth.Tn n zs∧Mth.Tn n ws∧((m=0∧zs=xs∧ws=us)∨(m=1∧zs=ys∧ws=vs)):=by
     rcases (show m=0∨m=1 by omega) with rfl | rfl
     ·exact ⟨xs,us,by simpa using hm.symm,fl.1,fm.1,.inl ⟨rfl,rfl,rfl⟩⟩
     ·exact ⟨ys,vs,by simpa using hm.symm,fl.2.1,fm.2.1,.inr ⟨rfl,rfl,rfl⟩⟩
    obtain ⟨v,hv,v0,v1⟩:=cd.has od (Nat.le_refl _) hx
    obtain ⟨s1,s2⟩:=cd.step (whO fl).v (whO fm).v em hx hv
    clear hQ
    refine Xaa ?_
    intro qhQ hQ
    set_option simprocs false in simp only [wpB]
    refine ⟨rfl,hQ _ _ (xaG ?_)⟩
    clear hQ
    refine Xaa ?_
    intro qhQ hQ
    set_option simprocs false in simp only [wpB,zbM,xaT c7,xay (xs:=zs) x0 (by rw [tz.length];exact x1),zbg]
    refine ⟨rfl,_,rfl,_,hv,?_⟩
    set_option simprocs false in simp only [wpB,xay (xs:=ws) v0 (by rw [tw.length];exact v1)]
    have hcl:=cd.len
    have hkl:=Zad hx
    refine ⟨_,xaT c7,_,rfl,Yaq (by omega),fun u hu=>hQ _ _ ⟨_,_,kvs,L,rfl,c7,s1 (by rw [hu];rfl),pr,i7,k7⟩,fun hno=>hQ _ _ ⟨_,_,_,_,rfl,List.getElem?_set_self (Zad c7),s2 hno,pr.put hno,?_,k7.loc (by omega)⟩⟩
    rw [ZbN cg5];exact i7
   ·rintro δ s ⟨v5,v6,kvs,L,rfl,c7,cd,pr,i7,k7⟩
    exact ⟨_,_,_,_,_,rfl,c7,cd.next,pr,i7,k7⟩
  ·rintro δ s ⟨v4,v5,v6,kvs,L,rfl,c6,cd,pr,i6,k6⟩
   rw [List.length_map] at cd
   obtain ⟨pv,pl,p0,pg⟩:=pl_ok cd od all n0
   have hcl:=cd.len
   generalize plOf n kvs=p at pv pl p0 pg
   have pm:=pr.perm (fun x d h=>(cd.bd x d h).1) pv pl
   obtain ⟨iff,eqg⟩:=Mth.ybo (p:=(xs,ys)) (q:=(us,vs)) (whO fl) (whO fm) n0 (s:=(i:Int)) (by omega) (by omega) p0 pg
   have hlL:(L.map (·.2)).length=n:=by rw [pm.length_eq,pl]
   have no:¬ Mth.Cg n (xs,ys) (us,vs) p→¬ (∃ g,Mth.Cg n (xs,ys) (us,vs) g∧Mth.app g 0=(i:Int)):=fun hx ⟨g,cg,g0⟩=>hx (by rw [pg g cg g0];exact cg)
   clear hQ
   refine YaD ?_
   refine Xaa ?_
   intro qhQ hQ
   set_option simprocs false in simp only [wpB,Xa5,ZbM,xaT c6]
   refine ⟨L.map (·.2),by rw [pr.e];exact ZbE L,by rw [hlL];omega,?_⟩
   rw [List.length_map,hlx,show ((n:Int) - 0).toNat=n by omega,yaf]
   refine ⟨xaD (by omega),?_⟩
   rw [zbB (L:=sortI (L.map (·.2))) (M:=Mth.upto n) (zaF (zaF Zaq (Ex.app0 _)) (Ex.app0 _)) Zaq]
   have k9:Ex [] s (s ++ [O.lst (List.map D.int (sortI (L.map (·.2))))] ++ [O.rng 0 (n:Int)] ++ [O.lst ((Mth.upto n).map D.int)]):=((Ex.app0 _).app _).app _
   have c9:=k9.keep _ _ c6 (by simp)
   have k9:=k6.trans k9
   generalize (s ++ [O.lst (List.map D.int (sortI (L.map (·.2))))] ++ [O.rng 0 (n:Int)] ++ [O.lst ((Mth.upto n).map D.int)])=s9 at c9 k9 ⊢
   have tiff:sortI (L.map (·.2))=Mth.upto n↔Mth.Tn n p:=by
    have:=xb3 hlL
    rw [hlL] at this
    rw [this]
    exact ⟨fun h=>pm.symm.trans h,fun h=>pm.trans h⟩
   refine ⟨_,rfl,hQ _ _ ⟨fun ht=>?_,fun ht=>yan ⟨_,_,_,_,_,rfl,nxt (no fun cg=>?_),k9⟩⟩⟩
   ·have tp:=tiff.mp (of_decide_eq_true ht)
    clear hQ
    refine YaD ?_
    refine Xaa ?_
    intro qhQ hQ
    set_option simprocs false in simp only [wpB]
    refine xaj (rangeD 0 n) (fun d=>.int (Mth.app p (inD d))) ?_ (by rw [xab];omega) ?_ ?_
    ·refine Xaa ?_
     intro qhQ2 hQ2
     set_option simprocs false in simp only [wpB,Xa5]
     rw [List.length_map,hlx]
     exact ⟨by omega,hQ2 _ _ ⟨by rw [Int.toNat_natCast];exact XaD _ _,Ex.refl⟩⟩
    ·intro d hd s7 k7
     rw [yaf] at hd
     obtain ⟨x,hx,rfl⟩:=zaz hd
     obtain ⟨x0,x1⟩:=Mth.Xag.mp hx
     refine Xaa ?_
     intro qhQ2 hQ2
     set_option simprocs false in simp only [wpB,List.map_cons,List.map_nil,List.getD_cons_succ,List.getD_cons_zero,zbg,xaT (k7.keep _ _ c9 (by simp))]
     exact ⟨_,rfl,_,pv x x0 x1,hQ2 _ _ ⟨rfl,Ex.refl⟩⟩
    ·intro s7 k7
     have e:(rangeD 0 n).map (fun d=>D.int (Mth.app p (inD d)))=p.map D.int:=by
      have e2:(Mth.upto n).map (fun x=>Mth.app p x)=p:=Mth.XaI (by rw [List.length_map,Mth.Xae]) pl fun s s0 s1=>ZaK s0 s1
      rw [yaf,yaM (f:=fun x=>Mth.app p x) fun x hx=>rfl,e2]
     rw [e]
     refine Yab (lawanewA (dp:=.ref s7.length) fl.1 fl.2.1 tp (by omega) (.inr ⟨_,rfl,Zaq⟩)) ?_
     rintro d s10 ⟨rfl,k10⟩
     have k11:=((k9.trans k7).app _).trans k10
     set_option simprocs false in simp only [wpB,Za4]
     refine hQ _ _ ⟨fun hc=>Zak ?_,fun hc=>yan ⟨_,_,_,_,_,rfl,nxt (no fun cg=>?_),k11⟩⟩
     ·have hc:=of_decide_eq_true hc
      clear hQ
      refine Xaa ?_
      intro qhQ hQ
      set_option simprocs false in simp only [wpB]
      exact hQ _ _ ⟨true,rfl,⟨fun _=>⟨p,tp,Prod.ext hc.1.symm hc.2.symm⟩,fun _=>rfl⟩,k11⟩
     ·exact of_decide_eq_false hc ⟨(congrArg Prod.fst cg.2).symm,(congrArg Prod.snd cg.2).symm⟩
   ·have ht:decide (sortI (L.map (·.2))=Mth.upto n)=false:=ht
    exact of_decide_eq_false ht (tiff.mpr cg.1)
 ·rintro δ st3 ⟨v2,v3,v4,v5,v6,rfl,hno,k3⟩
  rw [xab] at hno
  refine Zak ?_
  refine Xaa ?_
  intro qhQ hQ
  set_option simprocs false in simp only [wpB]
  refine hQ _ _ ⟨false,rfl,⟨fun z=>absurd z (by decide),fun ⟨g,cg⟩=>?_⟩,k3⟩
  obtain ⟨a0,a1⟩:=cg.1.app (i:=0) (by decide) (by omega)
  exact absurd (show Mth.app g 0=(((Mth.app g 0).toNat:Nat):Int) by omega) (hno g cg (Mth.app g 0).toNat (by omega))
theorem Xbp {st:Store} {xs ys us vs:List Int} {n m:Nat} (fl:IsFl n xs ys) (fm:IsFl m us vs) (n0:0 < n) (hn:n≤20) (hm:m≤20):Wp (zas [flD xs ys,flD us vs] st) fun d st'=>∃ b:Bool,d=.bl b∧(b=true↔n=m∧∃ g,Mth.Cg n (xs,ys) (us,vs) g)∧Ex [] st st':=by
 by_cases e:n=m
 ·subst e
  refine Yab (YbN fl fm n0 hn) ?_
  rintro d st1 ⟨b,rfl,h,k⟩
  exact ⟨b,rfl,h.trans ⟨fun z=>⟨rfl,z⟩,fun z=>z.2⟩,k⟩
 ·have hlx:=fl.1.length
  have hlu:=fm.1.length
  refine Xay ?_
  show Ws (Xar [some (flD xs ys),some (flD us vs),none,none,none,none,none] st) _ _ _ _
  unfold Xar
  refine Xad (YaD ?_)
  refine Xaa ?_
  intro qhQ hQ
  set_option simprocs false in simp only [wpB,Xa5]
  rw [List.length_map,List.length_map,hlx,hlu]
  refine hQ _ _ ⟨fun _=>Zak ?_,fun hc=>absurd hc (by simp;omega)⟩
  clear hQ
  refine Xaa ?_
  intro qhQ hQ
  set_option simprocs false in simp only [wpB]
  exact hQ _ _ ⟨false,rfl,⟨fun z=>absurd z (by decide),fun z=>absurd z.1 e⟩,Ex.refl⟩
theorem zbq {st:Store} {xs ys us vs p:List Int} {n m:Nat} (fl:IsFl n xs ys) (tp:Mth.Tn n p) (fm:IsFl m us vs) (n0:0 < n) (m0:0 < m) (hn:n≤20) (hm:m≤20):Wp (xax [flD xs ys,.tup (p.map D.int),flD us vs] st) fun d st'=>d=.bl true∧Ex [] st st':=by
 have wp:=whO fl
 have wq:=whO fm
 have wF:=YbQ wp n0 (zbE wp n0)
 have e2:Mth.fmF n (Mth.fmF n (xs,ys))=Mth.fmF n (xs,ys):=(Mth.Xa3 n0 wp.v (zbE wp n0)).symm
 have e3:Mth.fmF n (Mth.anew xs p,Mth.anew ys p)=Mth.fmF n (xs,ys):=(Mth.Xa3 n0 wp.v ⟨p,tp,rfl⟩).symm
 have hok:=okFl wF.v.1 wF.v.2 (by omega)
 have flF:=flO wF
 have fl3:=Mth.anew_fl fl tp n0
 have biff:(Mth.fmF m (us,vs)=Mth.fmF n (xs,ys))↔(n=m∧∃ g,Mth.Cg n (xs,ys) (us,vs) g):=by
  constructor
  ·intro e
   have e4:m=n:=by rw [← XbQ wq m0,← XbQ wp n0,e]
   subst e4
   exact ⟨rfl,(xbQ wp wq n0).mp e.symm⟩
  ·rintro ⟨rfl,h⟩
   exact ((xbQ wp wq n0).mpr h).symm
 generalize hG:Mth.fmF n (xs,ys)=G at *
 refine Xay ?_
 show Ws (ZaD [some (flD xs ys),some (.tup (p.map D.int)),some (flD us vs),none,none] st) _ _ _ _
 unfold ZaD
 refine Xad (yag ?_)
 refine Xaa ?_
 intro qhQ hQ
 set_option simprocs false in simp only [wpB]
 refine Yab (Ybc fl n0 hn) ?_
 rintro d st1 ⟨rfl,k1⟩
 rw [hG]
 refine hQ _ _ (Xad (yag ?_))
 clear hQ
 refine Xaa ?_
 intro qhQ hQ
 set_option simprocs false in simp only [wpB]
 refine Yab (xaO fl n0 hn) ?_
 rintro d st2 ⟨rfl,k2⟩
 rw [hG]
 refine hQ _ _ (Xad (YaD ?_))
 clear hQ
 refine Xaa ?_
 intro qhQ hQ
 set_option simprocs false in simp only [wpB,xbB hok]
 rw [if_neg (by simp)]
 refine Yab (xaO flF n0 hn) ?_
 rintro d st3 ⟨rfl,k3⟩
 rw [show Mth.fmF n (G.1,G.2)=G from e2,Za4]
 refine ⟨_,rfl,?_⟩
 rw [if_neg (by simp)]
 refine Yab (Zbc fl.1 fl.2.1 tp (by omega)) ?_
 rintro d st4 ⟨rfl,k4⟩
 refine Yab (xaO fl3 n0 hn) ?_
 rintro d st5 ⟨rfl,k5⟩
 rw [e3,Za4]
 refine ⟨_,rfl,hQ _ _ ⟨fun hc=>absurd hc (by simp),fun _=>yan (Zak ?_)⟩⟩
 clear hQ
 refine Xaa ?_
 intro qhQ hQ
 set_option simprocs false in simp only [wpB]
 refine Yab (xaO fm m0 hm) ?_
 rintro d st6 ⟨rfl,k6⟩
 rw [Za4]
 refine Yab (Xbp fl fm n0 hn hm) ?_
 rintro d st7 ⟨b,rfl,hb,k7⟩
 have hd:decide ([(Mth.fmF m (us,vs)).1,(Mth.fmF m (us,vs)).2]=[G.1,G.2])=b:=by
  have h1:([(Mth.fmF m (us,vs)).1,(Mth.fmF m (us,vs)).2]=[G.1,G.2])↔(b=true):=by
   rw [hb,← biff]
   constructor
   ·intro h
    simp only [List.cons.injEq,and_true] at h
    exact Prod.ext h.1 h.2
   ·intro h;rw [h]
  cases b with
  | true=>exact decide_eq_true (h1.mpr rfl)
  | false=>exact decide_eq_false fun z=>absurd (h1.mp z) (by decide)
 rw [hd]
 set_option simprocs false in simp only [wpB,wp_eqB]
 refine hQ _ _ ⟨by simp,(((((k1.trans k2).trans k3).trans k4).trans k5).trans k6).trans k7⟩
noncomputable def Ask (d:D):Prop:=∃ (xs ys p us vs:List Int) (n m:Nat),d=.tup [flD xs ys,.tup (p.map D.int),flD us vs]∧IsFl n xs ys∧Mth.Tn n p∧IsFl m us vs∧0 < n∧0 < m∧n≤20∧m≤20
theorem zbR {n:Nat} (n0:0 < n):∀ {p:List Int×List Int} (w:List Stp),Mth.Wh n p→Mth.Wh n (ledW p w)
 | _,[],h=>h
 | p,s :: w,h=>by
  refine zbR n0 w ?_
  unfold stepW
  split
  ·exact h.sh n0 s.2
  ·have:∀ j,Mth.Wh n (qtr p.1 p.2 j):=fun j=>by
    induction j with
    | zero=>exact h
    | succ j ih=>exact ih.qt n0
   exact this _
theorem law_true (ns:List Int) (hn:ns.length≤63):Wp (Zb3 [.ref 0] [.fzn (ns.map D.int)]) fun d _=>d=.bl true:=by
 refine Xay ?_
 show Ws (YbM [some (.ref 0),none,none,none,none,none,none,none] [.fzn (ns.map D.int)]) _ _ _ _
 unfold YbM
 refine Xad (yag ?_)
 refine Xaa ?_
 intro qhQ hQ
 set_option simprocs false in simp only [wpB]
 refine ⟨rfl,hQ _ _ ?_⟩
 clear hQ
 show Ws _ _ _ _ _
 obtain ⟨S,st1,eS,m,hm,rfl,k1⟩:=XbB (δ:=[some (.ref 0),some (.ref 1),none,none,none,none,none,none]) (st:=([O.fzn (ns.map D.int)] ++ [O.lst []]:Store)) (a:=0) (ds:=ns.map D.int) 3 (by decide) rfl rfl
 refine Xad (zaI (rangeD 0 m) (fun i δ st=>∃ (v2 v3 v4 v5 v6 v7:Option D) (qs:List D),δ=[some (.ref 0),some (.ref 1),v2,v3,v4,v5,v6,v7]∧st[0]?=some (.fzn (ns.map D.int))∧st[1]?=some (.lst qs)∧qs.length≤10 * i∧∀ d∈qs,Ask d) ⟨_,_,eS,rfl,none,none,none,none,none,none,[],rfl,k1.keep _ _ rfl (by simp),k1.keep _ _ rfl (by simp),Nat.le_refl _,(fun d hd=>nomatch hd)⟩ (by rw [xab];omega) ?_ ?_)
 ·rintro i d δ st hd ⟨v2,v3,v4,v5,v6,v7,qs,rfl,h0,h1,hl,hq⟩
  have hil:=Zad hd
  rw [xab] at hil
  rw [YaK hil,Int.zero_add] at hd
  cases hd
  refine Xaa ?_
  intro qhQ hQ
  set_option simprocs false in simp only [wpB]
  refine hQ _ _ (Xad (yag ?_))
  clear hQ
  refine Xaa ?_
  intro qhQ hQ
  set_option simprocs false in simp only [wpB]
  refine Yab (XbC (a:=0) (ns:=ns) (k:=i) (Zbz h0) (by omega)) ?_
  rintro d st2 ⟨rfl,f2,k2⟩
  generalize hF:st.length=ff at f2 ⊢
  have hff:1 < ff:=by rw [← hF];exact Zad h1
  have h02:=k2.keep _ _ h0 (by simp)
  have h12:=k2.keep _ _ h1 (by simp)
  refine hQ _ _ (Xad (yag ?_))
  clear hQ
  refine Xaa ?_
  intro qhQ hQ
  set_option simprocs false in simp only [wpB]
  refine Yab (Yao (n:=8) f2 (by decide) (by decide)) ?_
  rintro d st3 ⟨n1,rfl,n10,n11,f3,k3⟩
  set_option simprocs false in simp only [wpB]
  obtain ⟨n,rfl⟩:∃ n:Nat,n1=(n:Int) - 1:=⟨(n1 + 1).toNat,by omega⟩
  rw [show (1:Int) + ((n:Int) - 1)=(n:Int) by omega]
  refine hQ _ _ (Xad (xby ?_))
  clear hQ
  refine Xaa ?_
  intro qhQ hQ
  set_option simprocs false in simp only [wpB]
  refine Yab (ya1 (n:=n) f3 (by omega) (by omega)) ?_
  rintro d st4 ⟨xs,ys,rfl,fl,f4,k4⟩
  refine Yab (XaJ (n:=n) f4 (by omega)) ?_
  rintro d st5 ⟨p,rfl,tp,f5,k5⟩
  refine hQ _ _ ⟨_,_,rfl,Xad (yag ?_)⟩
  clear hQ
  refine Xaa ?_
  intro qhQ hQ
  set_option simprocs false in simp only [wpB]
  refine Yab (xbp (most:=3) (great:=6) f5 (by decide) (by decide) (by decide) (by decide)) ?_
  rintro d st6 ⟨w,rfl,hw,hwl,f6,k6⟩
  have hok:∀ s∈w,okS s:=fun s hs=>⟨(hw s hs).1,by have:=(hw s hs).2.1;omega,by have:=(hw s hs).2.1;omega⟩
  refine Yab (Xbh (p:=(xs,ys)) (n:=n) ⟨fl.1,fl.2.1⟩ (by omega) hok (by omega)) ?_
  rintro d st7 ⟨rfl,k7⟩
  have wl:=zbR (by omega) w (whO fl)
  have k37:=(((k3.trans k4).trans k5).trans k6).trans k7.any
  have h07:=k37.keep _ _ h02 (by simp;omega)
  have h17:=k37.keep _ _ h12 (by simp;omega)
  have f7:=f6.keep k7
  have fz:IsFl n (ledW (xs,ys) w).1 (ledW (xs,ys) w).2:=⟨wl.v.1,wl.v.2,wl.all⟩
  unfold flP
  generalize (ledW (xs,ys) w).1=z1 at fz ⊢
  generalize (ledW (xs,ys) w).2=z2 at fz ⊢
  refine hQ _ _ (Xad (xaG ?_))
  clear hQ
  refine Xaa ?_
  intro qhQ hQ
  set_option simprocs false in simp only [wpB]
  refine ⟨Yav (by rw [zac h17];rfl),rfl,_,Xai h17,Yaq (by omega),?_⟩
  have hA:∀ d∈qs ++ [D.tup [flD xs ys,D.tup (List.map D.int p),flD z1 z2]],Ask d:=fun d hd=>by
   rcases List.mem_append.mp hd with hd | hd
   ·exact hq d hd
   ·rw [List.mem_singleton.mp hd]
    exact ⟨xs,ys,p,z1,z2,n,n,rfl,fl,tp,fz,by omega,by omega,by omega,by omega⟩
  have hL:(qs ++ [D.tup [flD xs ys,D.tup (List.map D.int p),flD z1 z2]]).length=qs.length + 1:=by rw [List.length_append];rfl
  generalize D.tup [flD xs ys,D.tup (List.map D.int p),flD z1 z2]=X1 at hA hL ⊢
  have f9:FeedIs (List.set st7 1 (O.lst (qs ++ [X1]))) ff:=f7.ne (by omega)
  have h09:(List.set st7 1 (O.lst (qs ++ [X1])))[0]?=some (.fzn (ns.map D.int)):=by
   rw [List.getElem?_set_ne (by omega)]
   exact h07
  have h19:(List.set st7 1 (O.lst (qs ++ [X1])))[1]?=some (.lst (qs ++ [X1])):=List.getElem?_set_self (Zad h17)
  generalize qs ++ [X1]=q3 at hA hL f9 h09 h19 ⊢
  generalize List.set st7 1 (O.lst q3)=st9 at f9 h09 h19 ⊢
  refine hQ _ _ (xaG ?_)
  clear hQ
  refine Xaa ?_
  intro qhQ hQ
  set_option simprocs false in simp only [wpB]
  refine ⟨Yav (by rw [zac h19];rfl),?_⟩
  refine Yab (Yao (n:=8) f9 (by decide) (by decide)) ?_
  rintro d st10 ⟨m1,rfl,m10,m11,f10,k10⟩
  set_option simprocs false in simp only [wpB]
  obtain ⟨m',rfl⟩:∃ m':Nat,m1=(m':Int) - 1:=⟨(m1 + 1).toNat,by omega⟩
  rw [show (1:Int) + ((m':Int) - 1)=(m':Int) by omega]
  refine ⟨rfl,?_⟩
  have hb10:ff < st10.length:=f10.lt
  refine Yab (Yao (n:=2) (f10.keep (Ex.app0 [O.lst [D.int (n:Int),D.int (m':Int)]])) (by decide) (by decide)) ?_
  rintro d st11 ⟨e,rfl,e0,e1,f11,k11⟩
  have hi11:items st11 st10.length=some [D.int (n:Int),D.int (m':Int)]:=zac (k11.keep _ _ Zah (by simp;omega))
  obtain ⟨r,hr,r1,r20⟩:∃ r:Nat,atI [D.int (n:Int),D.int (m':Int)] e=some (.int (r:Int))∧1≤r∧r≤20:=by
   rcases (show e=0∨e=1 by omega) with rfl | rfl
   ·exact ⟨n,rfl,by omega,by omega⟩
   ·exact ⟨m',rfl,by omega,by omega⟩
  set_option simprocs false in simp only [wpB,hi11,hr]
  refine Yab (ya1 (n:=r) f11 r1 r20) ?_
  rintro d st12 ⟨us,vs,rfl,fu,f12,k12⟩
  have kk:=(k10.trans (Ex.app0 _)).trans (k11.trans k12)
  have h112:=kk.keep _ _ h19 (by simp;omega)
  have h012:=kk.keep _ _ h09 (by simp;omega)
  refine ⟨rfl,_,Xai h112,Yaq (by omega),hQ _ _ ⟨_,_,_,_,_,_,q3 ++ [D.tup [flD z1 z2,D.tup (List.map D.int p),flD us vs]],rfl,?_,List.getElem?_set_self (Zad h112),?_,fun d hd=>?_⟩⟩
  ·rw [List.getElem?_set_ne (by omega)];exact h012
  ·rw [List.length_append,hL,List.length_singleton];omega
  ·rcases List.mem_append.mp hd with hd | hd
   ·exact hA d hd
   ·rw [List.mem_singleton.mp hd]
    exact ⟨z1,z2,p,us,vs,n,r,rfl,fz,tp,fu,by omega,by omega,by omega,by omega⟩
 ·rintro δ st ⟨v2,v3,v4,v5,v6,v7,qs,rfl,h0,h1,hl,hq⟩
  rw [xab] at hl
  refine Zak (xbL (m:=1) (a:=1) rfl h1 (by omega) ?_)
  intro d hd δ' st1 hδ
  obtain ⟨xs,ys,p,us,vs,n,m,rfl,fl,tp,fm,n0,m0,hn',hm'⟩:=hq d hd
  obtain ⟨a,b,c,rfl⟩:∃ a b c,δ'=[a,b,c]:=by
   match δ',hδ with
   | [a,b,c],_=>exact ⟨a,b,c,rfl⟩
  refine Xaa ?_
  intro qhQ2 hQ2
  set_option simprocs false in simp only [wpB]
  refine ⟨rfl,hQ2 _ _ ⟨rfl,?_⟩⟩
  refine Xaa ?_
  intro qhQ3 hQ3
  set_option simprocs false in simp only [wpB]
  exact Yab (zbq fl tp fm n0 m0 hn' hm') fun y st3 h=>hQ3 _ _ h
theorem all_ok {P:Program} {w:World} {K:PySem.W.Frag} {mg:Str→Option Value} {base:Heap} (T:Txt mg)  {f_law_feed:Addr} {d_law_feed:FuncData} (D_law_feed:Def K mg "_law_feed" zaB ["_law_script","_law_k"] f_law_feed d_law_feed) {f_law_behind:Addr} {d_law_behind:FuncData} (D_law_behind:Def K mg "_law_behind" xat ["_law_turning_here","_law_s","_law_k"] f_law_behind d_law_behind) {f_law_stepped:Addr} {d_law_stepped:FuncData} (D_law_stepped:Def K mg "_law_stepped" xaq ["_law_floor_here","_law_step"] f_law_stepped d_law_stepped) {f_law_led:Addr} {d_law_led:FuncData} (D_law_led:Def K mg "_law_led" ZaF ["_law_floor_here","_law_word_here"] f_law_led d_law_led) {f_law_take:Addr} {d_law_take:FuncData} (D_law_take:Def K mg "_law_take" Zan ["_law_feed_here","_law_many"] f_law_take d_law_take) {f_law_turning:Addr} {d_law_turning:FuncData} (D_law_turning:Def K mg "_law_turning" Xal ["_law_feed_here","_law_n"] f_law_turning d_law_turning) {f_law_met:Addr} {d_law_met:FuncData} (D_law_met:Def K mg "_law_met" yaA ["_law_floor_here"] f_law_met d_law_met) {f_law_floor:Addr} {d_law_floor:FuncData} (D_law_floor:Def K mg "_law_floor" Zax ["_law_feed_here","_law_n"] f_law_floor d_law_floor) {f_law_word:Addr} {d_law_word:FuncData} (D_law_word:Def K mg "_law_word" YaB ["_law_feed_here","_law_most","_law_great"] f_law_word d_law_word) {f_law_numbered:Addr} {d_law_numbered:FuncData} (D_law_numbered:Def K mg "_law_numbered" Xan ["_law_floor_here","_law_s"] f_law_numbered d_law_numbered) {f_law_form:Addr} {d_law_form:FuncData} (D_law_form:Def K mg "_law_form" XaB ["_law_floor_here"] f_law_form d_law_form) {fturned_back:Addr} {dturned_back:FuncData} (Dturned_back:Def K mg "turned_back" yap ["turning"] fturned_back dturned_back) {ffollowed:Addr} {dfollowed:FuncData} (Dfollowed:Def K mg "followed" YaF ["one","other"] ffollowed dfollowed) {fcalled_anew:Addr} {dcalled_anew:FuncData} (Dcalled_anew:Def K mg "called_anew" Zau ["floor","p"] fcalled_anew dcalled_anew) {fsquares_from:Addr} {dsquares_from:FuncData} (Dsquares_from:Def K mg "squares_from" zar ["floor","s"] fsquares_from dsquares_from) {fnumbering_from:Addr} {dnumbering_from:FuncData} (Dnumbering_from:Def K mg "numbering_from" Yal ["floor","s"] fnumbering_from dnumbering_from) {fnumbered_from:Addr} {dnumbered_from:FuncData} (Dnumbered_from:Def K mg "numbered_from" yao ["floor","s"] fnumbered_from dnumbered_from) {fform_of:Addr} {dform_of:FuncData} (Dform_of:Def K mg "form_of" xaJ ["floor"] fform_of dform_of) {f_law_anew:Addr} {d_law_anew:FuncData} (D_law_anew:Def K mg "_law_anew" zav ["_law_floor_here","_law_p"] f_law_anew d_law_anew) {f_law_alike:Addr} {d_law_alike:FuncData} (D_law_alike:Def K mg "_law_alike" Yax ["_law_one","_law_other"] f_law_alike d_law_alike) {f_law_right:Addr} {d_law_right:FuncData} (D_law_right:Def K mg "_law_right" Xax ["_law_floor_here","_law_p","_law_other"] f_law_right d_law_right) {flaw:Addr} {dlaw:FuncData} (Dlaw:Def K mg "law" xbM ["_law_script"] flaw dlaw):FnOk P w K mg base CX0 6 flaw dlaw ["_law_script"] (spF K 1 Zb3):=by
 have G_law_feed:=xba (P:=P) (w:=w) (base:=base) D_law_feed T
 have G_law_behind:=zaY (P:=P) (w:=w) (base:=base) D_law_behind T
 have G_law_stepped:=zaX (P:=P) (w:=w) (base:=base) D_law_stepped T  D_law_behind G_law_behind
 have G_law_led:=Xbg (P:=P) (w:=w) (base:=base) D_law_led T  D_law_stepped G_law_stepped
 have G_law_take:=Xba (P:=P) (w:=w) (base:=base) D_law_take T
 have G_law_turning:=yaX (P:=P) (w:=w) (base:=base) D_law_turning T  D_law_take G_law_take
 have G_law_met:=zbh (P:=P) (w:=w) (base:=base) D_law_met T
 have G_law_floor:=Xa4 (P:=P) (w:=w) (base:=base) D_law_floor T  D_law_take G_law_take D_law_turning G_law_turning D_law_met G_law_met
 have G_law_word:=zbb (P:=P) (w:=w) (base:=base) D_law_word T  D_law_take G_law_take
 have G_law_numbered:=yaS (P:=P) (w:=w) (base:=base) D_law_numbered T
 have G_law_form:=Zbb (P:=P) (w:=w) (base:=base) D_law_form T  D_law_numbered G_law_numbered
 have Gturned_back:=yaY (P:=P) (w:=w) (base:=base) Dturned_back T
 have Gfollowed:=Zbh (P:=P) (w:=w) (base:=base) Dfollowed T
 have Gcalled_anew:=ZaY (P:=P) (w:=w) (base:=base) Dcalled_anew T  Dturned_back Gturned_back Dfollowed Gfollowed
 have Gsquares_from:=ZaX (P:=P) (w:=w) (base:=base) Dsquares_from T
 have Gnumbering_from:=XaQ (P:=P) (w:=w) (base:=base) Dnumbering_from T  Dturned_back Gturned_back Dsquares_from Gsquares_from
 have Gnumbered_from:=YaS (P:=P) (w:=w) (base:=base) Dnumbered_from T  Dcalled_anew Gcalled_anew Dnumbering_from Gnumbering_from
 have Gform_of:=ybp (P:=P) (w:=w) (base:=base) Dform_of T  Dnumbered_from Gnumbered_from
 have G_law_anew:=xbb (P:=P) (w:=w) (base:=base) D_law_anew T
 have G_law_alike:=za5 (P:=P) (w:=w) (base:=base) D_law_alike T  D_law_met G_law_met D_law_anew G_law_anew
 have G_law_right:=ya5 (P:=P) (w:=w) (base:=base) D_law_right T  D_law_form G_law_form Dform_of Gform_of D_law_alike G_law_alike D_law_anew G_law_anew
 have Glaw:=ok_law (P:=P) (w:=w) (base:=base) Dlaw T  D_law_feed G_law_feed D_law_led G_law_led D_law_take G_law_take D_law_floor G_law_floor D_law_turning G_law_turning D_law_word G_law_word D_law_right G_law_right
 exact Glaw
end My
open PySem PySem.W PyProof.Rows L2
set_option maxRecDepth 100000 in
set_option maxHeartbeats 0 in
theorem PySem.Challenge.cw_shearfloor_k12_forms_holds : PySem.Challenge.rw_shearfloor_k12_forms.Holds := by
 w_on;o_law;k_head;(case hw=>w_witness2)
 k_fill
 refine L2.YbG (l:=PySem.Challenge.rw_shearfloor_k12_forms) (n:=63) (k:=6) (x:="_law_script") (CX:=CX0) (sp:=L4.spLaw) rfl (by decide) rfl ⟨rfl,by decide,by decide,rfl⟩ (fun w h Y=>PySem.W.kIn_of Y) ?F ?S ?C
 case F =>
  intro w mg fa h KX G hmg
  have T:My.Txt mg:=by
   refine' ⟨YaA KX G ?z0,YaA KX G ?z1,YaA KX G ?z2,YaA KX G ?z3,YaA KX G ?z4,YaA KX G ?z5,YaA KX G ?z6,YaA KX G ?z7,YaA KX G ?z8,YaA KX G ?z9,YaA KX G ?z10⟩
   (case z0=>k_is);(case z1=>k_is);(case z2=>k_is);(case z3=>k_is);(case z4=>k_is);(case z5=>k_is);(case z6=>k_is);(case z7=>k_is);(case z8=>k_is);(case z9=>k_is);(case z10=>k_is)
  have D__law_feed:∃ f fd,Def (L2.KOf KX) mg "_law_feed" My.zaB ["_law_script","_law_k"] f fd:=by
   dsimp only [L2.KOf];refine' xap KX G (fun _ _ _ _ _ _ us hl=>match us,hl with | [_,_],_=>rfl) ?a ?l ?c ?k
   (case a=>k_is);(case l=>k_is);(case c=>k_is);(case k=>k_is)
  obtain ⟨_,_,D__law_feed⟩:=D__law_feed
  have D__law_behind:∃ f fd,Def (L2.KOf KX) mg "_law_behind" My.xat ["_law_turning_here","_law_s","_law_k"] f fd:=by
   dsimp only [L2.KOf];refine' xap KX G (fun _ _ _ _ _ _ us hl=>match us,hl with | [_,_,_],_=>rfl) ?a ?l ?c ?k
   (case a=>k_is);(case l=>k_is);(case c=>k_is);(case k=>k_is)
  obtain ⟨_,_,D__law_behind⟩:=D__law_behind
  have D__law_stepped:∃ f fd,Def (L2.KOf KX) mg "_law_stepped" My.xaq ["_law_floor_here","_law_step"] f fd:=by
   dsimp only [L2.KOf];refine' xap KX G (fun _ _ _ _ _ _ us hl=>match us,hl with | [_,_],_=>rfl) ?a ?l ?c ?k
   (case a=>k_is);(case l=>k_is);(case c=>k_is);(case k=>k_is)
  obtain ⟨_,_,D__law_stepped⟩:=D__law_stepped
  have D__law_led:∃ f fd,Def (L2.KOf KX) mg "_law_led" My.ZaF ["_law_floor_here","_law_word_here"] f fd:=by
   dsimp only [L2.KOf];refine' xap KX G (fun _ _ _ _ _ _ us hl=>match us,hl with | [_,_],_=>rfl) ?a ?l ?c ?k
   (case a=>k_is);(case l=>k_is);(case c=>k_is);(case k=>k_is)
  obtain ⟨_,_,D__law_led⟩:=D__law_led
  have D__law_take:∃ f fd,Def (L2.KOf KX) mg "_law_take" My.Zan ["_law_feed_here","_law_many"] f fd:=by
   dsimp only [L2.KOf];refine' xap KX G (fun _ _ _ _ _ _ us hl=>match us,hl with | [_,_],_=>rfl) ?a ?l ?c ?k
   (case a=>k_is);(case l=>k_is);(case c=>k_is);(case k=>k_is)
  obtain ⟨_,_,D__law_take⟩:=D__law_take
  have D__law_turning:∃ f fd,Def (L2.KOf KX) mg "_law_turning" My.Xal ["_law_feed_here","_law_n"] f fd:=by
   dsimp only [L2.KOf];refine' xap KX G (fun _ _ _ _ _ _ us hl=>match us,hl with | [_,_],_=>rfl) ?a ?l ?c ?k
   (case a=>k_is);(case l=>k_is);(case c=>k_is);(case k=>k_is)
  obtain ⟨_,_,D__law_turning⟩:=D__law_turning
  have D__law_met:∃ f fd,Def (L2.KOf KX) mg "_law_met" My.yaA ["_law_floor_here"] f fd:=by
   dsimp only [L2.KOf];refine' xap KX G (fun _ _ _ _ _ _ us hl=>match us,hl with | [_],_=>rfl) ?a ?l ?c ?k
   (case a=>k_is);(case l=>k_is);(case c=>k_is);(case k=>k_is)
  obtain ⟨_,_,D__law_met⟩:=D__law_met
  have D__law_floor:∃ f fd,Def (L2.KOf KX) mg "_law_floor" My.Zax ["_law_feed_here","_law_n"] f fd:=by
   dsimp only [L2.KOf];refine' xap KX G (fun _ _ _ _ _ _ us hl=>match us,hl with | [_,_],_=>rfl) ?a ?l ?c ?k
   (case a=>k_is);(case l=>k_is);(case c=>k_is);(case k=>k_is)
  obtain ⟨_,_,D__law_floor⟩:=D__law_floor
  have D__law_word:∃ f fd,Def (L2.KOf KX) mg "_law_word" My.YaB ["_law_feed_here","_law_most","_law_great"] f fd:=by
   dsimp only [L2.KOf];refine' xap KX G (fun _ _ _ _ _ _ us hl=>match us,hl with | [_,_,_],_=>rfl) ?a ?l ?c ?k
   (case a=>k_is);(case l=>k_is);(case c=>k_is);(case k=>k_is)
  obtain ⟨_,_,D__law_word⟩:=D__law_word
  have D__law_numbered:∃ f fd,Def (L2.KOf KX) mg "_law_numbered" My.Xan ["_law_floor_here","_law_s"] f fd:=by
   dsimp only [L2.KOf];refine' xap KX G (fun _ _ _ _ _ _ us hl=>match us,hl with | [_,_],_=>rfl) ?a ?l ?c ?k
   (case a=>k_is);(case l=>k_is);(case c=>k_is);(case k=>k_is)
  obtain ⟨_,_,D__law_numbered⟩:=D__law_numbered
  have D__law_form:∃ f fd,Def (L2.KOf KX) mg "_law_form" My.XaB ["_law_floor_here"] f fd:=by
   dsimp only [L2.KOf];refine' xap KX G (fun _ _ _ _ _ _ us hl=>match us,hl with | [_],_=>rfl) ?a ?l ?c ?k
   (case a=>k_is);(case l=>k_is);(case c=>k_is);(case k=>k_is)
  obtain ⟨_,_,D__law_form⟩:=D__law_form
  have D_turned_back:∃ f fd,Def (L2.KOf KX) mg "turned_back" My.yap ["turning"] f fd:=by
   dsimp only [L2.KOf];refine' xap KX G (fun _ _ _ _ _ _ us hl=>match us,hl with | [_],_=>rfl) ?a ?l ?c ?k
   (case a=>k_is);(case l=>k_is);(case c=>k_is);(case k=>k_is)
  obtain ⟨_,_,D_turned_back⟩:=D_turned_back
  have D_followed:∃ f fd,Def (L2.KOf KX) mg "followed" My.YaF ["one","other"] f fd:=by
   dsimp only [L2.KOf];refine' xap KX G (fun _ _ _ _ _ _ us hl=>match us,hl with | [_,_],_=>rfl) ?a ?l ?c ?k
   (case a=>k_is);(case l=>k_is);(case c=>k_is);(case k=>k_is)
  obtain ⟨_,_,D_followed⟩:=D_followed
  have D_called_anew:∃ f fd,Def (L2.KOf KX) mg "called_anew" My.Zau ["floor","p"] f fd:=by
   dsimp only [L2.KOf];refine' xap KX G (fun _ _ _ _ _ _ us hl=>match us,hl with | [_,_],_=>rfl) ?a ?l ?c ?k
   (case a=>k_is);(case l=>k_is);(case c=>k_is);(case k=>k_is)
  obtain ⟨_,_,D_called_anew⟩:=D_called_anew
  have D_squares_from:∃ f fd,Def (L2.KOf KX) mg "squares_from" My.zar ["floor","s"] f fd:=by
   dsimp only [L2.KOf];refine' xap KX G (fun _ _ _ _ _ _ us hl=>match us,hl with | [_,_],_=>rfl) ?a ?l ?c ?k
   (case a=>k_is);(case l=>k_is);(case c=>k_is);(case k=>k_is)
  obtain ⟨_,_,D_squares_from⟩:=D_squares_from
  have D_numbering_from:∃ f fd,Def (L2.KOf KX) mg "numbering_from" My.Yal ["floor","s"] f fd:=by
   dsimp only [L2.KOf];refine' xap KX G (fun _ _ _ _ _ _ us hl=>match us,hl with | [_,_],_=>rfl) ?a ?l ?c ?k
   (case a=>k_is);(case l=>k_is);(case c=>k_is);(case k=>k_is)
  obtain ⟨_,_,D_numbering_from⟩:=D_numbering_from
  have D_numbered_from:∃ f fd,Def (L2.KOf KX) mg "numbered_from" My.yao ["floor","s"] f fd:=by
   dsimp only [L2.KOf];refine' xap KX G (fun _ _ _ _ _ _ us hl=>match us,hl with | [_,_],_=>rfl) ?a ?l ?c ?k
   (case a=>k_is);(case l=>k_is);(case c=>k_is);(case k=>k_is)
  obtain ⟨_,_,D_numbered_from⟩:=D_numbered_from
  have D_form_of:∃ f fd,Def (L2.KOf KX) mg "form_of" My.xaJ ["floor"] f fd:=by
   dsimp only [L2.KOf];refine' xap KX G (fun _ _ _ _ _ _ us hl=>match us,hl with | [_],_=>rfl) ?a ?l ?c ?k
   (case a=>k_is);(case l=>k_is);(case c=>k_is);(case k=>k_is)
  obtain ⟨_,_,D_form_of⟩:=D_form_of
  have D__law_anew:∃ f fd,Def (L2.KOf KX) mg "_law_anew" My.zav ["_law_floor_here","_law_p"] f fd:=by
   dsimp only [L2.KOf];refine' xap KX G (fun _ _ _ _ _ _ us hl=>match us,hl with | [_,_],_=>rfl) ?a ?l ?c ?k
   (case a=>k_is);(case l=>k_is);(case c=>k_is);(case k=>k_is)
  obtain ⟨_,_,D__law_anew⟩:=D__law_anew
  have D__law_alike:∃ f fd,Def (L2.KOf KX) mg "_law_alike" My.Yax ["_law_one","_law_other"] f fd:=by
   dsimp only [L2.KOf];refine' xap KX G (fun _ _ _ _ _ _ us hl=>match us,hl with | [_,_],_=>rfl) ?a ?l ?c ?k
   (case a=>k_is);(case l=>k_is);(case c=>k_is);(case k=>k_is)
  obtain ⟨_,_,D__law_alike⟩:=D__law_alike
  have D__law_right:∃ f fd,Def (L2.KOf KX) mg "_law_right" My.Xax ["_law_floor_here","_law_p","_law_other"] f fd:=by
   dsimp only [L2.KOf];refine' xap KX G (fun _ _ _ _ _ _ us hl=>match us,hl with | [_,_,_],_=>rfl) ?a ?l ?c ?k
   (case a=>k_is);(case l=>k_is);(case c=>k_is);(case k=>k_is)
  obtain ⟨_,_,D__law_right⟩:=D__law_right
  have D_law:∃ f fd,Def (L2.KOf KX) mg "law" My.xbM ["_law_script"] f fd:=by
   dsimp only [L2.KOf];refine' xap KX G (fun _ _ _ _ _ _ us hl=>match us,hl with | [_],_=>rfl) ?a ?l ?c ?k
   (case a=>k_is);(case l=>k_is);(case c=>k_is);(case k=>k_is)
  obtain ⟨_,_,D_law⟩:=D_law
  have e0:=hmg.symm.trans D_law.m
  cases e0
  exact ⟨_,D_law.bindsTo,fun base _ _=>L4.law_of (My.all_ok T  D__law_feed D__law_behind D__law_stepped D__law_led D__law_take D__law_turning D__law_met D__law_floor D__law_word D__law_numbered D__law_form D_turned_back D_followed D_called_anew D_squares_from D_numbering_from D_numbered_from D_form_of D__law_anew D__law_alike D__law_right D_law) fun ns hn=>let ⟨_,st,e,h⟩:=My.law_true ns hn;⟨st,h ▸ e⟩⟩
 case S=>exact fun K H a ns hl hO hS=>⟨a,ns,rfl,hS.script hO,hl,fun _=>rfl⟩
 case C=>exact fun _ _ _ _ z=>z
