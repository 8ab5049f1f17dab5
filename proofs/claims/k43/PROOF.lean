import PyProof.Rows.All
import Wide.All
import OpenK.AllK
import Wide.FinOn
import Lean
import PyProof.EqAt
import PyProof.EqKinds
import PyProof.TupleCall
import PyProof.DictIter
import PyProof.EnumMake
import KE.KSortTup
import KE.KDictLaws
import KE.KDictSum
import PyProof.StrLawsTight
import KE.KIntText
import PyProof.MinMaxWalk
import PyProof.WalkInts
import PySem.Challenge.RW_shearfloor_k43_rims_and_closed_seams
set_option Elab.async false
set_option linter.all false
set_option maxRecDepth 100000
set_option maxHeartbeats 4000000
set_option genSizeOf false
noncomputable section
namespace L2
open PySem PySem.Spec PyProof.Rows
abbrev Key:=Sum Int Str
noncomputable def keyIs:Key→Value→Bool
 | .inl k,v=>Value.isInt k v
 | .inr x,v=>Value.isStrOf x v
noncomputable def keyH (w:World):Key→Int
 | .inl k=>hashInt k
 | .inr x=>hashStr w x
theorem yan:∀ {k:Key} {v:Value},keyIs k v=true→(∃ i t,k=Sum.inl i∧v=Value.int i t)∨(∃ x t,k=Sum.inr x∧v=Value.str x t)
 | .inl i,v,h=>by
  obtain ⟨t,e⟩:=Value.isInt_shape (k:=i) (v:=v) h
  exact .inl ⟨i,t,rfl,e⟩
 | .inr x,v,h=>by
  obtain ⟨t,e⟩:=Value.isStrOf_shape (x:=x) (v:=v) h
  exact .inr ⟨x,t,rfl,e⟩
theorem Zbw (i:Int) (t:Tok):keyIs (.inl i) (.int i t)=true:=by simp [keyIs,Value.isInt]
theorem Ybw (x:Str) (t:Tok):keyIs (.inr x) (.str x t)=true:=by simp [keyIs,Value.isStrOf]
theorem key_ll (a b:Int):decide ((Sum.inl a:Key)=Sum.inl b)=(a == b):=by
 by_cases e:a=b
 ·subst e;simp
 ·have h:¬ (Sum.inl a:Key)=Sum.inl b:=fun q=>e (Sum.inl.inj q)
  rw [decide_eq_false h]
  exact (beq_eq_false_iff_ne.mpr e).symm
theorem key_rr (a b:Str):decide ((Sum.inr a:Key)=Sum.inr b)=decide (a=b):=by
 by_cases e:a=b
 ·subst e;simp
 ·have h:¬ (Sum.inr a:Key)=Sum.inr b:=fun q=>e (Sum.inr.inj q)
  rw [decide_eq_false h,decide_eq_false e]
theorem key_lr (a:Int) (b:Str):decide ((Sum.inl a:Key)=Sum.inr b)=false:=decide_eq_false (fun q=>nomatch q)
theorem key_rl (a:Str) (b:Int):decide ((Sum.inr a:Key)=Sum.inl b)=false:=decide_eq_false (fun q=>nomatch q)
noncomputable def mixKind (prog:Program) (w:World):PySem.KeyKind prog w Key where
 is:=keyIs
 hash:=keyH w
 inj:=fun v a b ha hb=>by
  rcases yan ha with ⟨i,t,rfl,rfl⟩ | ⟨x,t,rfl,rfl⟩
  ·rcases yan hb with ⟨j,u,rfl,e⟩ | ⟨y,u,rfl,e⟩
   ·injection e with e1 _;rw [e1]
   ·exact nomatch e
  ·rcases yan hb with ⟨j,u,rfl,e⟩ | ⟨y,u,rfl,e⟩
   ·exact nomatch e
   ·injection e with e1 _;rw [e1]
 byValue:=fun k v h=>by
  rcases yan h with ⟨i,t,rfl,rfl⟩ | ⟨x,t,rfl,rfl⟩ <;> rfl
 pyHash:=fun hv h=>by
  rcases yan hv with ⟨i,t,rfl,rfl⟩ | ⟨x,t,rfl,rfl⟩
  ·exact wpAny_pyHash_int h
  ·exact wpAny_pyHash_str h
 eqBool:=fun hu hv h=>by
  rcases yan hu with ⟨i,t,rfl,rfl⟩ | ⟨x,t,rfl,rfl⟩
  ·rcases yan hv with ⟨j,u,rfl,rfl⟩ | ⟨y,u,rfl,rfl⟩
   ·rw [key_ll] at h;exact wpAny_eqBool_int h
   ·rw [key_lr] at h;exact SeqAt.EqAt.int_str i t y u _ _ _ _ h
  ·rcases yan hv with ⟨j,u,rfl,rfl⟩ | ⟨y,u,rfl,rfl⟩
   ·rw [key_rl] at h;exact SeqAt.EqAt.str_int x t j u _ _ _ _ h
   ·rw [key_rr] at h;exact wpAny_eqBool_str h
 «strs»:=fun k x t v h=>by
  rcases yan h with ⟨i,u,rfl,e⟩ | ⟨y,u,rfl,e⟩
  ·exact nomatch e
  ·injection e with e1 _
   subst e1
   cases v <;> rfl
theorem Zbg (prog:Program) (w:World) (i:Int) (t:Tok):(mixKind prog w).is (.inl i) (.int i t)=true:=Zbw i t
theorem Ybg (prog:Program) (w:World) (x:Str) (t:Tok):(mixKind prog w).is (.inr x) (.str x t)=true:=Ybw x t
end L2
namespace L2
open PySem PySem.Spec PyProof.Rows
inductive V where
 | non | bl (b:Bool) | int (i:Int) | str (x:Str) | byt (b:Array UInt8) | flt (b:UInt64) | ref (a:Addr) | ty (n:String)
 deriving DecidableEq
noncomputable def RelV:V→Value→Prop
 | .non,u=>u=Value.none
 | .bl b,u=>u=Value.bool b
 | .int i,u=>∃ t,u=Value.int i t
 | .str x,u=>∃ t,u=Value.str x t
 | .byt b,u=>∃ t,u=Value.bytes b t
 | .flt b,u=>∃ t,u=Value.float b t
 | .ref a,u=>u=Value.ref a
 | .ty n,u=>u=Value.type n
abbrev Vals:List V→List Value→Prop:=Paired RelV
theorem Vals.length {xs:List V} {us:List Value} (r:Vals xs us):xs.length=us.length:=Paired.length r
theorem Vals.get:∀ {xs:List V} {us:List Value} {i:Nat} {x:V},Vals xs us→xs[i]?=some x→∃ u,us[i]?=some u∧RelV x u
 | _,_,_,_,.nil,e=>by simp at e
 | _,_,0,_,.cons r _,e=>by simp at e;subst e;exact ⟨_,rfl,r⟩
 | _,_,i + 1,x,.cons _ t,e=>by
  obtain ⟨u,h1,h2⟩:=Vals.get (i:=i) (x:=x) t (by simpa using e)
  exact ⟨u,by simpa using h1,h2⟩
theorem Vals.set {x:V} {u:Value} (r:RelV x u):∀ {xs:List V} {us:List Value} (i:Nat),Vals xs us→Vals (xs.set i x) (us.set i u)
 | _,_,_,.nil=>.nil
 | _,_,0,.cons _ t=>.cons r t
 | _,_,i + 1,.cons q t=>.cons q (Vals.set r i t)
theorem Vals.append:∀ {xs ys:List V} {us ws:List Value},Vals xs us→Vals ys ws→Vals (xs ++ ys) (us ++ ws)
 | _,_,_,_,.nil,s=>s
 | _,_,_,_,.cons r t,s=>.cons r (Vals.append t s)
theorem Vals.take:∀ {xs:List V} {us:List Value} (n:Nat),Vals xs us→Vals (xs.take n) (us.take n)
 | _,_,0,_=>.nil
 | _,_,_ + 1,.nil=>.nil
 | _,_,n + 1,.cons r t=>.cons r (Vals.take n t)
theorem Vals.drop:∀ {xs:List V} {us:List Value} (n:Nat),Vals xs us→Vals (xs.drop n) (us.drop n)
 | _,_,0,r=>r
 | _,_,_ + 1,.nil=>.nil
 | _,_,n + 1,.cons _ t=>Vals.drop n t
noncomputable def RelO:Option V→Option Value→Prop
 | some v,some u=>RelV v u
 | none,none=>True
 | _,_=>False
noncomputable def KV {κ:Type}:List (κ×V)→List (κ×Value)→Prop:=Paired fun (p:κ×V) (q:κ×Value)=>p.1=q.1∧RelV p.2 q.2
noncomputable def kV:Key→V
 | .inl i=>.int i
 | .inr x=>.str x
set_option genInjectivity false in
inductive HO where
 /-- a list -/
 | lst (xs:List V)
 /-- a tuple (never changes) -/
 | tup (xs:List V)
 /-- a dict whose keys are ints and texts;one whose keys are tuples of ints and texts (the empty one is both) -/
 | dK (kvs:List (Key×V)) | dT (kvs:List (List Key×V))
 /-- a set of ints: its members,its size -/
 | set (S:Int→Bool) (n:Nat)
 /-- an instance of the class at C,its dict at dx,its attributes -/
 | ins (C dx:Addr) (fs:List (Str×V))
 /-- the dict of the instance at x -/
 | own (x:Addr)
 /-- the dict of an exception -/
 | xd (fs:List (Str×V))
 /-- a bound method,f of x -/
 | met (f x:Addr)
 /-- a range object lo,lo + 1,.. below hi -/
 | rng (lo hi:Int)
 /-- a thing that is known to the object (the script;a dict while a loop walks it): read,never written while it is so -/
 | frz (o:Obj) (u:HO)
 /-- a code object's table -/
 | tbl (ps:Array Value)
 /-- any other thing,by what is true of its one object (a def of one's own: SetO a S n:=HO.ext fun h=>..) -/
 | ext (φ:Heap→Prop)
abbrev Hp:=Addr→Option HO
noncomputable def upd (H:Hp) (a:Addr) (o:HO):Hp:=fun b=>if b=a then some o else H b
theorem Xaj {H:Hp} {a:Addr} {o:HO}:upd H a o a=some o:=by unfold upd;rw [if_pos rfl]
theorem Zai {H:Hp} {a b:Addr} {o:HO} (h:b≠a):upd H a o b=H b:=by unfold upd;rw [if_neg h]
theorem yb0 {H:Hp} {a b:Addr} {o u:HO} (h:H a=some o) (h':H b=some u) (d:o≠u):a≠b:=by
 intro e;subst e;rw [h] at h';exact d (Option.some.inj h')
theorem xaC {H:Hp} {a b:Addr} {o:HO} (h:H a=some o) (h':H b=none):a≠b:=by
 intro e;subst e;rw [h] at h';cases h'
noncomputable def PTup (h:Heap) (a:Addr) (its:Array Value):Prop:=∃ o,h.get? a=some o∧o.cls=.type "tuple" ∧ o.dict=none∧∃ n,o.data=.seq its n
theorem PTup.tup {h:Heap} {a:Addr} {its:Array Value} (x:PTup h a its):IsTup h a its:=let ⟨o,e,c,_,n,d⟩:=x;⟨o,e,c,n,d⟩
theorem PTup.new (h:Heap) (its:Array Value):PTup (h.push { cls:=.type "tuple",data:=.seq its }) h.objs.size its:=⟨_,Heap.get?_push_size _ rfl,rfl,rfl,_,rfl⟩
section
variable (P:Program) (w:World)
noncomputable def ObjOk (H:Hp) (h:Heap) (a:Addr):HO→Prop
 | .lst xs=>xs.length≤sizeLine∧∃ (its:List Value) (n:Nat),Vals xs its∧h.get? a=some { cls:=.type "list",data:=.seq its.toArray n }
 | .tup xs=>xs.length≤sizeLine∧∃ its:List Value,Vals xs its∧PTup h a its.toArray
 | .dK kvs=>kvs.length≤sizeLine∧(a == sysModules)=false∧∃ vs,KV kvs vs∧h.DictOf (mixKind P w) a vs
 | .dT kvs=>kvs.length≤sizeLine∧(a == sysModules)=false∧∃ xs:List (List Key×Addr×Value),
   Paired (fun (p:List Key×V) (q:List Key×Addr×Value)=>p.1=q.1∧H q.2.1=some (.tup (p.1.map kV))∧RelV p.2 q.2.2) kvs xs ∧
   ∃ o es ep,h.get? a=some o∧o.ExactDict∧o.data=.dict es ep∧es.toList=xs.map (entryOfKey (tupleKind (mixKind P w)))∧(xs.map (·.1)).Nodup
 | .set S n=>h.SetOf (intKind P w) a S n
 | .ins C dx fs=>H dx=some (.own a)∧fs.length≤1000∧dx≠a∧h.get? a=some (PySem.W.instObj C dx) ∧
   ∃ mA,h.Ns1 dx mA∧(∀ f,RelO (fs.lookup f) (mA f))∧PySem.Within mA (fs.map (·.1))
 | .own _=>∃ o,h.get? a=some o
 | .xd fs=>∃ mA,h.Ns1 a mA∧∀ f,RelO (fs.lookup f) (mA f)
 | .rng lo hi=>∃ t u v,h.get? a=some { cls:=.type "range",data:=.fields #[.int lo t,.int hi u,.int 1 v] }
 | .frz o u=>h.get? a=some o∧ObjOk H h a u
 | .tbl ps=>h.get? a=some { cls:=.none,data:=.fields ps }
 | .met f x=>h.get? a=some (PySem.W.methodObj (.ref f) (.ref x))
 | .ext φ=>φ h∧(∃ o,h.get? a=some o)∧∀ h1 h2:Heap,φ h1→(∀ o,h1.get? a=some o→h2.get? a=some o)→φ h2
noncomputable def HOk (H:Hp) (h:Heap):Prop:=∀ a o,H a=some o→ObjOk P w H h a o
end
section
variable {P:Program} {w:World} {H H':Hp} {h h':Heap} {a:Addr} {o:HO}
theorem ObjOk.lt (x:ObjOk P w H h a o):a < h.objs.size:=by
 cases o with
 | lst xs=>obtain ⟨_,_,_,_,e⟩:=x;exact Heap.lt_size e
 | tup xs=>obtain ⟨_,_,_,_,e,_⟩:=x;exact Heap.lt_size e
 | dK kvs=>obtain ⟨_,_,_,_,o,_,_,e,_⟩:=x;exact Heap.lt_size e
 | dT kvs=>obtain ⟨_,_,_,_,o,_,_,e,_⟩:=x;exact Heap.lt_size e
 | set S n=>obtain ⟨o,_,_,_,e,_⟩:=x;exact Heap.lt_size e
 | ins C dx fs=>obtain ⟨_,_,_,e,_⟩:=x;exact Heap.lt_size e
 | own y=>obtain ⟨_,e⟩:=x;exact Heap.lt_size e
 | xd fs=>obtain ⟨_,⟨_,_,_,e,_⟩,_⟩:=x;exact Heap.lt_size e
 | rng lo hi=>obtain ⟨_,_,_,e⟩:=x;exact Heap.lt_size e
 | frz ob u=>obtain ⟨e,_⟩:=x;exact Heap.lt_size e
 | tbl ps=>exact Heap.lt_size (show h.get? a=some _ from x)
 | met f y=>exact Heap.lt_size (show h.get? a=some _ from x)
 | ext φ=>obtain ⟨_,⟨_,e⟩,_⟩:=x;exact Heap.lt_size e
theorem Paired.mapP {α β:Type} {F G:α→β→Prop}:∀ {l₁:List α} {l₂:List β},Paired F l₁ l₂→(∀ a b,F a b→G a b)→Paired G l₁ l₂
 | _,_,.nil,_=>.nil
 | _,_,.cons r t,f=>.cons (f _ _ r) (Paired.mapP t f)
theorem ObjOk.stay (x:ObjOk P w H h a o) (k:∀ b u,(b=a∨H b=some (.own a))→h.get? b=some u→h'.get? b=some u)
  (ho:∀ b,H b=some (.own a)→H' b=some (.own a)) (ht:∀ b xs,H b=some (.tup xs)→H' b=some (.tup xs)):ObjOk P w H' h' a o:=by
 induction o with
 | lst xs=>obtain ⟨z,its,n,r,e⟩:=x;exact ⟨z,its,n,r,k _ _ (.inl rfl) e⟩
 | tup xs=>obtain ⟨z,its,r,ob,e,c⟩:=x;exact ⟨z,its,r,ob,k _ _ (.inl rfl) e,c⟩
 | dK kvs=>obtain ⟨z,y,vs,r,ob,es,ep,e,c⟩:=x;exact ⟨z,y,vs,r,ob,es,ep,k _ _ (.inl rfl) e,c⟩
 | dT kvs =>
  obtain ⟨z,y,xs,r,ob,es,ep,e,c⟩:=x
  exact ⟨z,y,xs,Paired.mapP r fun p q z=>⟨z.1,ht _ _ z.2.1,z.2.2⟩,ob,es,ep,k _ _ (.inl rfl) e,c⟩
 | set S n=>obtain ⟨ob,es,ep,t,e,c⟩:=x;exact ⟨ob,es,ep,t,k _ _ (.inl rfl) e,c⟩
 | ins C dx fs =>
  obtain ⟨d,z,ne,e,mA,⟨od,es,ep,e2,c⟩,r⟩:=x
  exact ⟨ho _ d,z,ne,k _ _ (.inl rfl) e,mA,⟨od,es,ep,k _ _ (.inr d) e2,c⟩,r⟩
 | own y=>obtain ⟨ob,e⟩:=x;exact ⟨ob,k _ _ (.inl rfl) e⟩
 | xd fs=>obtain ⟨mA,⟨od,es,ep,e,c⟩,r⟩:=x;exact ⟨mA,⟨od,es,ep,k _ _ (.inl rfl) e,c⟩,r⟩
 | rng lo hi=>obtain ⟨t,u,v,e⟩:=x;exact ⟨t,u,v,k _ _ (.inl rfl) e⟩
 | frz ob u ih=>obtain ⟨e,q⟩:=x;exact ⟨k _ _ (.inl rfl) e,ih q⟩
 | tbl ps =>
  have e:h.get? a=some { cls:=.none,data:=.fields ps }:=x
  show h'.get? a=some { cls:=.none,data:=.fields ps }
  exact k a _ (.inl rfl) e
 | met f y =>
  have e:h.get? a=some (PySem.W.methodObj (.ref f) (.ref y)):=x
  show h'.get? a=some (PySem.W.methodObj (.ref f) (.ref y))
  exact k a _ (.inl rfl) e
 | ext φ=>obtain ⟨p,⟨o,e⟩,st⟩:=x;exact ⟨st _ _ p fun o q=>k _ _ (.inl rfl) q,⟨o,k _ _ (.inl rfl) e⟩,st⟩
theorem HOk.lt (x:HOk P w H h) (e:H a=some o):a < h.objs.size:=(x a o e).lt
theorem HOk.fresh (x:HOk P w H h) (e:h.objs.size≤a):H a=none:=by
 cases q:H a with
 | none=>rfl
 | some u=>exact absurd (Nat.lt_of_lt_of_le (x.lt q) e) (Nat.lt_irrefl _)
theorem HOk.kept (x:HOk P w H h) (k:∀ b u,h.get? b=some u→h'.get? b=some u):HOk P w H h':=fun a o e =>
 (x a o e).stay (fun b u _ q=>k b u q) (fun _ q=>q) fun _ _ q=>q
theorem HOk.laid (x:HOk P w H h) (k:∀ b u,h.get? b=some u→h'.get? b=some u) (hp:h.objs.size≤a) (new:ObjOk P w (upd H a o) h' a o):HOk P w (upd H a o) h':=fun b u e=>by
 have hn:=x.fresh hp
 by_cases hb:b=a
 ·subst hb;rw [Xaj] at e;cases e;exact new
 ·rw [Zai hb] at e
  exact (x b u e).stay (fun c v _ q=>k c v q) (fun c q=>by rw [Zai (xaC q hn)];exact q) fun c xs q=>by rw [Zai (xaC q hn)];exact q
end
noncomputable def Rd (H:Hp) (a:Addr) (u:HO):Prop:=H a=some u∨∃ o,H a=some (.frz o u)
theorem Rd.ok {P:Program} {w:World} {H:Hp} {h:Heap} {a:Addr} {u:HO} (r:Rd H a u) (x:HOk P w H h):ObjOk P w H h a u:=by
 rcases r with r | ⟨o,r⟩
 ·exact x a u r
 ·obtain ⟨_,q⟩:=x a _ r
  exact q
noncomputable def Mut:Option HO→Prop
 | some (.lst _)=>True
 | some (.dK _)=>True
 | some (.dT _)=>True
 | some (.set _ _)=>True
 | some (.ins _ _ _)=>True
 | some (.ext _)=>True
 | _=>False
section
variable {P:Program} {w:World} {H:Hp} {h h':Heap} {x e:Addr} {o':HO}
theorem HOk.write (ok:HOk P w H h) (mu:Mut (H x)) (he:e=x∨H e=some (.own x)) (k:∀ b u,b≠e→h.get? b=some u→h'.get? b=some u) (heo:∃ u,h'.get? e=some u)
  (new:ObjOk P w (upd H x o') h' x o'):HOk P w (upd H x o') h':=fun b u q=>by
 have nown:∀ c y,H c=some (.own y)→c≠x:=fun c y r z=>by subst z;rw [r] at mu;exact mu
 have ntup:∀ c xs,H c=some (.tup xs)→c≠x:=fun c xs r z=>by subst z;rw [r] at mu;exact mu
 by_cases hb:b=x
 ·subst hb;rw [Xaj] at q;cases q;exact new
 ·rw [Zai hb] at q
  by_cases hbe:b=e
  ·have q':H b=some (.own x):=by
    rcases he with z | z
    ·exact absurd (hbe.trans z) hb
    ·rw [hbe];exact z
   rw [q] at q';cases q'
   obtain ⟨v,hv⟩:=heo
   exact ⟨v,by rw [hbe];exact hv⟩
  ·refine (ok b u q).stay (fun c v hc r=>k c v ?_ r) (fun c r=>by rw [Zai (nown c b r)];exact r) fun c xs r=>by rw [Zai (ntup c xs r)];exact r
   rcases hc with rfl | hc
   ·exact hbe
   ·rintro rfl
    rcases he with z | z
    ·exact nown c b hc z
    ·rw [hc] at z;cases z;exact hb rfl
end
structure Un (fs ex:List Addr) (H H':Hp) (h h':Heap):Prop where
 keep:∀ b o,h.get? b=some o→H b=none→b ∉ fs→b ∉ ex→h'.get? b=some o
 slot:∀ b o,h.get? b=some o→H b=none→b∈fs→b ∉ ex→∃ sl,h'.get? b=some { o with slots:=sl }
 free:∀ b o,h.get? b=some o→H b=none→b ∉ ex→H' b=none
 there:∀ b o,h.get? b=some o→b ∉ ex→∃ o',h'.get? b=some o'
 tups:∀ b xs,H b=some (.tup xs)→H' b=some (.tup xs)
 frzs:∀ b o u,H b=some (.frz o u)→H' b=some (.frz o u)
 tbls:∀ b ps,H b=some (.tbl ps)→∃ more,H' b=some (.tbl (ps ++ more))
section
variable {fs fs' ex ex':List Addr} {H H1 H2:Hp} {h h1 h2 h':Heap} {a x e:Addr} {o:HO}
theorem Un.any (u:Un fs ex H H1 h h1) {b:Addr} {ob:Obj} (q:h.get? b=some ob) (n:H b=none) (hx:b ∉ ex):∃ sl,h1.get? b=some { ob with slots:=sl }:=by
 by_cases hb:b∈fs
 ·exact u.slot b ob q n hb hx
 ·exact ⟨ob.slots,u.keep b ob q n hb hx⟩
theorem Un.kept (k:∀ b u,h.get? b=some u→h'.get? b=some u):Un fs ex H H h h' :=
 ⟨fun b ob q _ _ _=>k b ob q,fun b ob q _ _ _=>⟨ob.slots,k b ob q⟩,fun _ _ _ n _=>n,fun b ob q _=>⟨ob,k b ob q⟩,fun _ _ q=>q,fun _ _ _ q=>q,fun _ ps q=>⟨#[],by rw [q];simp⟩⟩
theorem Un.refl:Un fs ex H H h h:=Un.kept fun _ _ q=>q
theorem Un.laid (k:∀ b u,h.get? b=some u→h'.get? b=some u) (hp:h.objs.size≤a) (hn:H a=none):Un fs ex H (upd H a o) h h' where
 keep:=fun b u q _ _ _=>k b u q
 slot:=fun b u q _ _ _=>⟨u.slots,k b u q⟩
 free:=fun b u q n _=>by rw [Zai (Nat.ne_of_lt (Nat.lt_of_lt_of_le (Heap.lt_size q) hp))];exact n
 there:=fun b u q _=>⟨u,k b u q⟩
 tups:=fun b xs q=>by rw [Zai (xaC q hn)];exact q
 frzs:=fun b u xs q=>by rw [Zai (xaC q hn)];exact q
 tbls:=fun b ps q=>⟨#[],by rw [Zai (xaC q hn),q];simp⟩
theorem Un.write (mu:Mut (H x)) (he:e=x∨H e=some (.own x)) (k:∀ b u,b≠e→h.get? b=some u→h'.get? b=some u) (heo:∃ u,h'.get? e=some u):Un fs ex H (upd H x o) h h':=by
 have hx:∀ b,H b=none→b≠x:=fun b n z=>by subst z;rw [n] at mu;exact mu
 have hb:∀ b,H b=none→b≠e:=fun b n z=>by
  subst z
  rcases he with r | r
  ·exact hx b n r
  ·rw [n] at r;cases r
 have hm:∀ b u,H b=some u→¬ Mut (some u)→b≠x:=fun b u q nm z=>by subst z;rw [q] at mu;exact nm mu
 refine ⟨fun b u q n _ _=>k b u (hb b n) q,fun b u q n _ _=>⟨u.slots,k b u (hb b n) q⟩,fun b u q n _=>by rw [Zai (hx b n)];exact n,fun b u q _=>?_,
  fun b xs q=>by rw [Zai (hm b _ q fun z=>z)];exact q,fun b u xs q=>by rw [Zai (hm b _ q fun z=>z)];exact q,fun b ps q=>⟨#[],by rw [Zai (hm b _ q fun z=>z),q];simp⟩⟩
 by_cases hbe:b=e
 ·subst hbe;exact heo
 ·exact ⟨u,k b u hbe q⟩
end
noncomputable def trk (h:Heap) (H:Hp):List Addr:=(List.range h.objs.size).filter fun a=>(H a).isSome
noncomputable def hidT (h:Heap) (H:Hp):Heap:=PySem.W.hideAll h (trk h H)
theorem xbw (h:Heap) (H:Hp):(hidT h H).objs.size=h.objs.size:=PySem.W.hideAll_size _ _
theorem YbM {h:Heap} {H:Hp} {b:Addr} {o:Obj} (e:h.get? b=some o) (n:H b=none):(hidT h H).get? b=some o :=
 PySem.W.hideAll_get _ e fun hm=>by
  have q:(H b).isSome=true:=(List.mem_filter.mp hm).2
  rw [n] at q;simp at q
theorem Zb0 {h:Heap} {H:Hp} {b:Addr} {o:Obj} (e:(hidT h H).get? b=some o):h.get? b=some o∧H b=none:=by
 have e':h.get? b=some o:=PySem.W.of_hideAll (trk h H) e
 refine ⟨e',?_⟩
 cases q:H b with
 | none=>rfl
 | some x =>
  have hm:b∈trk h H:=List.mem_filter.mpr ⟨List.mem_range.mpr (Heap.lt_size e'),by simp [q]⟩
  have z:(hidT h H).get? b=none:=PySem.W.hideAll_none (trk h H) hm
  rw [z] at e;cases e
noncomputable def allNews (g h:Heap) (L:Addr):List (Addr×Obj):=(List.range h.objs.size).filterMap fun a=>if a=L∨(g.get? a).isSome=true then none else (h.get? a).map fun o=>(a,o)
noncomputable def rest (g h:Heap) (L d:Addr):List (Addr×Obj):=(allNews g h L).filter fun p=>decide (p.1≠d)
end L2
namespace L2
open PySem PySem.Spec PyProof.Rows
structure Mod (K:PySem.W.Frag) (mg:Str→Option Value) (base:Heap):Prop where
 kin:K.In base
 glob:base.Ns mainGlobals mg
 blt:∃ mb,base.Ns builtinsNs mb∧∀ x:Str,x≠"__name__" → mb x=bootBuiltins x
 nolimit:base.NoLimit
set_option genInjectivity false in
structure Cx where
 prog:Program
 w:World
 K:PySem.W.Frag
 mg:Str→Option Value
 base:Heap
 A:Around
 N:List Str
 s₀:Shared
 H₀:Hp
 env:Env
 outer:List Env
 stack:List Env
 ex:List Addr
 fn:Str→Bool
 calm:Bool
 pn:List (Addr×Obj)
 xe:Value→Shared→Prop
noncomputable def frs (l:List Env):List Addr:=l.filterMap (·.frame)
abbrev Cx.fs (X:Cx):List Addr:=frs X.outer
noncomputable def Vis (sc:Scope) (x:Str):Prop:=sc.names.lookup x=some .local∨sc.names.lookup x=some .cell∨sc.names.lookup x=some .free
noncomputable def Loc (sc:Scope) (x:Str):Prop:=sc.names.lookup x=some .local∨sc.names.lookup x=some .cell
noncomputable def Look (env:Env) (h:Heap) (m:Str→Option Value) (x:Str) (u:Value):Prop :=
 (env.kindOf x=some .local∧m x=some u)∨((env.kindOf x=some .cell∨env.kindOf x=some .free)∧∃ c,env.cells.lookup x=some c∧h.IsCell c (some u))
structure Cx.Ok (X:Cx):Prop where
 mod:Mod X.K X.mg X.base
 kind:X.env.scope.kind=.function
 glob:X.env.globals=mainGlobals
 blt:X.env.builtins=builtinsNs
 above:X.s₀.heap.objs.size≤X.env.locals
 inj:∀ x y c,X.env.cells.lookup x=some c→X.env.cells.lookup y=some c→x=y
 has:∀ x,(X.env.kindOf x=some .cell∨X.env.kindOf x=some .free)→∃ c,X.env.cells.lookup x=some c
 cab:∀ x c,X.fn x=true→X.env.cells.lookup x=some c→X.s₀.heap.objs.size≤c
 hd:X.calm=true→X.A.handled=none
 frames:X.A.frames=some X.stack
 stk:X.stack=X.outer∨(X.stack=X.env :: X.outer∧X.env.frame=some X.env.locals)
 exf:∀ b∈X.ex,b≠X.env.locals∧∀ x c,X.env.cells.lookup x=some c→c≠b
 bs:∀ b o,X.base.get? b=some o→X.s₀.heap.get? b=some o∧X.H₀ b=none
 bsz:X.base.objs.size≤X.s₀.heap.objs.size
 noex:∀ b o,X.base.get? b=some o→b ∉ X.ex
 exfs:∀ b∈X.ex,b ∉ X.fs
 funs:X.s₀.heap.FunFrames X.base X.outer
 frf:∀ b∈X.fs,X.H₀ b=none
structure Inv (X:Cx) (pins:List (Addr×Obj)) (σ:List (Option V)) (H:Hp) (s:Shared):Prop where
 ok:X.Ok
 os:s.os=X.s₀.os
 bare:AllBare s.gens
 base:Un X.fs X.ex X.H₀ H X.s₀.heap s.heap
 loc:∃ m,s.heap.Ns X.env.locals m∧∀ (i:Nat) (x:Str) (v:V),X.N[i]?=some x→σ[i]?=some (some v)→Vis X.env.scope x→∃ u,RelV v u∧Look X.env s.heap m x u
 cell:∀ x c,X.env.cells.lookup x=some c→∃ v,s.heap.IsCell c v
 free:H X.env.locals=none
 freeC:∀ x c,X.env.cells.lookup x=some c→H c=none
 pin:∀ p∈X.pn ++ pins,s.heap.get? p.1=some p.2∧H p.1=none∧p.1≠X.env.locals∧p.1 ∉ X.fs∧∀ v,p.2.data≠.cell v
 hok:HOk X.prog X.w H s.heap
 len:σ.length=X.N.length
section
variable {X:Cx} {pins:List (Addr×Obj)} {σ:List (Option V)} {H H':Hp} {s:Shared} {h':Heap}
theorem Cx.Ok.nofr (ok:X.Ok) {b:Addr} {o:Obj} (e:X.base.get? b=some o):b ∉ X.fs:=fun hb=>by
 have:=(ok.funs.mem hb).1
 rw [e] at this;cases this
theorem Inv.bs (I:Inv X pins σ H s):∀ b o,X.base.get? b=some o→s.heap.get? b=some o∧H b=none:=fun b o e =>
 ⟨I.base.keep b o (I.ok.bs b o e).1 (I.ok.bs b o e).2 (I.ok.nofr e) (I.ok.noex b o e),I.base.free b o (I.ok.bs b o e).1 (I.ok.bs b o e).2 (I.ok.noex b o e)⟩
theorem Inv.bk (I:Inv X pins σ H s):∀ b o,X.base.get? b=some o→s.heap.get? b=some o:=fun b o e=>(I.bs b o e).1
theorem Inv.mod (I:Inv X pins σ H s):Mod X.K X.mg X.base:=I.ok.mod
theorem Inv.kIn (I:Inv X pins σ H s):X.K.In s.heap:=I.ok.mod.kin.keeps I.bk
theorem Inv.lt (I:Inv X pins σ H s):X.env.locals < s.heap.objs.size:=let ⟨_,hn,_⟩:=I.loc;hn.lt
theorem Inv.sz (I:Inv X pins σ H s):X.s₀.heap.objs.size≤s.heap.objs.size:=Nat.le_trans I.ok.above (Nat.le_of_lt I.lt)
theorem Inv.nofs (I:Inv X pins σ H s) {a:Addr} (h:s.heap.objs.size≤a):a ∉ X.fs:=fun hb=>by
 obtain ⟨_,o,ho,_⟩:=I.ok.funs.mem hb
 exact absurd (Nat.lt_of_lt_of_le (Heap.lt_size ho) (Nat.le_trans I.sz h)) (Nat.lt_irrefl _)
theorem Inv.cne (I:Inv X pins σ H s):∀ x c,X.env.cells.lookup x=some c→c≠X.env.locals:=fun x c e z=>by
 obtain ⟨v,o,ho,hd⟩:=I.cell x c e
 obtain ⟨m,⟨o',es,ep,ho',hd',_⟩,_⟩:=I.loc
 rw [z,ho'] at ho;cases ho;rw [hd'] at hd;cases hd
theorem Inv.funs (I:Inv X pins σ H s):s.heap.FunFrames X.base X.outer:=by
 have all:∀ (l:List Env),(∀ b∈frs l,b∈X.fs)→X.s₀.heap.FunFrames X.base l→s.heap.FunFrames X.base l:=by
  intro l
  induction l with
  | nil=>intro _ _;trivial
  | cons env r ih =>
   intro hs hl
   obtain ⟨hk,⟨L,o,hf,hn,ho,hd⟩,hr⟩:=hl
   have hL:L∈X.fs:=hs L (by unfold frs;rw [List.filterMap_cons,hf];exact List.mem_cons_self)
   obtain ⟨sl,e⟩:=I.base.slot L o ho (I.ok.frf L hL) hL fun z=>I.ok.exfs L z hL
   exact ⟨hk,⟨L,_,hf,hn,e,hd⟩,ih (fun b hb=>hs b (by unfold frs;rw [List.filterMap_cons,hf];exact List.mem_cons_of_mem _ hb)) hr⟩
 exact all X.outer (fun _ hb=>hb) I.ok.funs
theorem Inv.stack (I:Inv X pins σ H s):s.heap.FunFrames X.base X.stack:=by
 rcases I.ok.stk with e | ⟨e,hf⟩
 ·rw [e];exact I.funs
 ·rw [e]
  obtain ⟨m,hn,_⟩:=I.loc
  refine .cons (by rw [I.ok.kind];decide) hf hn ?_ I.funs
  exact Heap.get?_none_of_le (Nat.le_trans I.ok.bsz I.ok.above)
theorem Inv.stkSub (I:Inv X pins σ H s):∀ b∈frs X.stack,b∈X.env.locals :: X.fs:=fun b hb=>by
 rcases I.ok.stk with e | ⟨e,hf⟩
 ·rw [e] at hb;exact List.mem_cons_of_mem _ hb
 ·rw [e] at hb
  unfold frs at hb
  rw [List.filterMap_cons,hf] at hb
  exact hb
theorem Inv.stkFree (I:Inv X pins σ H s):∀ b∈frs X.stack,H b=none:=fun b hb=>by
 rcases List.mem_cons.mp (I.stkSub b hb) with e | hb
 ·rw [e];exact I.free
 ·obtain ⟨_,o,ho,_⟩:=I.ok.funs.mem hb
  exact I.base.free b o ho (I.ok.frf b hb) fun z=>I.ok.exfs b z hb
theorem Inv.step {g':Array GenState} {t':Nat} {d':Drawn} {ch:List Addr} (I:Inv X pins σ H s)
  (hch:∀ b∈ch,(b∈X.ex∨X.s₀.heap.objs.size≤b)∧b≠X.env.locals∧(∀ x c,X.env.cells.lookup x=some c→c≠b)∧∀ p∈X.pn ++ pins,p.1≠b)
  (keep:∀ b o,b≠X.env.locals→b ∉ X.fs→b ∉ ch→s.heap.get? b=some o→H b=none→h'.get? b=some o)
  (slot:∀ b o,b≠X.env.locals→b∈X.fs→b ∉ ch→s.heap.get? b=some o→H b=none→∃ sl,h'.get? b=some { o with slots:=sl }) (free:∀ b o,b ∉ ch→s.heap.get? b=some o→H b=none→H' b=none)
  (there:∀ b o,b ∉ ch→s.heap.get? b=some o→∃ o',h'.get? b=some o')
  (tups:∀ b xs,H b=some (.tup xs)→H' b=some (.tup xs)) (frzs:∀ b o u,H b=some (.frz o u)→H' b=some (.frz o u)) (tbls:∀ b ps,H b=some (.tbl ps)→∃ more,H' b=some (.tbl (ps ++ more)))
  (ns:∀ m,s.heap.Ns X.env.locals m→h'.Ns X.env.locals m) (hok:HOk X.prog X.w H' h') (hg:AllBare g') :
  Inv X pins σ H' { s with heap:=h',gens:=g',drawn:=d',toks:=t' }:=by
 have neL:∀ b o,X.s₀.heap.get? b=some o→b≠X.env.locals:=fun b o e=>Nat.ne_of_lt (Nat.lt_of_lt_of_le (Heap.lt_size e) I.ok.above)
 have neC:∀ b o,X.s₀.heap.get? b=some o→b ∉ X.ex→b ∉ ch:=fun b o e hx hb=>by
  rcases (hch b hb).1 with z | z
  ·exact hx z
  ·exact absurd (Nat.lt_of_lt_of_le (Heap.lt_size e) z) (Nat.lt_irrefl _)
 have cellK:∀ x c,X.env.cells.lookup x=some c→∀ v,s.heap.IsCell c v→h'.IsCell c v:=fun x c e v ⟨o,ho,hd⟩=>by
  have nch:c ∉ ch:=fun z=>(hch c z).2.2.1 x c e rfl
  by_cases hc:c∈X.fs
  ·obtain ⟨sl,q⟩:=slot c o (I.cne x c e) hc nch ho (I.freeC x c e)
   exact ⟨_,q,hd⟩
  ·exact ⟨o,keep c o (I.cne x c e) hc nch ho (I.freeC x c e),hd⟩
 refine ⟨I.ok,I.os,hg,⟨fun b o e n hb hx=>?_,fun b o e n hb hx=>?_,fun b o e n hx=>?_,fun b o e hx=>?_,fun b xs e=>tups b xs (I.base.tups b xs e),fun b o xs e=>frzs b o xs (I.base.frzs b o xs e),fun b ps e=>?_⟩,?_,fun x c e=>?_,?_,fun x c e=>?_,fun p hp=>?_,hok,I.len⟩
 ·exact keep b o (neL b o e) hb (neC b o e hx) (I.base.keep b o e n hb hx) (I.base.free b o e n hx)
 ·obtain ⟨sl,e1⟩:=I.base.slot b o e n hb hx
  obtain ⟨sl',e2⟩:=slot b _ (neL b o e) hb (neC b o e hx) e1 (I.base.free b o e n hx)
  exact ⟨sl',e2⟩
 ·obtain ⟨o',e1⟩:=I.base.there b o e hx
  exact free b o' (neC b o e hx) e1 (I.base.free b o e n hx)
 ·obtain ⟨o',e1⟩:=I.base.there b o e hx
  exact there b o' (neC b o e hx) e1
 ·obtain ⟨m1,e1⟩:=I.base.tbls b ps e
  obtain ⟨m2,e2⟩:=tbls b _ e1
  exact ⟨m1 ++ m2,by rw [e2,Array.append_assoc]⟩
 ·obtain ⟨m,hn,hl⟩:=I.loc
  refine ⟨m,ns m hn,fun i x v e1 e2 e3=>?_⟩
  obtain ⟨u,r,l⟩:=hl i x v e1 e2 e3
  refine ⟨u,r,?_⟩
  rcases l with l | ⟨k,c,e,z⟩
  ·exact .inl l
  ·exact .inr ⟨k,c,e,cellK x c e _ z⟩
 ·obtain ⟨v,z⟩:=I.cell x c e
  exact ⟨v,cellK x c e v z⟩
 ·obtain ⟨m,⟨o,_,_,ho,_⟩,_⟩:=I.loc
  exact free _ o (fun z=>(hch _ z).2.1 rfl) ho I.free
 ·obtain ⟨v,o,ho,hd⟩:=I.cell x c e
  exact free c o (fun z=>(hch c z).2.2.1 x c e rfl) ho (I.freeC x c e)
 ·obtain ⟨e,n,ne,nf,d⟩:=I.pin p hp
  have nch:p.1 ∉ ch:=fun z=>(hch p.1 z).2.2.2 p hp rfl
  exact ⟨keep p.1 p.2 ne nf nch e n,free p.1 p.2 nch e n,ne,nf,d⟩
theorem Inv.un {t':Nat} (I:Inv X pins σ H s) (u:Un X.fs [] H H' s.heap h') (hok:HOk X.prog X.w H' h'):Inv X pins σ H' { s with heap:=h',toks:=t' }:=by
 obtain ⟨m,⟨o,es,ep,ho,r⟩,_⟩:=id I.loc
 obtain ⟨sl,hL⟩:=u.any ho I.free (by simp)
 exact I.step (g':=s.gens) (d':=s.drawn) (ch:=[]) (fun _ z=>nomatch z) (fun b o _ hb _ e n=>u.keep b o e n hb (by simp)) (fun b o _ hb _ e n=>u.slot b o e n hb (by simp)) (fun b o _ e n=>u.free b o e n (by simp)) (fun b o _ e=>u.there b o e (by simp)) u.tups u.frzs u.tbls (fun m' hm=>by
  obtain ⟨o',es',ep',ho',r'⟩:=hm
  rw [ho] at ho';cases ho'
  exact ⟨_,es',ep',hL,r'⟩) hok I.bare
theorem Inv.call {g':Array GenState} {t':Nat} {d':Drawn} {ch:List Addr} (I:Inv X pins σ H s) (u:Un (frs X.stack) ch H H' s.heap h') (hok:HOk X.prog X.w H' h') (hg:AllBare g')
  (hch:∀ b∈ch,(b∈X.ex∨X.s₀.heap.objs.size≤b)∧b≠X.env.locals∧(∀ x c,X.env.cells.lookup x=some c→c≠b)∧∀ p∈X.pn ++ pins,p.1≠b) :
  Inv X pins σ H' { s with heap:=h',gens:=g',drawn:=d',toks:=t' }:=by
 obtain ⟨m,⟨o,es,ep,ho,r⟩,_⟩:=id I.loc
 obtain ⟨sl,hL⟩:=u.any ho I.free fun z=>(hch _ z).2.1 rfl
 exact I.step (ch:=ch) hch (fun b o hL hb hc e n=>u.keep b o e n (fun z=>(List.mem_cons.mp (I.stkSub b z)).elim hL hb) hc) (fun b o _ _ hc e n=>u.any e n hc) (fun b o hc e n=>u.free b o e n hc) (fun b o hc e=>u.there b o e hc) u.tups u.frzs u.tbls (fun m' hm=>by
  obtain ⟨o',es',ep',ho',r'⟩:=hm
  rw [ho] at ho';cases ho'
  exact ⟨_,es',ep',hL,r'⟩) hok hg
theorem Inv.turned {t':Nat} {it:Addr} (I:Inv X pins σ H s) (k:∀ b o,b≠it→s.heap.get? b=some o→h'.get? b=some o) (hn:H it=none) (hL:it≠X.env.locals)
  (h1:it∈X.ex∨X.s₀.heap.objs.size≤it) (h2:∀ x c,X.env.cells.lookup x=some c→c≠it) (h3:∀ p∈X.pn ++ pins,p.1≠it):Inv X pins σ H { s with heap:=h',toks:=t' }:=by
 have nit:∀ b u,H b=some u→b≠it:=fun b u e z=>by rw [z,hn] at e;cases e
 refine I.step (g':=s.gens) (d':=s.drawn) (ch:=[it]) (fun b hb=>?_) (fun b o _ _ hc e _=>k b o (fun z=>hc (by simp [z])) e) (fun b o _ _ hc e _=>⟨o.slots,k b o (fun z=>hc (by simp [z])) e⟩) (fun _ _ _ _ n=>n)
  (fun b o hc e=>⟨o,k b o (fun z=>hc (by simp [z])) e⟩) (fun _ _ e=>e) (fun _ _ _ e=>e) (fun b ps e=>⟨#[],by rw [e];simp⟩) (fun m hm=>?_) (fun b u e=>?_) I.bare
 ·have e:b=it:=by simpa using hb
  subst e
  exact ⟨h1,hL,h2,h3⟩
 ·obtain ⟨o,es,ep,ho,r⟩:=hm
  exact ⟨o,es,ep,k _ o (Ne.symm hL) ho,r⟩
 ·refine (I.hok b u e).stay (fun c v hc q=>k c v ?_ q) (fun _ q=>q) fun _ _ q=>q
  rcases hc with z | z
  ·rw [z];exact nit b u e
  ·exact nit c _ z
theorem Inv.tok (I:Inv X pins σ H s) (t:Nat):Inv X pins σ H { s with toks:=t }:=I.un (h':=s.heap) (t':=t) Un.refl I.hok
theorem Inv.kept {t':Nat} (I:Inv X pins σ H s) (k:∀ b u,s.heap.get? b=some u→h'.get? b=some u):Inv X pins σ H { s with heap:=h',toks:=t' }:=I.un (Un.kept k) (I.hok.kept k)
theorem Inv.laid {a:Addr} {o:HO} {t':Nat} (I:Inv X pins σ H s) (k:∀ b u,s.heap.get? b=some u→h'.get? b=some u) (hp:s.heap.objs.size≤a) (new:ObjOk X.prog X.w (upd H a o) h' a o) :
  Inv X pins σ (upd H a o) { s with heap:=h',toks:=t' }:=I.un (Un.laid k hp (I.hok.fresh hp)) (I.hok.laid k hp new)
theorem Inv.write {x e:Addr} {o:HO} {t':Nat} (I:Inv X pins σ H s) (mu:Mut (H x)) (he:e=x∨H e=some (.own x)) (k:∀ b u,b≠e→s.heap.get? b=some u→h'.get? b=some u) (heo:∃ u,h'.get? e=some u)
  (new:ObjOk X.prog X.w (upd H x o) h' x o):Inv X pins σ (upd H x o) { s with heap:=h',toks:=t' }:=I.un (Un.write mu he k heo) (I.hok.write mu he k heo new)
theorem Inv.pins_of {pins':List (Addr×Obj)} (I:Inv X pins σ H s) (h:∀ p∈pins',s.heap.get? p.1=some p.2∧H p.1=none∧p.1≠X.env.locals∧p.1 ∉ X.fs∧∀ v,p.2.data≠.cell v):Inv X pins' σ H s :=
 ⟨I.ok,I.os,I.bare,I.base,I.loc,I.cell,I.free,I.freeC,fun p hp=>(List.mem_append.mp hp).elim (fun z=>I.pin p (List.mem_append_left _ z)) (h p),I.hok,I.len⟩
theorem Xbl {N:List Str} (hN:N.Nodup) {i j:Nat} {x:Str} (a:N[i]?=some x) (b:N[j]?=some x):i=j:=by
 obtain ⟨h1,e1⟩:=List.getElem?_eq_some_iff.mp a
 obtain ⟨h2,e2⟩:=List.getElem?_eq_some_iff.mp b
 exact (List.getElem_inj hN).mp (e1.trans e2.symm)
theorem zbc {M:Model} {A:Around} {E:Value→Shared→Prop} {i:Nat} {x:Str} {v:V} {u:Value} {Q:Unit→Shared→Prop} (I:Inv X pins σ H s) (hN:X.N.Nodup) (hi:X.N[i]?=some x) (hx:Loc X.env.scope x) (r:RelV v u)
  (h:∀ s',Inv X pins (σ.set i (some v)) H s'→(∃ a,Heap.SameBut a s.heap s'.heap∧(a=X.env.locals∨X.env.cells.lookup x=some a))→Q () s') (hf:X.fn x=true∨X.env.scope.names.lookup x=some .local:=by first | exact .inl rfl | exact .inr rfl | assumption):wpAny M A (storeName X.env x u) Q E s:=by
 obtain ⟨m,hn,hl⟩:=id I.loc
 have hcls:(X.env.scope.kind == .class || (X.env.scope.kind == .module && X.env.locals != X.env.globals))=false:=by rw [I.ok.kind];rfl
 have hiσ:i < σ.length:=by rw [I.len];exact (List.getElem?_eq_some_iff.mp hi).1
 have cne:=I.cne
 have tracked:∀ {a:Addr} {h':Heap},(∃ o,s.heap.get? a=some o∧H a=none)→Heap.SameBut a s.heap h'→HOk X.prog X.w H h':=fun {a h'} ha hs b ob e=>by
  obtain ⟨_,_,hfree⟩:=ha
  refine (I.hok b ob e).stay (fun c w' hc q=>(hs.2 c ?_).trans q) (fun _ q=>q) fun _ _ q=>q
  rintro rfl
  rcases hc with rfl | hc
  ·rw [hfree] at e;cases e
  ·rw [hfree] at hc;cases hc
 rcases hx with hk | hk
 ·refine wpAny_storeName_local hk hn (fun h' hn' hs=>?_) hcls
  obtain ⟨oL,_,_,hoL,_⟩:=id hn
  refine h _ ⟨I.ok,I.os,I.bare,⟨fun b o e n hb hx=>?_,fun b o e n hb hx=>?_,I.base.free,fun b o e hx=>?_,I.base.tups,I.base.frzs,I.base.tbls⟩,⟨_,hn',fun j y v' e1 e2 e3=>?_⟩,fun y c e=>?_,I.free,I.freeC,fun p hp=>?_,tracked ⟨oL,hoL,I.free⟩ hs,by simpa using I.len⟩ ⟨_,hs,.inl rfl⟩
  ·exact (hs.2 b (Nat.ne_of_lt (Nat.lt_of_lt_of_le (Heap.lt_size e) I.ok.above))).trans (I.base.keep b o e n hb hx)
  ·obtain ⟨sl,e1⟩:=I.base.slot b o e n hb hx
   exact ⟨sl,(hs.2 b (Nat.ne_of_lt (Nat.lt_of_lt_of_le (Heap.lt_size e) I.ok.above))).trans e1⟩
  ·obtain ⟨o',e1⟩:=I.base.there b o e hx
   exact ⟨o',(hs.2 b (Nat.ne_of_lt (Nat.lt_of_lt_of_le (Heap.lt_size e) I.ok.above))).trans e1⟩
  ·by_cases hj:j=i
   ·subst hj
    rw [hi] at e1;cases e1
    rw [List.getElem?_set_self hiσ] at e2
    cases e2
    exact ⟨u,r,.inl ⟨hk,by simp⟩⟩
   ·rw [List.getElem?_set_ne (Ne.symm hj)] at e2
    obtain ⟨u',r',q⟩:=hl j y v' e1 e2 e3
    refine ⟨u',r',?_⟩
    rcases q with ⟨k,e⟩ | ⟨k,c,e,z⟩
    ·refine .inl ⟨k,?_⟩
     have:y≠x:=fun e=>hj (Xbl hN e1 (e ▸ hi))
     simp [this,e]
    ·exact .inr ⟨k,c,e,z.sameBut hs (cne y c e)⟩
  ·obtain ⟨w',z⟩:=I.cell y c e
   exact ⟨w',z.sameBut hs (cne y c e)⟩
  ·obtain ⟨e,n,ne,nf,d⟩:=I.pin p hp
   exact ⟨(hs.2 p.1 ne).trans e,n,ne,nf,d⟩
 ·have hfn:X.fn x=true:=by
   rcases hf with z | z
   ·exact z
   ·rw [z] at hk;cases hk
  obtain ⟨c,hc⟩:=I.ok.has x (.inl hk)
  obtain ⟨w',z⟩:=I.cell x c hc
  refine wpAny_storeName_cell I.ok.kind hk hc z (fun h' hc' hs=>?_)
  obtain ⟨oc,hoc,hocd⟩:=id z
  refine h { s with heap:=h' } ⟨I.ok,I.os,I.bare,⟨fun b o e n hb hx=>?_,fun b o e n hb hx=>?_,I.base.free,fun b o e hx=>?_,I.base.tups,I.base.frzs,I.base.tbls⟩,⟨m,hn.sameBut hs (Ne.symm (cne x c hc)),fun j y v' e1 e2 e3=>?_⟩,fun y c' e=>?_,I.free,I.freeC,fun p hp=>?_,tracked ⟨oc,hoc,I.freeC x c hc⟩ hs,by simpa using I.len⟩ ⟨c,hs,.inr hc⟩
  ·exact (hs.2 b (Nat.ne_of_lt (Nat.lt_of_lt_of_le (Heap.lt_size e) (I.ok.cab x c hfn hc)))).trans (I.base.keep b o e n hb hx)
  ·obtain ⟨sl,e1⟩:=I.base.slot b o e n hb hx
   exact ⟨sl,(hs.2 b (Nat.ne_of_lt (Nat.lt_of_lt_of_le (Heap.lt_size e) (I.ok.cab x c hfn hc)))).trans e1⟩
  ·obtain ⟨o',e1⟩:=I.base.there b o e hx
   exact ⟨o',(hs.2 b (Nat.ne_of_lt (Nat.lt_of_lt_of_le (Heap.lt_size e) (I.ok.cab x c hfn hc)))).trans e1⟩
  ·by_cases hj:j=i
   ·subst hj
    rw [hi] at e1;cases e1
    rw [List.getElem?_set_self hiσ] at e2
    cases e2
    exact ⟨u,r,.inr ⟨.inl hk,c,hc,hc'⟩⟩
   ·rw [List.getElem?_set_ne (Ne.symm hj)] at e2
    obtain ⟨u',r',q⟩:=hl j y v' e1 e2 e3
    refine ⟨u',r',?_⟩
    rcases q with q | ⟨k,c',e,z'⟩
    ·exact .inl q
    ·refine .inr ⟨k,c',e,z'.sameBut hs ?_⟩
     rintro rfl
     exact hj (Xbl hN e1 (I.ok.inj _ _ _ e hc ▸ hi))
  ·by_cases hcc:c'=c
   ·subst hcc;exact ⟨_,hc'⟩
   ·obtain ⟨w2,z2⟩:=I.cell y c' e
    exact ⟨w2,z2.sameBut hs hcc⟩
  ·obtain ⟨e,n,ne,nf,d⟩:=I.pin p hp
   refine ⟨(hs.2 p.1 ?_).trans e,n,ne,nf,d⟩
   intro q
   rw [q,hoc] at e
   have q':oc=p.2:=Option.some.inj e
   exact d w' (by rw [← q'];exact hocd)
theorem zaX {M:Model} {A:Around} {E:Value→Shared→Prop} {i:Nat} {x:Str} {v:V} {u:Value} {Q:Unit→Shared→Prop} (I:Inv X pins σ H s) (hN:X.N.Nodup) (hi:X.N[i]?=some x) (hx:Loc X.env.scope x) (r:RelV v u)
  (h:∀ s',Inv X pins (σ.set i (some v)) H s'→Q () s') (hf:X.fn x=true∨X.env.scope.names.lookup x=some .local:=by first | exact .inl rfl | exact .inr rfl | assumption):wpAny M A (storeName X.env x u) Q E s :=
 zbc I hN hi hx r (fun s' I' _=>h s' I') hf
theorem Inv.call' {s':Shared} {ch:List Addr} (I:Inv X pins σ H s) (ho:s'.os=s.os) (u:Un (frs X.stack) ch H H' s.heap s'.heap) (hok:HOk X.prog X.w H' s'.heap) (hg:AllBare s'.gens)
  (hch:∀ b∈ch,(b∈X.ex∨X.s₀.heap.objs.size≤b)∧b≠X.env.locals∧(∀ x c,X.env.cells.lookup x=some c→c≠b)∧∀ p∈X.pn ++ pins,p.1≠b):Inv X pins σ H' s':=by
 obtain ⟨h',g',d',t',o'⟩:=s'
 have e:o'=s.os:=ho
 subst e
 exact I.call (g':=g') (t':=t') (d':=d') u hok hg hch
end
abbrev XK:=Value→Option Addr→Hp→Prop
abbrev St:=List (Option V)
abbrev VK:=V→Hp→Prop
abbrev TE:=St→Hp→VK→Prop
abbrev TT:=St→Hp→(Bool→Hp→Prop)→Prop
abbrev TA:=St→Hp→(List V→Hp→Prop)→Prop
set_option genInjectivity false in
structure Ends where
 nx:St→Hp→Prop
 rt:VK
 bk:St→Hp→Prop:=fun _ _=>False
 ct:St→Hp→Prop:=fun _ _=>False
abbrev TS:=Ends→St→Hp→Prop
noncomputable def EP (X:Cx) (pins:List (Addr×Obj)) (σ:St) (Q:VK) (u:Value) (s':Shared):Prop:=∃ v H',Inv X pins σ H' s'∧RelV v u∧Q v H'
noncomputable def TP (X:Cx) (pins:List (Addr×Obj)) (σ:St) (Q:Bool→Hp→Prop) (b:Bool) (s':Shared):Prop:=∃ H',Inv X pins σ H' s'∧Q b H'
noncomputable def AP (X:Cx) (pins:List (Addr×Obj)) (σ:St) (Q:List V→Hp→Prop) (us:List Value) (s':Shared):Prop:=∃ vs H',Inv X pins σ H' s'∧Vals vs us∧Q vs H'
noncomputable def SP (X:Cx) (pins:List (Addr×Obj)) (D:Ends) (f:Flow) (s':Shared):Prop :=
 match f with
 | .next=>∃ σ' H',Inv X pins σ' H' s'∧D.nx σ' H'
 | .brk=>∃ σ' H',Inv X pins σ' H' s'∧D.bk σ' H'
 | .cont=>∃ σ' H',Inv X pins σ' H' s'∧D.ct σ' H'
 | .ret u=>∃ v σ' H',Inv X pins σ' H' s'∧RelV v u∧D.rt v H'
noncomputable def PE (X:Cx) (e:Expr) (t:TE):Prop :=
 ∀ (pins:List (Addr×Obj)) (s:Shared) (σ:St) (H:Hp) (Q:VK),Inv X pins σ H s→t σ H Q→wpAny (model X.prog X.w) X.A (eval e X.env) (EP X pins σ Q) X.xe s
noncomputable def PT (X:Cx) (e:Expr) (t:TT):Prop :=
 ∀ (pins:List (Addr×Obj)) (s:Shared) (σ:St) (H:Hp) (Q:Bool→Hp→Prop),Inv X pins σ H s→t σ H Q→wpAny (model X.prog X.w) X.A (isTrue e X.env (eval e X.env)) (TP X pins σ Q) X.xe s
noncomputable def PW (X:Cx) (e:Expr) (t:TT):Prop :=
 ∀ (whole:Sem Value) (pins:List (Addr×Obj)) (s:Shared) (σ:St) (H:Hp) (Q:Bool→Hp→Prop),Inv X pins σ H s→t σ H Q→wpAny (model X.prog X.w) X.A (isTrue e X.env whole) (TP X pins σ Q) X.xe s
theorem PW.pt {X:Cx} {e:Expr} {t:TT} (h:PW X e t):PT X e t:=h _
noncomputable def PA (X:Cx) (es:List Expr) (t:TA):Prop :=
 ∀ (pos:Pos) (pins:List (Addr×Obj)) (s:Shared) (σ:St) (H:Hp) (Q:List V→Hp→Prop),Inv X pins σ H s→t σ H Q→wpAny (model X.prog X.w) X.A (spliced (backTo pos (starEach es X.env))) (AP X pins σ Q) X.xe s
noncomputable def PS (X:Cx) (st:Stmt) (t:TS):Prop :=
 ∀ (pins:List (Addr×Obj)) (s:Shared) (σ:St) (H:Hp) (D:Ends),Inv X pins σ H s→t D σ H→wpAny (model X.prog X.w) X.A (exec st X.env) (SP X pins D) X.xe s
noncomputable def PSs (X:Cx) (st:List Stmt) (t:TS):Prop :=
 ∀ (pins:List (Addr×Obj)) (s:Shared) (σ:St) (H:Hp) (D:Ends),Inv X pins σ H s→t D σ H→wpAny (model X.prog X.w) X.A (execs st X.env) (SP X pins D) X.xe s
theorem thn {α:Type} {t:Sem α} {Q Q':α→Shared→Prop} {M:Model} {A:Around} {E:Value→Shared→Prop} {s:Shared} (h:wpAny M A t Q E s) (hQ:∀ a s,Q a s→Q' a s):wpAny M A t Q' E s:=wpAny_mono h hQ fun _ _ x=>x
end L2
namespace L2
open PySem PySem.Spec PyProof.Rows
section
variable {X:Cx}
theorem bin {a b:Expr} {ta tb:TE} (ha:PE X a ta) (hb:PE X b tb) {pins:List (Addr×Obj)} {s:Shared} {σ:St} {H:Hp} {R:V→V→Hp→Prop} (I:Inv X pins σ H s) (h:ta σ H fun x H1=>tb σ H1 fun y H2=>R x y H2)
  {α:Type} {Q:α→Shared→Prop} {f:Value→Value→Sem α}
  (hf:∀ v u s2 x y H2,Inv X pins σ H2 s2→RelV x v→RelV y u→R x y H2→wpAny (model X.prog X.w) X.A (f v u) Q X.xe s2) :
  wpAny (model X.prog X.w) X.A (eval a X.env) (fun v s₁=>wpAny (model X.prog X.w) X.A (eval b X.env) (fun u s₂=>wpAny (model X.prog X.w) X.A (f v u) Q X.xe s₂) X.xe s₁) X.xe s:=by
 refine thn (ha pins s σ H _ I h) fun v s1 ⟨x,H1,I1,r1,q1⟩=>?_
 refine thn (hb pins s1 σ H1 _ I1 q1) fun u s2 ⟨y,H2,I2,r2,q2⟩=>?_
 exact hf v u s2 x y H2 I2 r1 r2 q2
noncomputable def tVar (i:Nat):TE:=fun σ H Q=>∃ v,σ[i]?=some (some v)∧Q v H
noncomputable def tC (v:V):TE:=fun _ H Q=>Q v H
theorem pe_var {i:Nat} {x:Str} {pos:Pos} (hN:X.N[i]?=some x) (hv:Vis X.env.scope x) (hd:(x == ("__debug__" : Str))=false:=by decide) (hcd:(x == ("__classdict__" : Str))=false:=by decide):PE X (.Name x pos) (tVar i):=by
 intro pins s σ H Q I h
 obtain ⟨v,e,h⟩:=h
 obtain ⟨m,hn,hl⟩:=I.loc
 obtain ⟨u,r,l⟩:=hl i x v hN e hv
 have fin:EP X pins σ Q u s:=⟨v,H,I,r,h⟩
 rcases l with ⟨hk,hm⟩ | ⟨hk,c,hc,hcell⟩
 ·exact wpAny_Name (wpAny_loadName_local I.ok.kind hk hn hm fin) hd
 ·rcases hk with hk | hk
  ·exact wpAny_Name (wpAny_loadName_cell I.ok.kind hk hc hcell fin) hd
  ·exact wpAny_Name (wpAny_loadName_free I.ok.kind hk hc hcell fin hcd) hd
theorem Zac {i j pos}:PE X (.Constant (.int i) j pos) (tC (.int i)):=fun _ _ _ H _ I h=>wpAny_Constant_int ⟨.int i,H,I.tok _,⟨_,rfl⟩,h⟩
theorem Zbr {b j pos}:PE X (.Constant (.bool b) j pos) (tC (.bl b)):=fun _ _ _ H _ I h=>Constant_bool ⟨.bl b,H,I,rfl,h⟩
theorem xaA {x j pos}:PE X (.Constant (.str x) j pos) (tC (.str x)):=fun _ _ _ H _ I h=>Calls.Constant_str ⟨.str x,H,I.tok _,⟨_,rfl⟩,h⟩
noncomputable def Gl (X:Cx) (x:Str):Prop:=X.env.kindOf x=some .globalImplicit
theorem Xbw {E:Value→Shared→Prop} {pins:List (Addr×Obj)} {s:Shared} {σ:St} {H:Hp} {x:Str} {u:Value} {pos:Pos} {Q:Value→Shared→Prop} (I:Inv X pins σ H s) (hg:Gl X x) (hm:X.mg x=some u) (h:Q u s)
  (hd:(x == ("__debug__" : Str))=false:=by decide):wpAny (model X.prog X.w) X.A (eval (.Name x pos) X.env) Q E s :=
 Calls.Name_function_global I.ok.kind hg (Calls.loadGlobal_global (by rw [I.ok.glob];exact I.mod.glob.keeps I.bk) hm h) hd
theorem ZaY {E:Value→Shared→Prop} {pins:List (Addr×Obj)} {s:Shared} {σ:St} {H:Hp} {x:Str} {u:Value} {pos:Pos} {Q:Value→Shared→Prop} (I:Inv X pins σ H s) (hg:Gl X x) (hm:X.mg x=none) (hv:bootBuiltins x=some u) (h:Q u s)
  (hn:x≠"__name__" := by decide) (hd:(x == ("__debug__" : Str))=false:=by decide):wpAny (model X.prog X.w) X.A (eval (.Name x pos) X.env) Q E s:=by
 obtain ⟨mb,h1,h2⟩:=I.mod.blt
 exact Calls.Name_function_global I.ok.kind hg (Calls.loadGlobal_builtin (by rw [I.ok.glob];exact I.mod.glob.keeps I.bk) hm (by rw [I.ok.blt];exact h1.keeps I.bk) ((h2 x hn).trans hv) h) hd
theorem zbx {x:Str} {v:V} {u:Value} {pos:Pos} (hg:Gl X x) (hm:X.mg x=some u) (r:RelV v u) (hd:(x == ("__debug__" : Str))=false:=by decide):PE X (.Name x pos) (tC v) :=
 fun _ _ _ H _ I h=>Xbw I hg hm ⟨v,H,I,r,h⟩ hd
theorem XaF {x:Str} {v:V} {u:Value} {pos:Pos} (hg:Gl X x) (hm:X.mg x=none) (hv:bootBuiltins x=some u) (r:RelV v u) (hn:x≠"__name__" := by decide) (hd:(x == ("__debug__" : Str))=false:=by decide):PE X (.Name x pos) (tC v) :=
 fun _ _ _ H _ I h=>ZaY I hg hm hv ⟨v,H,I,r,h⟩ hn hd
variable {a b:Expr} {ta tb:TE} {pos:Pos}
noncomputable def PC (X:Cx) (op:CmpOp) (a b:Expr) (t:TE):Prop :=
 ∀ (pins:List (Addr×Obj)) (s:Shared) (σ:St) (H:Hp) (Q:VK),Inv X pins σ H s→t σ H Q →
  wpAny (model X.prog X.w) X.A (eval a X.env) (fun v s₁=>wpAny (model X.prog X.w) X.A (eval b X.env) (fun u s₂=>wpAny (model X.prog X.w) X.A (compareOp op v u) (EP X pins σ Q) X.xe s₂) X.xe s₁) X.xe s
noncomputable def tB (t:TE):TT:=fun σ H Q=>t σ H fun x H1=>∃ c,x=.bl c∧Q c H1
theorem pt_cmp {op:CmpOp} {t:TE} (h:PC X op a b t) (h1:behindInMarks op b=false:=by first | exact nobehind _ (by decide) (by decide) | rfl):PT X (.Compare a [op] [b] pos) (tB t):=by
 intro pins s σ H Q I hw
 refine wpAny_isTrue_Compare1 (thn (h pins s σ H _ I hw) fun v s1 h1=>thn h1 fun u s2 h2=>thn h2 fun c s3 ⟨x,H1,I1,r1,q1⟩=>?_) h1
 obtain ⟨d,rfl,q⟩:=q1
 cases r1
 exact wpAny_truthy_bool ⟨H1,I1,q⟩
theorem ybx {e:Expr} {t:TE} (h:PE X e t) (he:∀ whole,isTrue e X.env whole=(do let v ← whole;standAt e.pos;holding [v] (truthy v)):=by intro _;rfl):PT X e (tB t):=by
 intro pins s σ H Q I hw
 refine isTrue_plain (thn (h pins s σ H _ I hw) fun v s1 ⟨x,H1,I1,r1,q1⟩=>?_) (he _)
 obtain ⟨d,rfl,q⟩:=q1
 cases r1
 exact wpAny_truthy_bool ⟨H1,I1,q⟩
variable {tA tB':TT} {rest:List Expr}
noncomputable def tOr (t u:TT):TT:=fun σ H Q=>t σ H fun c H1=>if c=true then Q true H1 else u σ H1 Q
noncomputable def tNot (t:TT):TT:=fun σ H Q=>t σ H fun c H1=>Q (!c) H1
theorem ybV (ha:PT X a tA):PW X (.BoolOp .Or [a] pos) tA:=by
 intro wh pins s σ H Q I h
 refine isTrue_or (thn (ha pins s σ H Q I h) fun c s1 e=>?_)
 cases c with
 | false=>exact isTrue_or_nil e
 | true=>exact e
theorem pw_or (ha:PT X a tA) (hb:PW X (.BoolOp .Or (b :: rest) pos) tB'):PW X (.BoolOp .Or (a :: b :: rest) pos) (tOr tA tB'):=by
 intro wh pins s σ H Q I h
 refine isTrue_or (thn (ha pins s σ H _ I h) fun c s1 ⟨H1,I1,q1⟩=>?_)
 cases c with
 | true=>exact ⟨H1,I1,q1⟩
 | false=>exact hb wh pins s1 σ H1 Q I1 q1
theorem ZbV (ha:PT X a tA):PT X (.UnaryOp .Not a pos) (tNot tA):=by
 intro pins s σ H Q I h
 exact isTrue_not (ha pins s σ H (fun c H1=>Q (!c) H1) I h)
noncomputable def tAndV (ta tb:TE):TE:=fun σ H Q=>ta σ H fun x H1=>∃ c,x=.bl c∧if c=true then tb σ H1 Q else Q (.bl false) H1
theorem pe_one {op} {t:TE} (h:PE X a t):PE X (.BoolOp op [a] pos) t:=fun pins s σ H Q I hw=>BoolOp_one (h pins s σ H Q I hw)
theorem pe_and (ha:PE X a ta) (hb:PE X (.BoolOp .And (b :: rest) pos) tb):PE X (.BoolOp .And (a :: b :: rest) pos) (tAndV ta tb):=by
 intro pins s σ H Q I h
 refine BoolOp_and (thn (ha pins s σ H _ I h) fun v s1 ⟨x,H1,I1,r1,q1⟩=>?_)
 obtain ⟨c,rfl,q1⟩:=q1
 cases r1
 refine wpAny_truthy_bool ?_
 cases c with
 | true=>exact hb pins s1 σ H1 Q I1 q1
 | false=>exact ⟨.bl false,H1,I1,rfl,q1⟩
end
end L2
namespace L2
open PySem PySem.Spec PyProof.Rows
noncomputable def SqL (K:PySem.W.Frag) (H:Hp) (a:Addr) (xs:List V):Prop :=
 Rd H a (.lst xs) ∨
  ∃ (o:Obj) (its:Array Value) (n:Nat),K.lookup a=some o∧o.cls=.type "list" ∧ o.dict=none∧o.data=.seq its n∧its.size≤sizeLine∧Vals xs its.toList
noncomputable def SqT (K:PySem.W.Frag) (H:Hp) (a:Addr) (xs:List V):Prop :=
 Rd H a (.tup xs) ∨
  ∃ (o:Obj) (its:Array Value) (n:Nat),K.lookup a=some o∧o.cls=.type "tuple" ∧ o.dict=none∧o.data=.seq its n∧its.size≤sizeLine∧Vals xs its.toList
noncomputable def absV:Value→Option V
 | .none=>some .non
 | .bool b=>some (.bl b)
 | .int i _=>some (.int i)
 | .str x _=>some (.str x)
 | .bytes b _=>some (.byt b)
 | .float b _=>some (.flt b)
 | .ref a=>some (.ref a)
 | .type n=>some (.ty n)
 | _=>none
theorem RelV.abs {x:V} {u:Value} (r:RelV x u):absV u=some x:=by
 cases x with
 | non=>cases r;rfl
 | bl _=>cases r;rfl
 | int _=>obtain ⟨t,rfl⟩:=r;rfl
 | str _=>obtain ⟨t,rfl⟩:=r;rfl
 | byt _=>obtain ⟨t,rfl⟩:=r;rfl
 | flt _=>obtain ⟨t,rfl⟩:=r;rfl
 | ref _=>cases r;rfl
 | ty _=>cases r;rfl
theorem RelV.inj {x y:V} {u:Value} (r:RelV x u) (q:RelV y u):x=y:=Option.some.inj (r.abs.symm.trans q.abs)
theorem Vals.inj:∀ {xs ys:List V} {us:List Value},Vals xs us→Vals ys us→xs=ys
 | _,_,_,.nil,.nil=>rfl
 | _,_,_,.cons r t,.cons r' t'=>by rw [r.inj r',Vals.inj t t']
section
variable {X:Cx} {pins:List (Addr×Obj)} {σ:St} {H:Hp} {s:Shared} {a:Addr} {xs ys:List V}
theorem SqT.of {K:PySem.W.Frag} (h:H a=some (.tup xs)):SqT K H a xs:=.inl (.inl h)
theorem Inv.list (I:Inv X pins σ H s) (h:SqL X.K H a xs):∃ its:List Value,Vals xs its∧PlainL s.heap a its.toArray∧xs.length≤sizeLine:=by
 rcases h with h | ⟨o,its,n,hk,hc,hd,hs,hz,r⟩
 ·obtain ⟨z,its,n,r,e⟩:=h.ok I.hok
  exact ⟨its,r,⟨_,n,e,rfl,rfl,rfl⟩,z⟩
 ·refine ⟨its.toList,r,⟨o,n,I.kIn a o hk,hc,hd,by simpa using hs⟩,?_⟩
  have e:=r.length
  simp only [Array.length_toList] at e
  omega
theorem Inv.tupleP (I:Inv X pins σ H s) (h:SqT X.K H a xs):∃ its:List Value,Vals xs its∧PTup s.heap a its.toArray∧xs.length≤sizeLine:=by
 rcases h with h | ⟨o,its,n,hk,hc,hd0,hs,hz,r⟩
 ·obtain ⟨z,its,r,p⟩:=h.ok I.hok
  exact ⟨its,r,p,z⟩
 ·refine ⟨its.toList,r,⟨o,I.kIn a o hk,hc,hd0,n,by simpa using hs⟩,?_⟩
  have e:=r.length
  simp only [Array.length_toList] at e
  omega
theorem Inv.tuple (I:Inv X pins σ H s) (h:SqT X.K H a xs):∃ its:List Value,Vals xs its∧IsTup s.heap a its.toArray∧xs.length≤sizeLine :=
 let ⟨its,r,p,z⟩:=I.tupleP h
 ⟨its,r,p.tup,z⟩
theorem Inv.list_inj (I:Inv X pins σ H s) (h:SqL X.K H a xs) (h':SqL X.K H a ys):xs=ys:=by
 obtain ⟨its,r,⟨o,n,e,_,_,d⟩,_⟩:=I.list h
 obtain ⟨its',r',⟨o',n',e',_,_,d'⟩,_⟩:=I.list h'
 rw [e] at e';cases e'
 rw [d] at d'
 injection d' with d1 _
 have:its=its':=by simpa using congrArg Array.toList d1
 subst this
 exact r.inj r'
theorem Inv.tuple_inj (I:Inv X pins σ H s) (h:SqT X.K H a xs) (h':SqT X.K H a ys):xs=ys:=by
 obtain ⟨its,r,⟨o,e,_,n,d⟩,_⟩:=I.tuple h
 obtain ⟨its',r',⟨o',e',_,n',d'⟩,_⟩:=I.tuple h'
 rw [e] at e';cases e'
 rw [d] at d'
 injection d' with d1 _
 have:its=its':=by simpa using congrArg Array.toList d1
 subst this
 exact r.inj r'
end
abbrev Cx.wish (X:Cx) (E:Value→Shared→Prop):Cx:={ X with xe:=E }
abbrev Cx.nox (X:Cx):Cx:=X.wish fun _ _=>False
theorem Cx.Ok.wish {X:Cx} (ok:X.Ok) (E:Value→Shared→Prop):(X.wish E).Ok :=
 ⟨ok.mod,ok.kind,ok.glob,ok.blt,ok.above,ok.inj,ok.has,ok.cab,ok.hd,ok.frames,ok.stk,ok.exf,ok.bs,ok.bsz,ok.noex,ok.exfs,ok.funs,ok.frf⟩
theorem Cx.Ok.unwish {X:Cx} {E:Value→Shared→Prop} (ok:(X.wish E).Ok):X.Ok :=
 ⟨ok.mod,ok.kind,ok.glob,ok.blt,ok.above,ok.inj,ok.has,ok.cab,ok.hd,ok.frames,ok.stk,ok.exf,ok.bs,ok.bsz,ok.noex,ok.exfs,ok.funs,ok.frf⟩
section
variable {X:Cx} {pins:List (Addr×Obj)} {σ:St} {H:Hp} {s:Shared} {E:Value→Shared→Prop}
theorem Inv.wish (I:Inv X pins σ H s) (E:Value→Shared→Prop):Inv (X.wish E) pins σ H s:=⟨I.ok.wish E,I.os,I.bare,I.base,I.loc,I.cell,I.free,I.freeC,I.pin,I.hok,I.len⟩
theorem Inv.unwish (I:Inv (X.wish E) pins σ H s):Inv X pins σ H s:=⟨I.ok.unwish,I.os,I.bare,I.base,I.loc,I.cell,I.free,I.freeC,I.pin,I.hok,I.len⟩
theorem SP.unwish {D:Ends} {f:Flow} {s':Shared} (h:SP (X.wish E) pins D f s'):SP X pins D f s':=by
 cases f with
 | next=>obtain ⟨σ',H',I,q⟩:=h;exact ⟨σ',H',I.unwish,q⟩
 | brk=>obtain ⟨σ',H',I,q⟩:=h;exact ⟨σ',H',I.unwish,q⟩
 | cont=>obtain ⟨σ',H',I,q⟩:=h;exact ⟨σ',H',I.unwish,q⟩
 | ret u=>obtain ⟨v,σ',H',I,r,q⟩:=h;exact ⟨v,σ',H',I.unwish,r,q⟩
theorem PSs.nox {st:List Stmt} {t:TS} (h:PSs X.nox st t):PSs X st t:=fun pins s σ H D I hw =>
 wpAny_mono (h pins s σ H D (I.wish _) hw) (fun _ _ q=>q.unwish) fun _ _ z=>False.elim z
end
section
variable {X:Cx} {st:Stmt} {rest:List Stmt} {t u:TS} {e:Expr} {te:TE} {pos:Pos}
noncomputable def tNext:TS:=fun D σ H=>D.nx σ H
noncomputable def tSeq (t u:TS):TS:=fun D σ H=>t { D with nx:=u D } σ H
theorem Xao:PSs X [] tNext:=fun _ _ σ H _ I h=>wpAny_execs_nil ⟨σ,H,I,h⟩
theorem yab (h1:PS X st t) (h2:PSs X rest u):PSs X (st :: rest) (tSeq t u):=by
 intro pins s σ H D I h
 refine wpAny_execs_cons (thn (h1 pins s σ H { D with nx:=u D } I h) fun f s1 q=>?_)
 cases f with
 | next =>
  obtain ⟨σ',H',I',q⟩:=q
  exact h2 pins s1 σ' H' D I' q
 | ret v=>exact q
 | brk=>exact q
 | cont=>exact q
theorem yad (h1:PS X st t):PSs X [st] t:=by
 intro pins s σ H D I h
 refine wpAny_execs_cons (thn (h1 pins s σ H D I h) fun f s1 q=>?_)
 cases f with
 | next=>exact wpAny_execs_nil q
 | ret v=>exact q
 | brk=>exact q
 | cont=>exact q
theorem Inv.quiet {pins:List (Addr×Obj)} {σ:St} {H:Hp} {s:Shared} (I:Inv X pins σ H s):interactive X.env=false:=by simp [interactive,I.ok.kind]
noncomputable def tDrop (te:TE):TS:=fun D σ H=>te σ H fun _ H1=>D.nx σ H1
theorem ya6 (he:PE X e te) (hs:swapsWith e none pos.line X.env=pure false:=by rfl):PS X (.Expr e pos) (tDrop te):=by
 intro pins s σ H D I h
 exact wpAny_Expr_any (thn (he pins s σ H _ I h) fun v s1 ⟨x,H1,I1,r1,q1⟩=>⟨σ,H1,I1,q1⟩) I.quiet hs
noncomputable def tRet (te:TE):TS:=fun D σ H=>te σ H D.rt
theorem xah (he:PE X e te):PS X (.Return (some e) pos) (tRet te):=by
 intro pins s σ H D I h
 exact wpAny_Return_some (thn (he pins s σ H _ I h) fun v s1 ⟨x,H1,I1,r1,q1⟩=>⟨x,σ,H1,I1,r1,q1⟩)
noncomputable def tIfS (c:TT) (t u:TS):TS:=fun D σ H=>c σ H fun b H1=>if b=true then t D σ H1 else u D σ H1
theorem yaI {c:Expr} {a b:List Stmt} {tc:TT} (hc:PT X c tc) (ha:PSs X a t) (hb:PSs X b u):PS X (.If c a b pos) (tIfS tc t u):=by
 intro pins s σ H D I h
 refine wpAny_If (thn (hc pins s σ H _ I h) fun d s1 ⟨H1,I1,q1⟩=>?_)
 cases d with
 | true=>exact ha pins s1 σ H1 D I1 q1
 | false=>exact hb pins s1 σ H1 D I1 q1
end
abbrev TG:=V→St→Hp→(St→Hp→Prop)→Prop
abbrev TGs:=List V→St→Hp→(St→Hp→Prop)→Prop
noncomputable def PG (X:Cx) (target:Expr) (t:TG):Prop :=
 ∀ (pins:List (Addr×Obj)) (s:Shared) (σ:St) (H:Hp) (v:V) (u:Value) (Q:St→Hp→Prop),Inv X pins σ H s→RelV v u→t v σ H Q →
  wpAny (model X.prog X.w) X.A (assign target X.env u) (fun _ s'=>∃ σ' H',Inv X pins σ' H' s'∧Q σ' H') X.xe s
noncomputable def PGs (X:Cx) (ts:List Expr) (t:TGs):Prop :=
 ∀ (pins:List (Addr×Obj)) (s:Shared) (σ:St) (H:Hp) (vs:List V) (us:List Value) (Q:St→Hp→Prop),Inv X pins σ H s→Vals vs us→t vs σ H Q →
  wpAny (model X.prog X.w) X.A (assignInOrder ((assignEach ts X.env).map (·.2)) us) (fun _ s'=>∃ σ' H',Inv X pins σ' H' s'∧Q σ' H') X.xe s
abbrev TSet:=V→V→V→Hp→(Hp→Prop)→Prop
noncomputable def PSet (X:Cx) (t:TSet):Prop :=
 ∀ (pins:List (Addr×Obj)) (s:Shared) (σ:St) (H:Hp) (o i v:V) (ov iv u:Value) (Q:Hp→Prop),Inv X pins σ H s→RelV o ov→RelV i iv→RelV v u→t o i v H Q →
  wpAny (model X.prog X.w) X.A (setItem ov iv u) (fun _ s'=>∃ H',Inv X pins σ H' s'∧Q H') X.xe s
section
variable {X:Cx} {pos:Pos}
noncomputable def gName (i:Nat):TG:=fun v σ H Q=>Q (σ.set i (some v)) H
theorem xaf {i:Nat} {x:Str} (hN:X.N.Nodup) (hi:X.N[i]?=some x) (hx:Loc X.env.scope x) (hf:X.fn x=true∨X.env.scope.names.lookup x=some .local:=by first | exact .inl rfl | exact .inr rfl | assumption):PG X (.Name x pos) (gName i):=by
 intro pins s σ H v u Q I r h
 exact wpAny_assign_Name (zaX I hN hi hx r (fun s' I'=>⟨_,H,I',h⟩) hf)
noncomputable def gNil:TGs:=fun vs σ H Q=>vs=[]∧Q σ H
noncomputable def gCons (t:TG) (u:TGs):TGs:=fun vs σ H Q=>∃ v r,vs=v :: r∧t v σ H fun σ' H'=>u r σ' H' Q
theorem ZaI:PGs X [] gNil:=by
 intro pins s σ H vs us Q I r h
 obtain ⟨e,h⟩:=h
 subst e
 cases r
 exact assignInOrder_nil ⟨σ,H,I,h⟩
theorem zak {e:Expr} {es:List Expr} {t:TG} {u:TGs} (h1:PG X e t) (h2:PGs X es u)
  (hs:(assignEach (e :: es) X.env).map (·.2)=assign e X.env :: (assignEach es X.env).map (·.2):=by rfl):PGs X (e :: es) (gCons t u):=by
 intro pins s σ H vs us Q I r h
 obtain ⟨v,vr,e1,h⟩:=h
 subst e1
 cases r with
 | cons r rr =>
  rw [hs]
  refine assignInOrder_cons (thn (h1 pins s σ H _ _ _ I r h) fun _ s1 ⟨σ1,H1,I1,q1⟩=>?_)
  exact h2 pins s1 σ1 H1 _ _ Q I1 rr q1
noncomputable def gTup (K:PySem.W.Frag) (n:Nat) (t:TGs):TG:=fun v σ H Q=>∃ a xs,v=.ref a∧SqT K H a xs∧xs.length=n∧t xs σ H Q
theorem xaU {es:List Expr} {k:Nat} {t:TGs} {n:Nat} (hc:X.calm=true) (h:PGs X es t)
  (hn:(assignEach es X.env).length=n:=by rfl) (hst:(assignEach es X.env).findIdx? (·.1)=none:=by rfl):PG X (.Tuple es k pos) (gTup X.K n t):=by
 intro pins s σ H v u Q I r hw
 obtain ⟨a,xs,e1,hq,hl,hw⟩:=hw
 subst e1
 cases r
 obtain ⟨its,rv,ht,hz⟩:=I.tuple hq
 refine assign_Tuple_tuple (I.ok.hd hc) ht (by simp [hn,← hl,rv.length]) hst fun h' hx=>?_
 have I1:Inv X pins σ H { s with heap:=h' }:=I.kept (t':=s.toks) fun b o e=>hx b o (Nat.ne_of_lt (Heap.lt_size e)) e
 exact h pins _ σ H xs _ Q I1 (by simpa using rv) hw
noncomputable def gSub (to ti:TE) (t:TSet):TG:=fun v σ H Q=>to σ H fun o H1=>ti σ H1 fun i H2=>t o i v H2 fun H3=>Q σ H3
theorem yaK {o i:Expr} {to ti:TE} {t:TSet} (ho:PE X o to) (hi:PE X i ti) (hs:PSet X t)
  (ha:∀ v,assign (.Subscript o i pos) X.env v=(do
   let ov ← holding [v] (eval o X.env)
   let iv ← holding [v,ov] (eval i X.env)
   standAt pos
   holding [v,ov,iv] (setItem ov iv v)
   release [v,ov,iv] []):=by intro _;rfl):PG X (.Subscript o i pos) (gSub to ti t):=by
 intro pins s σ H v u Q I r h
 rw [ha]
 refine wpAny_bind (wpAny_holding (thn (ho pins s σ H _ I h) fun ov s1 ⟨x,H1,I1,r1,q1⟩=>?_))
 refine wpAny_bind (wpAny_holding (thn (hi pins s1 σ H1 _ I1 q1) fun iv s2 ⟨y,H2,I2,r2,q2⟩=>?_))
 refine wpAny_bind (wpAny_standAt (wpAny_bind (wpAny_holding (thn (hs pins s2 σ H2 x y v ov iv u _ I2 r1 r2 r q2) fun _ s3 ⟨H3,I3,q3⟩=>?_))))
 exact wpAny_release ⟨σ,H3,I3,q3⟩
noncomputable def tAsg (te:TE) (g:TG):TS:=fun D σ H=>te σ H fun x H1=>g x σ H1 D.nx
theorem XaK {tg e:Expr} {te:TE} {g:TG} (he:PE X e te) (hg:PG X tg g) (hs:swapsWithSole [tg] e pos.line X.env=pure false:=by rfl) (hw:swappedStores [tg] e X.env=pure none:=by rfl)
  (h1:(assignEach [tg] X.env).map (·.2)=[assign tg X.env]:=by rfl):PS X (.Assign [tg] e pos) (tAsg te g):=by
 intro pins s σ H D I h
 refine wpAny_Assign_stores (thn (he pins s σ H _ I h) fun v s1 ⟨x,H1,I1,r1,q1⟩=>?_) hs hw
 rw [h1]
 exact thn (hg pins s1 σ H1 x v _ I1 r1 q1) fun _ s2 q=>q
theorem yaf {i:Nat} {x:Str} {e:Expr} {te:TE} {pos':Pos} (hN:X.N.Nodup) (hi:X.N[i]?=some x) (hx:Loc X.env.scope x) (he:PE X e te) (hs:swapsWith e (some (.Name x pos')) pos.line X.env=pure false:=by rfl) (hf:X.fn x=true∨X.env.scope.names.lookup x=some .local:=by first | exact .inl rfl | exact .inr rfl | assumption) :
  PS X (.Assign [.Name x pos'] e pos) (tAsg te (gName i)):=by
 intro pins s σ H D I h
 refine wpAny_Assign_Name (thn (he pins s σ H _ I h) fun v s1 ⟨y,H1,I1,r1,q1⟩=>?_) hs
 exact zaX I1 hN hi hx r1 (fun s2 I2=>⟨_,H1,I2,q1⟩) hf
noncomputable def tPar (i j:Nat) (ta:TA):TS:=fun D σ H=>ta σ H fun vs H1=>∃ v w,vs=[v,w]∧D.nx ((σ.set i (some v)).set j (some w)) H1
theorem zbm {i j:Nat} {x y:Str} {a b:Expr} {ta:TA} {px py pt:Pos} {kt k2 pt2} (hc:X.calm=true) (hN:X.N.Nodup) (hi:X.N[i]?=some x) (hj:X.N[j]?=some y) (hij:i≠j)
  (hx:X.env.scope.names.lookup x=some .local) (hy:X.env.scope.names.lookup y=some .local) (ha:PA X [a,b] ta)
  (hw:swappedStores [.Tuple [.Name x px,.Name y py] kt pt] (.Tuple [a,b] k2 pt2) X.env=pure (some [x,y]))
  (hs:swapsWithSole [.Tuple [.Name x px,.Name y py] kt pt] (.Tuple [a,b] k2 pt2) pos.line X.env=pure false:=by rfl) :
  PS X (.Assign [.Tuple [.Name x px,.Name y py] kt pt] (.Tuple [a,b] k2 pt2) pos) (tPar i j ta):=by
 intro pins s σ H D I h
 rw [exec_Assign_arm]
 refine wpAny_bind (wpAny_standAt ?_)
 rw [hs]
 refine wpAny_bind (wpAny_pure ?_)
 rw [if_neg (by decide)]
 refine wpAny_bind (Tuple_ (thn (ha _ pins s σ H _ I h) fun us s1 ⟨vs,H1,I1,r1,q1⟩=>?_))
 obtain ⟨v,w,e1,q1⟩:=q1
 subst e1
 obtain ⟨u1,u2,rfl,rv,rw'⟩:∃ u1 u2,us=[u1,u2]∧RelV v u1∧RelV w u2:=by
  cases r1 with
  | cons p q =>
   cases q with
   | cons p' q' =>
    cases q'
    exact ⟨_,_,rfl,p,p'⟩
 refine wpAny_newObj_type ?_ (by show 2≤sizeLine;decide)
 have I2:Inv X pins σ H1 { s1 with heap:=s1.heap.push { cls:=.type "tuple",data:=.seq [u1,u2].toArray } }:=I1.kept (t':=s1.toks) fun b o e=>Heap.get?_push_of_some _ e
 rw [hw]
 refine wpAny_bind (wpAny_pure ?_)
 show wpAny (model X.prog X.w) X.A (do rule "assign.swapped-stores";let items ← unpackItems (.ref s1.heap.objs.size) 2 none;assignInOrder [fun v=>bindName X.env y v,fun v=>bindName X.env x v] items.reverse;pure Flow.next) _ _ _
 refine wpAny_bind (wpAny_rule (wpAny_bind (unpackItems_tuple (items:=#[u1,u2]) (I.ok.hd hc) (IsTup.new s1.heap _) fun h' hx'=>?_)))
 have I3:=I2.kept (h':=h') (t':=s1.toks) fun b o e=>hx' b o (Nat.ne_of_lt (Heap.lt_size e)) e
 show wpAny _ _ (assignInOrder [fun v=>bindName X.env y v,fun v=>bindName X.env x v] [u2,u1] >>= fun _=>pure Flow.next) _ _ _
 refine wpAny_bind (assignInOrder_cons (wpAny_bindName (zaX I3 hN hj (.inl hy) rw' (fun s2 I4=>?_) (.inr hy))))
 refine assignInOrder_cons (wpAny_bindName (zaX I4 hN hi (.inl hx) rv (fun s3 I5=>assignInOrder_nil (wpAny_pure ?_)) (.inr hx)))
 rw [List.set_comm _ _ (Ne.symm hij)] at I5
 exact ⟨_,H1,I5,q1⟩
end
section
variable {X:Cx} {pos:Pos}
noncomputable def tWhile (c:TT) (tb:TS):TS:=fun D σ H=>∃ W:Nat→St→Hp→Prop,(∃ m,W m σ H)∧∀ m σ H,W m σ H →
 c σ H fun b H1=>if b=true then ∃ N:St→Hp→Prop,(∀ σ' H',N σ' H'→∃ m',m' < m∧W m' σ' H')∧tb { D with nx:=N,ct:=N,bk:=D.nx } σ H1 else D.nx σ H1
theorem yaX {c:Expr} {body:List Stmt} {tc:TT} {tb:TS} (hp:PassesOwn (model X.prog X.w) X.A X.env X.xe) (hc:PT X c tc) (hb:PSs X body tb):PS X (.While c body [] pos) (tWhile tc tb):=by
 intro pins s σ H D I h
 obtain ⟨W,⟨m0,w0⟩,turn⟩:=h
 refine wpAny_While (codeAny_whileLoop (fun n s'=>∃ σ' H',Inv X pins σ' H' s'∧W n σ' H') ?_ m0 ⟨σ,H,I,w0⟩)
 rintro n s1 ⟨σ1,H1,I1,w1⟩
 refine wpAny_passesOwn hp (thn (hc pins s1 σ1 H1 _ I1 (turn n σ1 H1 w1)) fun b s2 ⟨H2,I2,q2⟩=>?_)
 cases b with
 | true =>
  obtain ⟨N,hN,q2⟩:=q2
  rw [if_pos rfl]
  refine wpAny_passesOwn hp (thn (hb pins s2 σ1 H2 _ I2 q2) fun f s3 q3=>?_)
  cases f with
  | next =>
   obtain ⟨σ3,H3,I3,n3⟩:=q3
   obtain ⟨m',hm,w3⟩:=hN σ3 H3 n3
   exact ⟨m',hm,σ3,H3,I3,w3⟩
  | cont =>
   obtain ⟨σ3,H3,I3,n3⟩:=q3
   obtain ⟨m',hm,w3⟩:=hN σ3 H3 n3
   exact ⟨m',hm,σ3,H3,I3,w3⟩
  | brk=>exact q3
  | ret v=>exact q3
 | false =>
  rw [if_neg Bool.false_ne_true]
  exact wpAny_execs_nil ⟨σ1,H2,I2,q2⟩
end
set_option genInjectivity false in
structure It where
 go:Nat→Hp→Prop
 yld:Nat→Hp→V→Hp→Prop
 stop:Nat→Hp→Prop
noncomputable def FpOk (X:Cx) (pins:List (Addr×Obj)) (H:Hp) (b:Addr):Prop :=
 H b=none∧b≠X.env.locals∧b ∉ X.fs∧(b∈X.ex∨X.s₀.heap.objs.size≤b)∧(∀ x c,X.env.cells.lookup x=some c→c≠b)∧∀ p∈X.pn ++ pins,p.1≠b
theorem Inv.fpOk {X:Cx} {pins:List (Addr×Obj)} {σ:St} {H H':Hp} {s:Shared} {b:Addr} (I:Inv X pins σ H s) (hb:s.heap.objs.size≤b) (hn:H' b=none):FpOk X pins H' b:=by
 refine ⟨hn,Nat.ne_of_gt (Nat.lt_of_lt_of_le I.lt hb),I.nofs hb,.inr (Nat.le_trans I.sz hb),fun x c e z=>?_,fun p hp z=>?_⟩
 ·obtain ⟨v,q⟩:=I.cell x c e
  exact absurd (Nat.lt_of_lt_of_le q.lt (by rw [z];exact hb)) (Nat.lt_irrefl _)
 ·exact absurd (Nat.lt_of_lt_of_le (Heap.lt_size (I.pin p hp).1) (by rw [z];exact hb)) (Nat.lt_irrefl _)
structure Turn (P:Program) (w:World) (K:PySem.W.Frag) (tg:Expr) (J:It) (fp:List Addr) (it:Addr) (tn:Nat→Heap→Prop):Prop where
 mem:it∈fp
 obj:∀ i h,tn i h→∀ b∈fp,∃ o,h.get? b=some o∧∀ v,o.data≠.cell v
 keep:∀ i h h',tn i h→(∀ b∈fp,∀ o,h.get? b=some o→h'.get? b=some o)→tn i h'
 item:∀ (X:Cx),X.prog=P→X.w=w→X.K=K→X.calm=true→∀ (i:Nat) (pins:List (Addr×Obj)) (s:Shared) (σ:St) (H:Hp) (E:Value→Shared→Prop),Inv X pins σ H s→(∀ b∈fp,FpOk X pins H b)→tn i s.heap→J.go i H →
  wpAny (model P w) X.A (pyNext (.ref it)) (fun r s1=>∃ u,r=some u ∧
   wpAny (model P w) X.A (letOwnedTupleGo tg (.ref it) u) (fun _ s2=>∃ x H',Inv X pins σ H' s2∧RelV x u∧J.yld i H x H'∧tn (i + 1) s2.heap∧∀ b∈fp,H' b=none) E s1) E s
 done:∀ (X:Cx),X.prog=P→X.w=w→X.K=K→X.calm=true→∀ (i:Nat) (pins:List (Addr×Obj)) (s:Shared) (σ:St) (H:Hp) (E:Value→Shared→Prop),Inv X pins σ H s→(∀ b∈fp,FpOk X pins H b)→tn i s.heap→J.stop i H →
  wpAny (model P w) X.A (pyNext (.ref it)) (fun r s1=>r=none∧Inv X pins σ H s1) E s
 self:∀ (A:Around) (i:Nat) (s:Shared) (Q:Value→Shared→Prop) (E:Value→Shared→Prop),tn i s.heap→Q (.ref it) s→wpAny (model P w) A (pyIter (.ref it)) Q E s
abbrev TI:=St→Hp→(It→Hp→Prop)→Prop
noncomputable def PIE (X:Cx) (pins:List (Addr×Obj)) (σ:St) (tg:Expr) (R:It→Hp→Prop) (itv:Value) (s2:Shared):Prop :=
 ∃ (it:Addr) (fp:List Addr) (tn:Nat→Heap→Prop) (J:It) (H':Hp),itv=.ref it∧Inv X pins σ H' s2∧Turn X.prog X.w X.K tg J fp it tn∧tn 0 s2.heap∧(∀ b∈fp,FpOk X pins H' b)∧R J H'
noncomputable def PI (X:Cx) (tg iter:Expr) (wi:TI):Prop :=
 ∀ (pins:List (Addr×Obj)) (s:Shared) (σ:St) (H:Hp) (R:It→Hp→Prop),Inv X pins σ H s→wi σ H R →
  wpAny (model X.prog X.w) X.A (eval iter X.env) (fun v s1=>wpAny (model X.prog X.w) X.A (pyIter v) (PIE X pins σ tg R) X.xe s1) X.xe s
theorem xbg {M:Model} {A:Around} {E:Value→Shared→Prop} {s:Shared} {tg:Expr} {it:Addr} {u:Value} {o:Obj} {n:String} {vs:Array Value} {Q:Unit→Shared→Prop} (ho:s.heap.get? it=some o) (hc:o.cls=.type n) (hd:o.data=.fields vs)
  (hn:["enumerate","zip","dict_itemiterator","dict_reverseitemiterator","odict_iterator","itertools.zip_longest","itertools.pairwise"].contains n=false) (hQ:Q () s):wpAny M A (letOwnedTupleGo tg (.ref it) u) Q E s:=by
 unfold letOwnedTupleGo
 cases tg <;> first
  | exact wpAny_pure hQ
  | (cases u <;> first
    | exact wpAny_pure hQ
    | (refine wpAny_bind (wpAny_load ho ?_)
       rw [hc,hd]
       show wpAny M A (if (["enumerate","zip","dict_itemiterator","dict_reverseitemiterator","odict_iterator","itertools.zip_longest","itertools.pairwise"].contains n && vs[0]? == some (rawInt _))=true then _ else _) Q E s
       rw [if_neg (by intro h;rw [hn,Bool.false_and] at h;cases h)]
       exact wpAny_pure hQ))
noncomputable def Itl (K:PySem.W.Frag) (a:Addr):It :=
 ⟨fun i H=>∃ xs x,SqL K H a xs∧xs[i]?=some x,fun i H x H'=>H'=H∧∀ xs,SqL K H a xs→xs[i]?=some x,fun i H=>∃ xs,SqL K H a xs∧xs.length≤i⟩
noncomputable def Itt (K:PySem.W.Frag) (a:Addr):It :=
 ⟨fun i H=>∃ xs x,SqT K H a xs∧xs[i]?=some x,fun i H x H'=>H'=H∧∀ xs,SqT K H a xs→xs[i]?=some x,fun i H=>∃ xs,SqT K H a xs∧xs.length≤i⟩
noncomputable def Itr (lo:Int) (n:Nat):It:=⟨fun i _=>i < n,fun i H x H'=>H'=H∧x=.int (lo + i),fun i _=>n≤i⟩
theorem Zbx {P:Program} {w:World} {K:PySem.W.Frag} {tg:Expr} (a it:Addr):Turn P w K tg (Itl K a) [it] it (fun i h=>h.IsListIter it a i) where
 mem:=by simp
 obj:=fun i h st b hb=>by
  have e:b=it:=by simpa using hb
  subst e
  obtain ⟨o,e,c,d⟩:=st
  exact ⟨o,e,fun v z=>by rw [d] at z;cases z⟩
 keep:=fun i h h' st k=>st.at fun o e=>k it (by simp) o e
 item:=by
  intro X hP hw hK hc i pins s σ H E I hf st hg
  subst hP hw hK
  obtain ⟨xs,x,hq,hx⟩:=hg
  obtain ⟨its,rv,p,hz⟩:=I.list hq
  obtain ⟨u,hu,ru⟩:=rv.get hx
  obtain ⟨f0,f1,f2,f3,f4,f5⟩:=hf it (by simp)
  refine wpAny_pyNext_list_item st p.isList (x:=u) (by simpa using hu) fun h' st' sb=>?_
  have I1:Inv X pins σ H { s with heap:=h' }:=I.turned (t':=s.toks) (fun b o hb e=>(sb.2 b hb).trans e) f0 f1 f3 f4 f5
  obtain ⟨o,e,c,d⟩:=id st'
  exact ⟨u,rfl,xbg (s:={ s with heap:=h' }) e c d (by decide) ⟨x,H,I1,ru,⟨rfl,fun ys hy=>by rw [I.list_inj hy hq];exact hx⟩,st',fun b hb=>(hf b hb).1⟩⟩
 done:=by
  intro X hP hw hK hc i pins s σ H E I hf st hg
  subst hP hw hK
  obtain ⟨xs,hq,hx⟩:=hg
  obtain ⟨its,rv,p,hz⟩:=I.list hq
  obtain ⟨f0,f1,f2,f3,f4,f5⟩:=hf it (by simp)
  have hl:=rv.length
  exact wpAny_pyNext_list_end (I.ok.hd hc) st p.isList (by simp;omega) fun h' eb=>⟨rfl,I.turned (t':=s.toks) (fun b o hb e=>eb b o hb e) f0 f1 f3 f4 f5⟩
 self:=fun _ _ _ _ _ st h=>wpAny_pyIter_listiter st h
theorem Ybr {P:Program} {w:World} {K:PySem.W.Frag} {tg:Expr} (a it:Addr):Turn P w K tg (Itt K a) [it] it (fun i h=>h.IsTupleIter it a i) where
 mem:=by simp
 obj:=fun i h st b hb=>by
  have e:b=it:=by simpa using hb
  subst e
  obtain ⟨o,e,c,d⟩:=st
  exact ⟨o,e,fun v z=>by rw [d] at z;cases z⟩
 keep:=fun i h h' st k=>st.at fun o e=>k it (by simp) o e
 item:=by
  intro X hP hw hK hc i pins s σ H E I hf st hg
  subst hP hw hK
  obtain ⟨xs,x,hq,hx⟩:=hg
  obtain ⟨its,rv,p,hz⟩:=I.tuple hq
  obtain ⟨u,hu,ru⟩:=rv.get hx
  obtain ⟨f0,f1,f2,f3,f4,f5⟩:=hf it (by simp)
  refine wpAny_pyNext_tuple_item st (show s.heap.IsTuple a its.toArray from p) (x:=u) (by simpa using hu) fun h' st' sb=>?_
  have I1:Inv X pins σ H { s with heap:=h' }:=I.turned (t':=s.toks) (fun b o hb e=>(sb.2 b hb).trans e) f0 f1 f3 f4 f5
  obtain ⟨o,e,c,d⟩:=id st'
  exact ⟨u,rfl,xbg (s:={ s with heap:=h' }) e c d (by decide) ⟨x,H,I1,ru,⟨rfl,fun ys hy=>by rw [I.tuple_inj hy hq];exact hx⟩,st',fun b hb=>(hf b hb).1⟩⟩
 done:=by
  intro X hP hw hK hc i pins s σ H E I hf st hg
  subst hP hw hK
  obtain ⟨xs,hq,hx⟩:=hg
  obtain ⟨its,rv,p,hz⟩:=I.tuple hq
  obtain ⟨f0,f1,f2,f3,f4,f5⟩:=hf it (by simp)
  have hl:=rv.length
  exact wpAny_pyNext_tuple_end (I.ok.hd hc) st (show s.heap.IsTuple a its.toArray from p) (by simp;omega) fun h' eb=>⟨rfl,I.turned (t':=s.toks) (fun b o hb e=>eb b o hb e) f0 f1 f3 f4 f5⟩
 self:=fun _ _ _ _ _ st h=>wpAny_pyIter_tupleiter st h
theorem xbr {P:Program} {w:World} {K:PySem.W.Frag} {tg:Expr} (it:Addr) (lo:Int) (n:Nat):Turn P w K tg (Itr lo n) [it] it (fun i h=>IsRangeIter h it (lo + (i:Nat) * 1) ((n:Int) - (i:Nat)) 1) where
 mem:=by simp
 obj:=fun i h st b hb=>by
  have e:b=it:=by simpa using hb
  subst e
  exact ⟨_,st,fun v z=>by
   have z':Data.fields _=Data.cell v:=z
   cases z'⟩
 keep:=fun i h h' st k=>k it (by simp) _ st
 item:=by
  intro X hP hw hK hc i pins s σ H E I hf st hg
  subst hP hw hK
  obtain ⟨f0,f1,f2,f3,f4,f5⟩:=hf it (by simp)
  have W:=Walks.range (prog:=X.prog) (w:=X.w) (I.ok.hd hc) it lo 1 n
  refine W.item i s _ _ hg st fun v h' tk hv st' kk=>?_
  obtain ⟨t,rfl⟩:=hv
  have I1:Inv X pins σ H { s with heap:=h',toks:=tk }:=I.turned (fun b o hb e=>kk b o (by simpa using hb) e) f0 f1 f3 f4 f5
  refine ⟨_,rfl,xbg (s:={ s with heap:=h',toks:=tk }) (n:="range_iterator") st' rfl rfl (by decide) ⟨.int (lo + i),H,I1,⟨t,?_⟩,⟨rfl,rfl⟩,st',fun b hb=>(hf b hb).1⟩⟩
  rw [Int.mul_one]
 done:=by
  intro X hP hw hK hc i pins s σ H E I hf st hg
  subst hP hw hK
  obtain ⟨f0,f1,f2,f3,f4,f5⟩:=hf it (by simp)
  exact wpAny_pyNext_range_end (I.ok.hd hc) st (by have:n≤i:=hg;omega) fun h' eb=>⟨rfl,I.turned (t':=s.toks) (fun b o hb e=>eb b o hb e) f0 f1 f3 f4 f5⟩
 self:=fun _ _ _ _ _ st h=>wpAny_pyIter_rangeiter st h
end L2
namespace L2
open PySem PySem.Spec PyProof.Rows
section
variable {X:Cx} {tg:Expr}
noncomputable def iList (K:PySem.W.Frag) (tl:TE):TI:=fun σ H R=>tl σ H fun x H1=>∃ a,x=.ref a∧(∃ xs,SqL K H1 a xs)∧R (Itl K a) H1
noncomputable def iTup (K:PySem.W.Frag) (tl:TE):TI:=fun σ H R=>tl σ H fun x H1=>∃ a,x=.ref a∧(∃ xs,SqT K H1 a xs)∧R (Itt K a) H1
theorem Za6 {l:Expr} {tl:TE} (hl:PE X l tl):PI X tg l (iList X.K tl):=by
 intro pins s σ H R I h
 refine thn (hl pins s σ H _ I h) fun v s1 ⟨x,H1,I1,r1,q1⟩=>?_
 obtain ⟨a,e,⟨xs,hq⟩,q⟩:=q1
 subst e
 cases r1
 obtain ⟨its,rv,p,hz⟩:=I1.list hq
 refine wpAny_pyIter_list p.isList ?_
 refine ⟨s1.heap.objs.size,[s1.heap.objs.size],_,_,H1,rfl,I1.kept (t':=s1.toks) fun b o e=>Heap.get?_push_of_some _ e,Zbx a _,⟨_,Heap.get?_push_size _ rfl,rfl,rfl⟩,fun b hb=>?_,q⟩
 have e:b=s1.heap.objs.size:=by simpa using hb
 subst e
 exact I1.fpOk (Nat.le_refl _) (I1.hok.fresh (Nat.le_refl _))
theorem ybc {l:Expr} {tl:TE} (hl:PE X l tl):PI X tg l (iTup X.K tl):=by
 intro pins s σ H R I h
 refine thn (hl pins s σ H _ I h) fun v s1 ⟨x,H1,I1,r1,q1⟩=>?_
 obtain ⟨a,e,⟨xs,hq⟩,q⟩:=q1
 subst e
 cases r1
 obtain ⟨its,rv,p,hz⟩:=I1.tuple hq
 refine wpAny_pyIter_tuple (show s1.heap.IsTuple a its.toArray from p) ?_
 refine ⟨s1.heap.objs.size,[s1.heap.objs.size],_,_,H1,rfl,I1.kept (t':=s1.toks) fun b o e=>Heap.get?_push_of_some _ e,Ybr a _,⟨_,Heap.get?_push_size _ rfl,rfl,rfl⟩,fun b hb=>?_,q⟩
 have e:b=s1.heap.objs.size:=by simpa using hb
 subst e
 exact I1.fpOk (Nat.le_refl _) (I1.hok.fresh (Nat.le_refl _))
theorem xbM {pins:List (Addr×Obj)} {σ:St} {H:Hp} {s:Shared} {R:It→Hp→Prop} {E:Value→Shared→Prop} {lo hi:Int} {t u v:Tok} {tk:Nat} (I:Inv X pins σ H s) (h1:-(2 ^ 62)≤lo) (h2:lo < 2 ^ 62) (h3:-(2 ^ 62)≤hi) (h4:hi < 2 ^ 62)
  (q:R (Itr lo (hi - lo).toNat) H):wpAny (model X.prog X.w) X.A (pyIter (.ref s.heap.objs.size)) (PIE X pins σ tg R) E { s with heap:=s.heap.push { cls:=.type "range",data:=.fields #[.int lo t,.int hi u,.int 1 v] },toks:=tk }:=by
 refine wpAny_pyIter_range (IsRange.new ..) (small_one h1 h2 h3 h4) ?_
 have I1:Inv X pins σ H { s with heap:=s.heap.push { cls:=.type "range",data:=.fields #[.int lo t,.int hi u,.int 1 v] },toks:=tk }:=I.kept fun b o e=>Heap.get?_push_of_some _ e
 refine ⟨(s.heap.push { cls:=.type "range",data:=.fields #[.int lo t,.int hi u,.int 1 v] }).objs.size,[(s.heap.push { cls:=.type "range",data:=.fields #[.int lo t,.int hi u,.int 1 v] }).objs.size],_,_,H,rfl,
  I1.kept (t':=tk) fun b o e=>Heap.get?_push_of_some _ e,xbr _ lo (hi - lo).toNat,?_,fun b hb=>?_,q⟩
 ·have e1:lo + ((0:Nat):Int) * 1=lo:=by simp
  have e2:(((hi - lo).toNat:Nat):Int) - ((0:Nat):Int)=Builtin.Range.rangeSize lo hi 1:=by rw [rangeSize_one];split <;> omega
  show IsRangeIter _ _ (lo + ((0:Nat):Int) * 1) ((((hi - lo).toNat:Nat):Int) - ((0:Nat):Int)) 1
  rw [e1,e2]
  exact Heap.get?_push_size _ rfl
 ·have e:b=(s.heap.push { cls:=.type "range",data:=.fields #[.int lo t,.int hi u,.int 1 v] }).objs.size:=by simpa using hb
  subst e
  exact I1.fpOk (Nat.le_refl _) (I1.hok.fresh (Nat.le_refl _))
noncomputable def iRng1 (ta:TA):TI:=fun σ H R=>ta σ H fun vs H1=>∃ j:Int,vs=[.int j]∧-(2 ^ 62)≤j∧j < 2 ^ 62∧R (Itr 0 j.toNat) H1
theorem Zam {a:Expr} {ta:TA} {p pos:Pos} (hg:Gl X "range") (hm:X.mg "range" = none) (ha:PA X [a] ta) (hs:starEach [a] X.env=[(false,eval a X.env)]:=by rfl):PI X tg (.Call (.Name "range" p) [a] [] pos) (iRng1 ta):=by
 intro pins s σ H R I h
 refine Call_ (ZaY I hg hm boot_range (PyProof.Rows.callWith_type1 (thn (ha pos pins s σ H _ I h) fun us s1 ⟨vs,H1,I1,r1,q1⟩=>?_) hs rfl))
 obtain ⟨j,e,q1,q2,q⟩:=q1
 subst e
 cases r1 with
 | cons r rr =>
  cases rr
  obtain ⟨t,rfl⟩:=r
  exact call_range_1 (xbM I1 (by omega) (by omega) q1 q2 (by simpa using q))
noncomputable def tFor (wi:TI) (g:TG) (tb:TS):TS:=fun D σ H=>wi σ H fun J H1=>∃ W:Nat→Nat→St→Hp→Prop,(∃ m,W 0 m σ H1)∧∀ i m σ H,W i m σ H →
 (J.stop i H∧D.nx σ H)∨(J.go i H∧∃ N:St→Hp→Prop,(∀ σ' H',N σ' H'→∃ m',m' < m∧W (i + 1) m' σ' H')∧∀ x H',J.yld i H x H'→g x σ H' fun σ2 H2=>tb { D with nx:=N,ct:=N,bk:=D.nx } σ2 H2)
noncomputable def pinsAt (fp:List Addr) (h:Heap):List (Addr×Obj):=fp.filterMap fun b=>(h.get? b).map fun o=>(b,o)
theorem YaM {fp:List Addr} {h:Heap} {b:Addr} {o:Obj} (hb:b∈fp) (e:h.get? b=some o):(b,o)∈pinsAt fp h:=List.mem_filterMap.mpr ⟨b,hb,by rw [e];rfl⟩
theorem Ybx {fp:List Addr} {h:Heap} {p:Addr×Obj} (hp:p∈pinsAt fp h):p.1∈fp∧h.get? p.1=some p.2:=by
 obtain ⟨b,hb,e⟩:=List.mem_filterMap.mp hp
 cases q:h.get? b with
 | none=>rw [q] at e;cases e
 | some o =>
  rw [q] at e
  have e':(b,o)=p:=Option.some.inj e
  subst e'
  exact ⟨hb,q⟩
theorem Inv.pinned {pins:List (Addr×Obj)} {σ:St} {H:Hp} {s:Shared} {fp:List Addr} (I:Inv X pins σ H s) (hf:∀ b∈fp,FpOk X pins H b) (ho:∀ b∈fp,∃ o,s.heap.get? b=some o∧∀ v,o.data≠.cell v):Inv X (pins ++ pinsAt fp s.heap) σ H s :=
 I.pins_of fun p hp=>(List.mem_append.mp hp).elim (fun z=>I.pin p (List.mem_append_right _ z)) fun z=>by
  obtain ⟨hb,e⟩:=Ybx z
  obtain ⟨f0,f1,f2,_⟩:=hf p.1 hb
  obtain ⟨o,e',d⟩:=ho p.1 hb
  rw [e] at e';cases e'
  exact ⟨e,f0,f1,f2,d⟩
theorem Inv.unpinned {pins pl:List (Addr×Obj)} {σ:St} {H:Hp} {s:Shared} (I:Inv X (pins ++ pl) σ H s):Inv X pins σ H s:=I.pins_of fun p hp=>I.pin p (List.mem_append_right _ (List.mem_append_left _ hp))
theorem Xas {iter:Expr} {body:List Stmt} {wi:TI} {g:TG} {tb:TS} {pos:Pos} (hp:PassesOwn (model X.prog X.w) X.A X.env X.xe) (hc:X.calm=true) (hi:PI X tg iter wi) (hg:PG X tg g) (hb:PSs X body tb)
  (hs:∀ x,foldedSetIterable iter X.env x=pure x:=by intro _;rfl):PS X (.For tg iter body [] pos) (tFor wi g tb):=by
 intro pins s σ H D I h
 refine wpAny_For (thn (hi pins s σ H _ I h) fun v s1 h1=>thn h1 fun itv s2 h2=>?_) hs
 obtain ⟨it,fp,tn,J,H2,e,I2,T,st2,f2,W,⟨m0,w0⟩,turn⟩:=h2
 subst e
 have stat:∀ {H':Hp},(∀ b∈fp,H' b=none)→∀ b∈fp,FpOk X pins H' b:=fun hn b hb=>⟨hn b hb,(f2 b hb).2⟩
 refine codeAny_forLoop_any (fun n s'=>∃ i σ' H',Inv X pins σ' H' s'∧tn i s'.heap∧(∀ b∈fp,H' b=none)∧W i n σ' H') ?_ m0 ⟨0,σ,H2,I2,st2,fun b hb=>(f2 b hb).1,w0⟩
 rintro n s3 ⟨i,σ3,H3,I3,st3,fr3,w3⟩
 rcases turn i n σ3 H3 w3 with ⟨stop,qn⟩ | ⟨go,N,hN,step⟩
 ·refine wpAny_passesOwn hp (thn (T.done X rfl rfl rfl hc i pins s3 σ3 H3 X.xe I3 (stat fr3) st3 stop) fun r s4 ⟨hr,I4⟩=>?_)
  subst hr
  exact wpAny_execs_nil ⟨σ3,H3,I4,qn⟩
 ·refine wpAny_passesOwn hp (thn (T.item X rfl rfl rfl hc i pins s3 σ3 H3 X.xe I3 (stat fr3) st3 go) fun r s4 ⟨u,hr,h4⟩=>?_)
  subst hr
  refine wpAny_passesOwn hp (thn h4 fun _ s5 ⟨x,H5,I5,r5,y5,st5,fr5⟩=>?_)
  have I5':=I5.pinned (stat fr5) (T.obj _ _ st5)
  refine wpAny_passesOwn hp (thn (hg _ s5 σ3 H5 x u _ I5' r5 (step x H5 y5)) fun _ s6 ⟨σ6,H6,I6,q6⟩=>?_)
  refine wpAny_passesOwn hp (thn (hb _ s6 σ6 H6 _ I6 q6) fun f s7 q7=>?_)
  have again:∀ {σ7:St} {H7:Hp},Inv X (pins ++ pinsAt fp s5.heap) σ7 H7 s7→N σ7 H7→∃ m,m < n∧∃ i σ' H',Inv X pins σ' H' s7∧tn i s7.heap∧(∀ b∈fp,H' b=none)∧W i m σ' H':=fun {σ7 H7} I7 n7=>by
   obtain ⟨m',hm,w7⟩:=hN σ7 H7 n7
   refine ⟨m',hm,i + 1,σ7,H7,I7.unpinned,T.keep _ _ _ st5 fun b hb o e=>(I7.pin (b,o) (List.mem_append_right _ (List.mem_append_right _ (YaM hb e)))).1,fun b hb=>?_,w7⟩
   obtain ⟨o,e,d⟩:=T.obj _ _ st5 b hb
   exact (I7.pin (b,o) (List.mem_append_right _ (List.mem_append_right _ (YaM hb e)))).2.1
  cases f with
  | next=>obtain ⟨σ7,H7,I7,n7⟩:=q7;exact again I7 n7
  | cont=>obtain ⟨σ7,H7,I7,n7⟩:=q7;exact again I7 n7
  | brk=>obtain ⟨σ7,H7,I7,q7⟩:=q7;exact ⟨σ7,H7,I7.unpinned,q7⟩
  | ret v=>obtain ⟨x7,σ7,H7,I7,r7,q7⟩:=q7;exact ⟨x7,σ7,H7,I7.unpinned,r7,q7⟩
end
end L2
namespace L2
open PySem PySem.Spec PyProof.Rows
abbrev R2:=V→V→Hp→VK→Prop
noncomputable def OpR (X:Cx) (f:Value→Value→Sem Value) (r:R2):Prop :=
 ∀ (pins:List (Addr×Obj)) (s:Shared) (σ:St) (H:Hp) (x y:V) (v u:Value) (Q:VK),Inv X pins σ H s→RelV x v→RelV y u→r x y H Q →
  wpAny (model X.prog X.w) X.A (f v u) (EP X pins σ Q) X.xe s
noncomputable def UnR (X:Cx) (f:Value→Sem Value) (r:V→Hp→VK→Prop):Prop :=
 ∀ (pins:List (Addr×Obj)) (s:Shared) (σ:St) (H:Hp) (x:V) (v:Value) (Q:VK),Inv X pins σ H s→RelV x v→r x H Q →
  wpAny (model X.prog X.w) X.A (f v) (EP X pins σ Q) X.xe s
noncomputable def CallR (X:Cx) (f:Value) (r:List V→Hp→VK→Prop):Prop :=
 ∀ (pins:List (Addr×Obj)) (s:Shared) (σ:St) (H:Hp) (xs:List V) (us:List Value) (Q:VK),Inv X pins σ H s→Vals xs us→r xs H Q →
  wpAny (model X.prog X.w) X.A (call f us) (EP X pins σ Q) X.xe s
noncomputable def tOp (r:R2) (ta tb:TE):TE:=fun σ H Q=>ta σ H fun x H1=>tb σ H1 fun y H2=>r x y H2 Q
noncomputable def tUn (r:V→Hp→VK→Prop) (ta:TE):TE:=fun σ H Q=>ta σ H fun x H1=>r x H1 Q
noncomputable def rI (C:Int→Int→Prop) (g:Int→Int→V):R2:=fun x y H Q=>∃ i j,x=.int i∧y=.int j∧C i j∧Q (g i j) H
noncomputable def rI0 (g:Int→Int→V):R2:=fun x y H Q=>∃ i j,x=.int i∧y=.int j∧Q (g i j) H
noncomputable def rU (g:Int→V):V→Hp→VK→Prop:=fun x H Q=>∃ i,x=.int i∧Q (g i) H
section
variable {X:Cx} {a b c:Expr} {ta tb tc:TE} {pos:Pos}
theorem binT (ha:PE X a ta) (hb:PE X b tb) {pins:List (Addr×Obj)} {s:Shared} {σ:St} {H:Hp} {R:V→V→Hp→Prop} (I:Inv X pins σ H s)
  (h:ta σ H fun x H1=>tb σ H1 fun y H2=>R x y H2) {Q:Value→Shared→Prop} {f:Value→Value→Sem Value}
  (hf:∀ v u s2 x y H2,Inv X pins σ H2 s2→RelV x v→RelV y u→R x y H2→wpAny (model X.prog X.w) X.A (f v u) Q X.xe s2) :
  wpAny (model X.prog X.w) X.A (eval a X.env) (fun v s₁=>wpAny (model X.prog X.w) X.A (eval b X.env) (fun u s₂=>wpAny (model X.prog X.w) X.A (f v u) Q X.xe s₂) X.xe s₁) X.xe s:=by
 refine thn (ha pins s σ H _ I h) fun v s1 ⟨x,H1,I1,r1,q1⟩=>?_
 refine thn (hb pins s1 σ H1 _ I1 q1) fun u s2 ⟨y,H2,I2,r2,q2⟩=>?_
 exact hf v u s2 x y H2 I2 r1 r2 q2
theorem Yaf {op:Operator} {r:R2} (ho:OpR X (binaryOp op) r) (ha:PE X a ta) (hb:PE X b tb):PE X (.BinOp a op b pos) (tOp r ta tb):=by
 intro pins s σ H Q I h
 exact wpAny_BinOp (binT ha hb I h fun v u s2 x y H2 I2 rx ry q=>ho pins s2 σ H2 x y v u Q I2 rx ry q)
theorem pe_un {op:UnaryOp} {r:V→Hp→VK→Prop} (ho:UnR X (unaryOp op) r) (ha:PE X a ta):PE X (.UnaryOp op a pos) (tUn r ta):=by
 intro pins s σ H Q I h
 exact UnaryOp_ (thn (ha pins s σ H _ I h) fun v s1 ⟨x,H1,I1,r1,q1⟩=>ho pins s1 σ H1 x v Q I1 r1 q1)
theorem opI {f:Value→Value→Sem Value} {C:Int→Int→Prop} {g:Int→Int→Int}
  (rule:∀ (i j:Int) (t u:Tok) (s:Shared) (Q:Value→Shared→Prop) (E:Value→Shared→Prop),C i j→Q (.int (g i j) s.toks) { s with toks:=s.toks + 1 }→wpAny (model X.prog X.w) X.A (f (.int i t) (.int j u)) Q E s) :
  OpR X f (rI C fun i j=>.int (g i j)):=by
 intro pins s σ H x y v u Q I rx ry h
 obtain ⟨i,j,rfl,rfl,hc,q⟩:=h
 obtain ⟨t,rfl⟩:=rx
 obtain ⟨t',rfl⟩:=ry
 exact rule i j t t' s _ _ hc ⟨.int (g i j),H,I.tok _,⟨_,rfl⟩,q⟩
theorem opI0 {f:Value→Value→Sem Value} {g:Int→Int→Int}
  (rule:∀ (i j:Int) (t u:Tok) (s:Shared) (Q:Value→Shared→Prop) (E:Value→Shared→Prop),Q (.int (g i j) s.toks) { s with toks:=s.toks + 1 }→wpAny (model X.prog X.w) X.A (f (.int i t) (.int j u)) Q E s) :
  OpR X f (rI0 fun i j=>.int (g i j)):=by
 intro pins s σ H x y v u Q I rx ry h
 obtain ⟨i,j,rfl,rfl,q⟩:=h
 obtain ⟨t,rfl⟩:=rx
 obtain ⟨t',rfl⟩:=ry
 exact rule i j t t' s _ _ ⟨.int (g i j),H,I.tok _,⟨_,rfl⟩,q⟩
theorem opB0 {f:Value→Value→Sem Value} {g:Int→Int→Bool}
  (rule:∀ (i j:Int) (t u:Tok) (s:Shared) (Q:Value→Shared→Prop) (E:Value→Shared→Prop),Q (.bool (g i j)) s→wpAny (model X.prog X.w) X.A (f (.int i t) (.int j u)) Q E s) :
  OpR X f (rI0 fun i j=>.bl (g i j)):=by
 intro pins s σ H x y v u Q I rx ry h
 obtain ⟨i,j,rfl,rfl,q⟩:=h
 obtain ⟨t,rfl⟩:=rx
 obtain ⟨t',rfl⟩:=ry
 exact rule i j t t' s _ _ ⟨.bl (g i j),H,I,rfl,q⟩
noncomputable def CDiv (i j:Int):Prop:=0 < j∧j < 1073741824
noncomputable def CPow (i j:Int):Prop:=0≤j∧j≤1000000∧i.natAbs < 2 ^ 64
noncomputable def CMul (i j:Int):Prop:=(-(2 ^ 64) < i∧i < 2 ^ 64)∨(-(2 ^ 64) < j∧j < 2 ^ 64)
theorem CMul.ok {i j:Int} (h:CMul i j):IntMulOk i j:=by
 rcases h with ⟨h1,h2⟩ | ⟨h1,h2⟩
 ·exact .of_left (intBits_le_64 h1 h2)
 ·exact .of_right (intBits_le_64 h1 h2)
theorem Xak:OpR X (binaryOp .Add) (rI0 fun i j=>.int (i + j)):=opI0 fun _ _ _ _ _ _ _ q=>add_int q
theorem YaY:OpR X (binaryOp .Sub) (rI0 fun i j=>.int (i - j)):=opI0 fun _ _ _ _ _ _ _ q=>sub_int q
theorem XaA:OpR X (binaryOp .Mult) (rI CMul fun i j=>.int (i * j)):=opI fun _ _ _ _ _ _ _ hc q=>mul_int q hc.ok
theorem Xbg:OpR X (binaryOp .FloorDiv) (rI CDiv fun i j=>.int (i / j)):=opI fun i j _ _ _ _ _ hc q=>by
 have h1:(0:Int) < j:=hc.1
 have h2:j < 1073741824:=hc.2
 exact floordiv_int (by omega) (by rw [Int.fdiv_eq_ediv_of_nonneg i (by omega)];exact q) (.inl (PyProof.noPylong_small (by omega)))
theorem zaQ:OpR X (binaryOp .Mod) (rI (fun _ j=>0 < j) fun i j=>.int (i % j)):=opI fun i j _ _ _ _ _ hc q=>by
 have h1:(0:Int) < j:=hc
 exact mod_int' (by omega) (by rw [Int.fmod_eq_emod_of_nonneg i (by omega)];exact q)
theorem YbV:OpR X (binaryOp .Pow) (rI CPow fun i j=>.int (i ^ j.toNat)):=opI fun _ _ _ _ _ _ _ hc q=>pow_int_small hc.1 hc.2.1 hc.2.2 q
theorem unI {f:Value→Sem Value} {g:Int→Int}
  (rule:∀ (i:Int) (t:Tok) (s:Shared) (Q:Value→Shared→Prop) (E:Value→Shared→Prop),Q (.int (g i) s.toks) { s with toks:=s.toks + 1 }→wpAny (model X.prog X.w) X.A (f (.int i t)) Q E s) :
  UnR X f (rU fun i=>.int (g i)):=by
 intro pins s σ H x v Q I rx h
 obtain ⟨i,rfl,q⟩:=h
 obtain ⟨t,rfl⟩:=rx
 exact rule i t s _ _ ⟨.int (g i),H,I.tok _,⟨_,rfl⟩,q⟩
theorem xbV:UnR X (unaryOp .USub) (rU fun i=>.int (-i)):=unI fun _ _ _ _ _ q=>neg_int q
end
noncomputable def scal:V→V→Bool
 | .non,.non=>true | .non,.int _=>true | .int _,.non=>true | .non,.bl _=>true | .bl _,.non=>true | .non,.str _=>true | .str _,.non=>true
 | .int _,.int _=>true | .bl _,.bl _=>true | .str _,.str _=>true | .byt _,.byt _=>true
 | .int _,.str _=>true | .str _,.int _=>true | .bl _,.str _=>true | .str _,.bl _=>true
 | _,_=>false
noncomputable def rEq:R2:=fun x y H Q=>scal x y=true∧Q (.bl (decide (x=y))) H
noncomputable def rNe:R2:=fun x y H Q=>scal x y=true∧Q (.bl (!decide (x=y))) H
theorem xbx {i j:Int}:decide (V.int i=V.int j)=(i == j):=by
 rw [Bool.eq_iff_iff]
 simp
theorem XbV {i j:Bool}:decide (V.bl i=V.bl j)=(i == j):=by
 rw [Bool.eq_iff_iff]
 simp
theorem Xbx {i j:Str}:decide (V.str i=V.str j)=(i == j):=by
 rw [Bool.eq_iff_iff]
 simp
theorem zby {i j:Array UInt8}:decide (V.byt i=V.byt j)=(i.toList == j.toList):=by
 rw [Bool.eq_iff_iff]
 cases i
 cases j
 simp
section
variable {X:Cx} {a b c:Expr} {ta tb tc:TE} {pos:Pos}
theorem Yaj {pins:List (Addr×Obj)} {σ:St} {H:Hp} {s:Shared} {Q:VK} {k k':Bool} (I:Inv X pins σ H s) (q:Q (.bl k) H) (e:k=k'):EP X pins σ Q (.bool k') s:=by
 subst e
 exact ⟨.bl k,H,I,rfl,q⟩
theorem yaW:OpR X (compareOp .Eq) rEq:=by
 intro pins s σ H x y v u Q I rx ry h
 obtain ⟨hs,q⟩:=h
 cases x with
 | non =>
  cases rx
  cases y with
  | non=>cases ry;exact PySem.EqNone.eq_none_none (Yaj I q (by simp))
  | bl j=>cases ry;exact PySem.EqNone.eq_none_bool (Yaj I q (by simp))
  | int j=>obtain ⟨t',rfl⟩:=ry;exact PySem.EqNone.eq_none_int (Yaj I q (by simp))
  | str j=>obtain ⟨t',rfl⟩:=ry;exact PySem.EqNone.eq_none_str (Yaj I q (by simp))
  | _=>exact absurd (show false=true from hs) Bool.false_ne_true
 | bl i =>
  cases rx
  cases y with
  | non=>cases ry;exact PySem.EqNone.eq_bool_none (Yaj I q (by simp))
  | bl j=>cases ry;exact eq_bool (Yaj I q XbV)
  | str j=>obtain ⟨t',rfl⟩:=ry;exact PySem.EqMixed.eq_bool_str (Yaj I q (by simp))
  | _=>exact absurd (show false=true from hs) Bool.false_ne_true
 | int i =>
  obtain ⟨t,rfl⟩:=rx
  cases y with
  | non=>cases ry;exact PySem.EqNone.eq_int_none (Yaj I q (by simp))
  | int j=>obtain ⟨t',rfl⟩:=ry;exact eq_int (Yaj I q xbx)
  | str j=>obtain ⟨t',rfl⟩:=ry;exact PySem.EqMixed.eq_int_str (Yaj I q (by simp))
  | _=>exact absurd (show false=true from hs) Bool.false_ne_true
 | str i =>
  obtain ⟨t,rfl⟩:=rx
  cases y with
  | non=>cases ry;exact PySem.EqNone.eq_str_none (Yaj I q (by simp))
  | bl j=>cases ry;exact PySem.EqMixed.eq_str_bool (Yaj I q (by simp))
  | int j=>obtain ⟨t',rfl⟩:=ry;exact PySem.EqMixed.eq_str_int (Yaj I q (by simp))
  | str j=>obtain ⟨t',rfl⟩:=ry;exact eq_str (Yaj I q Xbx)
  | _=>exact absurd (show false=true from hs) Bool.false_ne_true
 | byt i =>
  obtain ⟨t,rfl⟩:=rx
  cases y with
  | byt j=>obtain ⟨t',rfl⟩:=ry;exact PySem.W.eq_bytes (Yaj I q zby)
  | _=>exact absurd (show false=true from hs) Bool.false_ne_true
 | _=>cases y <;> exact absurd (show false=true from hs) Bool.false_ne_true
theorem Xbr:OpR X (compareOp .NotEq) rNe:=by
 intro pins s σ H x y v u Q I rx ry h
 obtain ⟨hs,q⟩:=h
 cases x with
 | non =>
  cases rx
  cases y with
  | non=>cases ry;exact PySem.EqNone.ne_none_none (Yaj I q (by simp))
  | bl j=>cases ry;exact PySem.EqNone.ne_none_bool (Yaj I q (by simp))
  | int j=>obtain ⟨t',rfl⟩:=ry;exact PySem.EqNone.ne_none_int (Yaj I q (by simp))
  | str j=>obtain ⟨t',rfl⟩:=ry;exact PySem.EqNone.ne_none_str (Yaj I q (by simp))
  | _=>exact absurd (show false=true from hs) Bool.false_ne_true
 | bl i =>
  cases rx
  cases y with
  | non=>cases ry;exact PySem.EqNone.ne_bool_none (Yaj I q (by simp))
  | bl j=>cases ry;exact ne_bool (Yaj I q (congrArg not XbV))
  | str j=>obtain ⟨t',rfl⟩:=ry;exact PySem.EqMixed.ne_bool_str (Yaj I q (by simp))
  | _=>exact absurd (show false=true from hs) Bool.false_ne_true
 | int i =>
  obtain ⟨t,rfl⟩:=rx
  cases y with
  | non=>cases ry;exact PySem.EqNone.ne_int_none (Yaj I q (by simp))
  | int j=>obtain ⟨t',rfl⟩:=ry;exact ne_int (Yaj I q (congrArg not xbx))
  | str j=>obtain ⟨t',rfl⟩:=ry;exact PySem.EqMixed.ne_int_str (Yaj I q (by simp))
  | _=>exact absurd (show false=true from hs) Bool.false_ne_true
 | str i =>
  obtain ⟨t,rfl⟩:=rx
  cases y with
  | non=>cases ry;exact PySem.EqNone.ne_str_none (Yaj I q (by simp))
  | bl j=>cases ry;exact PySem.EqMixed.ne_str_bool (Yaj I q (by simp))
  | int j=>obtain ⟨t',rfl⟩:=ry;exact PySem.EqMixed.ne_str_int (Yaj I q (by simp))
  | str j=>obtain ⟨t',rfl⟩:=ry;exact ne_str (Yaj I q (congrArg not Xbx))
  | _=>exact absurd (show false=true from hs) Bool.false_ne_true
 | byt i =>
  obtain ⟨t,rfl⟩:=rx
  cases y with
  | byt j=>obtain ⟨t',rfl⟩:=ry;exact PySem.W.ne_bytes (Yaj I q (congrArg not zby))
  | _=>exact absurd (show false=true from hs) Bool.false_ne_true
 | _=>cases y <;> exact absurd (show false=true from hs) Bool.false_ne_true
theorem op_lt:OpR X (compareOp .Lt) (rI0 fun i j=>.bl (decide (i < j))):=opB0 fun _ _ _ _ _ _ _ q=>lt_int q
theorem op_gt:OpR X (compareOp .Gt) (rI0 fun i j=>.bl (decide (j < i))):=opB0 fun _ _ _ _ _ _ _ q=>gt_int q
theorem op_ge:OpR X (compareOp .GtE) (rI0 fun i j=>.bl (decide (j≤i))):=opB0 fun _ _ _ _ _ _ _ q=>ge_int q
theorem Zbc:OpR X (compareOp .In) (fun x y H Q=>∃ i j,x=.str i∧y=.str j∧Q (.bl (!(Builtin.Str.occurrences j i 0 j.length 1).isEmpty)) H):=by
 intro pins s σ H x y v u Q I rx ry h
 obtain ⟨i,j,rfl,rfl,q⟩:=h
 obtain ⟨t,rfl⟩:=rx
 obtain ⟨t',rfl⟩:=ry
 exact in_str (Yaj I q rfl)
theorem nomark (b:Expr) {op:CmpOp} (h:op≠.In:=by decide) (h2:op≠.NotIn:=by decide):behindInMarks op b=false:=by
 have e1:(op == CmpOp.In)=false:=by cases op <;> first | rfl | exact absurd rfl h
 have e2:(op == CmpOp.NotIn)=false:=by cases op <;> first | rfl | exact absurd rfl h2
 cases b <;> simp [behindInMarks,e1,e2]
theorem zaT {op:CmpOp} {r:R2} (ho:OpR X (compareOp op) r) (ha:PE X a ta) (hb:PE X b tb) (hm:behindInMarks op b=false):PE X (.Compare a [op] [b] pos) (tOp r ta tb):=by
 intro pins s σ H Q I h
 exact wpAny_Compare1 (binT ha hb I h fun v u s2 x y H2 I2 rx ry q=>ho pins s2 σ H2 x y v u Q I2 rx ry q) hm
noncomputable def tTest (t:TE):TT:=fun σ H Q=>t σ H fun x H'=>∃ k,x=.bl k∧Q k H'
theorem Yai {op:CmpOp} {r:R2} (ho:OpR X (compareOp op) r) (ha:PE X a ta) (hb:PE X b tb) (hm:behindInMarks op b=false):PT X (.Compare a [op] [b] pos) (tTest (tOp r ta tb)):=by
 intro pins s σ H Q I h
 refine wpAny_isTrue_Compare1 (thn (ha pins s σ H _ I h) fun v s1 ⟨x,H1,I1,r1,q1⟩=>thn (hb pins s1 σ H1 _ I1 q1) fun u s2 ⟨y,H2,I2,r2,q2⟩ =>
  thn (ho pins s2 σ H2 x y v u _ I2 r1 r2 q2) fun c s3 ⟨z,H3,I3,r3,k,e,q3⟩=>?_) hm
 subst e
 cases r3
 exact wpAny_truthy_bool ⟨H3,I3,q3⟩
theorem line63:(sizeLine:Nat) < 2 ^ 63:=by rw [sizeLine_eq];decide
theorem vals1 {x:V} {us:List Value} (r:Vals [x] us):∃ u,us=[u]∧RelV x u:=by
 cases r with
 | cons r1 r2=>cases r2;exact ⟨_,rfl,r1⟩
theorem vals2 {x y:V} {us:List Value} (r:Vals [x,y] us):∃ u w',us=[u,w']∧RelV x u∧RelV y w':=by
 cases r with
 | cons r1 r2 =>
  cases r2 with
  | cons r3 r4=>cases r4;exact ⟨_,_,rfl,r1,r3⟩
theorem yby (hc:X.calm=true):CallR X (.builtin "max") (fun xs H Q=>∃ i j,xs=[.int i,.int j]∧Q (.int (if j > i then j else i)) H):=by
 intro pins s σ H xs us Q I r h
 obtain ⟨i,j,rfl,q⟩:=h
 obtain ⟨u,w',rfl,⟨t,rfl⟩,⟨t',rfl⟩⟩:=vals2 r
 refine max_two_ints (I.ok.hd hc) fun h' tk k=>⟨_,H,I.kept k,?_,q⟩
 by_cases hj:j > i
 ·rw [if_pos hj,if_pos hj];exact ⟨_,rfl⟩
 ·rw [if_neg hj,if_neg hj];exact ⟨_,rfl⟩
theorem Zby (hc:X.calm=true):CallR X (.builtin "min") (fun xs H Q=>∃ i j,xs=[.int i,.int j]∧Q (.int (if j < i then j else i)) H):=by
 intro pins s σ H xs us Q I r h
 obtain ⟨i,j,rfl,q⟩:=h
 obtain ⟨u,w',rfl,⟨t,rfl⟩,⟨t',rfl⟩⟩:=vals2 r
 refine min_two_ints (I.ok.hd hc) fun h' tk k=>⟨_,H,I.kept k,?_,q⟩
 by_cases hj:j < i
 ·rw [if_pos hj,if_pos hj];exact ⟨_,rfl⟩
 ·rw [if_neg hj,if_neg hj];exact ⟨_,rfl⟩
theorem Ybc:CallR X (.type "int") (fun xs H Q=>(∃ i,xs=[.int i]∧Q (.int i) H)∨∃ k,xs=[.bl k]∧Q (.int (if k then 1 else 0)) H):=by
 intro pins s σ H xs us Q I r h
 rcases h with ⟨i,rfl,q⟩ | ⟨k,rfl,q⟩
 ·obtain ⟨u,rfl,t,rfl⟩:=vals1 r
  exact call_int_int ⟨.int i,H,I,⟨_,rfl⟩,q⟩
 ·obtain ⟨u,rfl,r1⟩:=vals1 r
  cases r1
  exact call_int_bool ⟨.int (if k then 1 else 0),H,I.tok _,⟨_,rfl⟩,q⟩
end
end L2
namespace L2
open PySem PySem.Spec PyProof.Rows
section
variable {prog:Program} {w:World} {A:Around} {E:Value→Shared→Prop} {s:Shared} {K:PySem.W.Frag} {x dx C f:Addr} {mA:Str→Option Value} {name:Str} {v:Value}
end
theorem RelO.some_of {v:V} {o:Option Value} (r:RelO (some v) o):∃ u,o=some u∧RelV v u:=by
 cases o with
 | none=>exact (show False from r).elim
 | some u=>exact ⟨u,rfl,r⟩
section
variable {P:Program} {w:World} {H H':Hp} {h h':Heap} {a C dx:Addr} {fs fs':List (Str×V)}
end
structure Cls (K:PySem.W.Frag) (C:Addr):Prop where
 pg:PySem.W.plainGet K C Str.empty=true
 hd:PySem.W.hasDictIn K C=true
 po:PySem.W.plainOver K C=true
 sa:PySem.W.findIn K (.ref C) "__setattr__" = some (some (.builtin "object.__setattr__"))
section
variable {X:Cx} {pins:List (Addr×Obj)} {σ:St} {H:Hp} {s:Shared} {a C dx:Addr} {fs:List (Str×V)} {f:Str} {v:V} {A:Around} {E:Value→Shared→Prop}
end
section
variable {X:Cx} {o e value:Expr} {f:Str} {pos pos' tpos:Pos} {ta tv:TE}
end
section
variable {X:Cx} {pins:List (Addr×Obj)} {σ:St} {H:Hp} {s:Shared} {A:Around} {E:Value→Shared→Prop} {Q:Value→Shared→Prop} {c:Value} {b:Bool}
inductive TyOf (K:PySem.W.Frag) (H:Hp):V→Value→Prop where
 | non:TyOf K H .non (.type "NoneType")
 | bl (x:Bool):TyOf K H (.bl x) (.type "bool")
 | int (i:Int):TyOf K H (.int i) (.type "int")
 | str (x:Str):TyOf K H (.str x) (.type "str")
 | flt (x:UInt64):TyOf K H (.flt x) (.type "float")
 | lst {a:Addr} {xs:List V} (e:H a=some (.lst xs)):TyOf K H (.ref a) (.type "list")
 | frz {a:Addr} {o:Obj} {xs:List V} (e:H a=some (.frz o (.lst xs))):TyOf K H (.ref a) (.type "list")
 | tup {a:Addr} {xs:List V} (e:H a=some (.tup xs)):TyOf K H (.ref a) (.type "tuple")
 | dK {a:Addr} {kvs:List (Key×V)} (e:H a=some (.dK kvs)):TyOf K H (.ref a) (.type "dict")
 | dT {a:Addr} {kvs:List (List Key×V)} (e:H a=some (.dT kvs)):TyOf K H (.ref a) (.type "dict")
 | ins {a C dx:Addr} {fs:List (Str×V)} (e:H a=some (.ins C dx fs)) (cl:Cls K C) (ha:PySem.W.findIn K (.ref C) "__class__" = some (some (.builtin "object.__class__")))
   (hn:PySem.W.specialIn K (.builtin "object.__class__") "__get__" = some (some (.builtin "getset_descriptor.__get__"))) (htk:PySem.W.takesIn K (.builtin "object.__class__")=some true)
   (hm:PySem.W.mroIn K C (.type "object")=some true):TyOf K H (.ref a) (.ref C)
end
end L2
namespace L2
open PySem PySem.Spec PyProof.Rows
structure Room (k:Nat) (A:Around):Prop where
 hd:A.handled=none
 dp:A.depth + 3 * k + 5 < recursionLimit
 un:A.units + 16 * k + 200 < cLine
 gd:A.guards=some []
theorem Room.mono {j k:Nat} {A:Around} (r:Room k A) (h:j≤k):Room j A:=⟨r.hd,by have:=r.dp;omega,by have:=r.un;omega,r.gd⟩
theorem Room.deeper {k:Nat} {A:Around} (r:Room (k + 1) A) (env:Env):Room k (A.deeper env) :=
 ⟨r.hd,by have:=r.dp;show A.depth + 1 + 3 * k + 5 < _;omega,by have:=r.un;show A.units + 3 + 16 * k + 200 < _;omega,r.gd⟩
theorem Room.depth {k:Nat} {A:Around} (r:Room k A):A.depth < recursionLimit:=by have:=r.dp;omega
theorem Room.units {k:Nat} {A:Around} (r:Room k A):A.units + 64 < cLine:=by have:=r.un;omega
noncomputable def tNil:TA:=fun _ H Q=>Q [] H
noncomputable def tCons (ta:TE) (tr:TA):TA:=fun σ H Q=>ta σ H fun x H1=>tr σ H1 fun xs H2=>Q (x :: xs) H2
section
variable {X:Cx} {e:Expr} {es:List Expr} {te:TE} {t:TA} {pos:Pos}
theorem xaa:PA X [] tNil:=fun _ _ _ _ H Q I h=>Calls.spliced_nil ⟨[],H,I,.nil,h⟩
theorem zaa (ha:PE X e te) (hr:PA X es t) (hs:starEach (e :: es) X.env=(false,eval e X.env) :: starEach es X.env:=by rfl):PA X (e :: es) (tCons te t):=by
 intro pos pins s σ H Q I h
 rw [hs]
 show wpAny _ _ (spliced ((false,eval e X.env) :: backTo pos (starEach es X.env))) _ _ s
 refine Calls.spliced_cons (thn (ha pins s σ H _ I h) fun u s1 ⟨x,H1,I1,r1,q1⟩=>?_)
 exact thn (hr pos pins s1 σ H1 _ I1 q1) fun us s2 ⟨xs,H2,I2,r2,q2⟩=>⟨x :: xs,H2,I2,.cons r1 r2,q2⟩
noncomputable def tTup (t:TA):TE:=fun σ H Q=>t σ H fun xs H1=>xs.length≤sizeLine∧∀ p,H1 p=none→Q (.ref p) (upd H1 p (.tup xs))
noncomputable def tLst (t:TA):TE:=fun σ H Q=>t σ H fun xs H1=>xs.length≤sizeLine∧∀ p,H1 p=none→Q (.ref p) (upd H1 p (.lst xs))
theorem XaC {x1} (h:PA X es t):PE X (.Tuple es x1 pos) (tTup t):=by
 intro pins s σ H Q I hq
 refine wpAny_Tuple_spliced (thn (h pos pins s σ H _ I hq) fun us s1 ⟨xs,H1,I1,r,z,q⟩=>⟨by rw [← r.length];exact z,?_⟩)
 have hf:H1 s1.heap.objs.size=none:=I1.hok.fresh (Nat.le_refl _)
 refine ⟨.ref s1.heap.objs.size,upd H1 s1.heap.objs.size (.tup xs),I1.laid (t':=s1.toks) (fun b u e=>Heap.get?_push_of_some _ e) (Nat.le_refl _) ?_,rfl,q _ hf⟩
 exact ⟨z,us,r,⟨_,Heap.get?_push_size _ rfl,rfl,rfl,_,rfl⟩⟩
theorem Yas (h:PA X es t):PE X (.List es pos) (tLst t):=by
 intro pins s σ H Q I hq
 refine wpAny_List_spliced (thn (h pos pins s σ H _ I hq) fun us s1 ⟨xs,H1,I1,r,z,q⟩=>⟨by rw [← r.length];exact z,?_⟩)
 have hf:H1 s1.heap.objs.size=none:=I1.hok.fresh (Nat.le_refl _)
 refine ⟨.ref s1.heap.objs.size,upd H1 s1.heap.objs.size (.lst xs),I1.laid (t':=s1.toks) (fun b u e=>Heap.get?_push_of_some _ e) (Nat.le_refl _) ?_,rfl,q _ hf⟩
 exact ⟨z,us,0,r,Heap.get?_push_size _ rfl⟩
end
abbrev Sp:=List V→Hp→VK→XK→Prop
abbrev CXT:=List Env→Hp→Shared→XK→Value→Shared→Prop
structure Env0 (P:Program) (w:World) (K:PySem.W.Frag) (mg:Str→Option Value) (base:Heap) (A:Around) (outer:List Env) (s:Shared) (H:Hp):Prop where
 frames:A.frames=some outer
 mod:Mod K mg base
 bs:∀ b o,base.get? b=some o→s.heap.get? b=some o∧H b=none
 bsz:base.objs.size≤s.heap.objs.size
 funs:s.heap.FunFrames base outer
 frf:∀ b∈frs outer,H b=none
 hok:HOk P w H s.heap
 bare:AllBare s.gens
noncomputable def CE (outer:List Env) (P:Program) (w:World) (H:Hp) (s:Shared) (Q:VK) (u:Value) (s':Shared):Prop :=
 ∃ v H',s'.os=s.os∧AllBare s'.gens∧Un (frs outer) [] H H' s.heap s'.heap∧HOk P w H' s'.heap∧RelV v u∧Q v H'
noncomputable def CR (CX:CXT) (outer:List Env) (P:Program) (w:World) (H:Hp) (s:Shared) (Q:VK) (E:XK) (r:Result) (s':Shared):Prop :=
 match r with
 | .ok (.ret u)=>CE outer P w H s Q u s'
 | .ok _=>False
 | .error e=>CX outer H s E e s'
structure FnOk (P:Program) (w:World) (K:PySem.W.Frag) (mg:Str→Option Value) (base:Heap) (CX:CXT) (k:Nat) (f:Addr) (fd:FuncData) (ps:List Str) (sp:Sp):Prop where
 len:∀ vs H Q E,sp vs H Q E→vs.length=ps.length
 run:∀ (A:Around) (outer:List Env) (s:Shared) (H:Hp) (args:Args) (us:List Value) (vs:List V) (Q:VK) (E:XK),Room k A→Env0 P w K mg base A outer s H→BindsTo s fd args (ps.zip us)→Vals vs us→sp vs H Q E →
  codeAny (model P w) A (.call (.ref f) args) (CR CX outer P w H s Q E) s
theorem FnOk.imp {P:Program} {w:World} {K:PySem.W.Frag} {mg:Str→Option Value} {base:Heap} {CX:CXT} {k:Nat} {f:Addr} {fd:FuncData} {ps:List Str} {sp sp':Sp} (F:FnOk P w K mg base CX k f fd ps sp)
  (h:∀ vs H Q E,sp' vs H Q E→sp vs H Q E):FnOk P w K mg base CX k f fd ps sp' :=
 ⟨fun vs H Q E q=>F.len vs H Q E (h _ _ _ _ q),fun A outer s H args us vs Q E hr he hb hv hs=>F.run A outer s H args us vs Q E hr he hb hv (h _ _ _ _ hs)⟩
section
variable {X:Cx} {pins:List (Addr×Obj)} {σ:St} {H:Hp} {s s':Shared}
theorem Inv.env0 (I:Inv X pins σ H s):Env0 X.prog X.w X.K X.mg X.base X.A X.stack s H :=
 ⟨I.ok.frames,I.ok.mod,I.bs,Nat.le_trans I.ok.bsz I.sz,I.stack,I.stkFree,I.hok,I.bare⟩
theorem Inv.after {Q:VK} {u:Value} (I:Inv X pins σ H s) (h:CE X.stack X.prog X.w H s Q u s'):EP X pins σ Q u s':=by
 obtain ⟨v,H',os,bare,un,hok,r,q⟩:=h
 obtain ⟨hh,g,d,t,os'⟩:=s'
 obtain rfl:os'=s.os:=os
 exact ⟨v,H',I.call (h':=hh) (g':=g) (d':=d) (t':=t) (ch:=[]) un hok bare (fun b z=>absurd z (by simp)),r,q⟩
end
noncomputable def tCall (sp:Sp) (dvs:List V) (E:XK) (t:TA):TE:=fun σ H Q=>t σ H fun vs H1=>sp (vs ++ dvs) H1 Q E
noncomputable def Binds (K:PySem.W.Frag) (fd:FuncData) (ps:List Str) (ds:List Value):Prop :=
 ∀ (s:Shared) (us:List Value),K.In s.heap→(us ++ ds).length=ps.length→BindsTo s fd ⟨us,[]⟩ (ps.zip (us ++ ds))
theorem Binds.all {K:PySem.W.Frag} {fd:FuncData} {ps:List Str} (h:∀ us:List Value,us.length=ps.length→bindArgs fd ⟨us,[]⟩=pure (ps.zip us)):Binds K fd ps []:=fun s us _ hl=>by
 rw [List.append_nil] at hl ⊢
 exact .of_eq (h us hl)
noncomputable def Passes (CX:CXT) (X:Cx) (E:XK):Prop:=∀ (pins:List (Addr×Obj)) (σ:St) (H:Hp) (s:Shared) (e:Value) (s':Shared),Inv X pins σ H s→CX X.stack H s E e s'→X.xe e s'
section
variable {X:Cx} {CX:CXT} {k:Nat} {f C:Addr} {fd:FuncData} {ps:List Str} {sp:Sp} {dvs:List V} {ds:List Value} {E:XK} {x m:Str} {p pos apos:Pos} {e o:Expr} {es:List Expr} {ta:TE} {t:TA}
theorem run_fn {pins:List (Addr×Obj)} {σ:St} {H:Hp} {s:Shared} {Q:VK} {us:List Value} {vs:List V} (F:FnOk X.prog X.w X.K X.mg X.base CX k f fd ps sp) (hr:Room k X.A) (hb:Binds X.K fd ps ds) (hd:Vals dvs ds) (hx:Passes CX X E)
  (I:Inv X pins σ H s) (r:Vals vs us) (h:sp (vs ++ dvs) H Q E):wpAny (model X.prog X.w) X.A (call (.ref f) us) (EP X pins σ Q) X.xe s:=by
 have r2:Vals (vs ++ dvs) (us ++ ds):=r.append hd
 have hl:(us ++ ds).length=ps.length:=by rw [← r2.length];exact F.len _ _ _ _ h
 refine wpAny_call (codeAny_mono (F.run X.A X.stack s H ⟨us,[]⟩ (us ++ ds) (vs ++ dvs) Q E hr I.env0 (hb s us I.kIn hl) r2 h) fun r s' hq=>?_)
 cases r with
 | error e=>exact hx pins σ H s e s' I hq
 | ok fl =>
  cases fl with
  | ret u=>exact I.after hq
  | next=>exact False.elim hq
  | brk=>exact False.elim hq
  | cont=>exact False.elim hq
theorem Yae (F:FnOk X.prog X.w X.K X.mg X.base CX k f fd ps sp) (hr:Room k X.A) (hg:Gl X x) (hm:X.mg x=some (.ref f)) (hk:PySem.W.keepIn X.K (.ref f)=true) (hb:Binds X.K fd ps ds) (hd:Vals dvs ds) (hx:Passes CX X E)
  (ha:PA X (e :: es) t) (hdb:(x == ("__debug__" : Str))=false:=by decide) (he:starEach (e :: es) X.env=(false,eval e X.env) :: starEach es X.env:=by rfl) (hpl:(backTo pos (starEach es X.env)).any (·.1)=false:=by rfl) :
  PE X (.Call (.Name x p) (e :: es) [] pos) (tCall sp dvs E t):=by
 intro pins s σ H Q I h
 refine wpAny_Call_Name_kw (Xbw I hg hm ?_ hdb)
 refine PySem.W.callWith_K (h₀:=X.base) I.ok.mod.kin hk (thn (ha pos pins s σ H _ I h) fun us s1 ⟨vs,H1,I1,r,q⟩=>⟨I1.kIn,?_⟩) he hpl
 exact run_fn F hr hb hd hx I1 r q
end
section
variable {X:Cx} {CX:CXT} {k:Nat} {f C:Addr} {fd:FuncData} {ps ks:List Str} {sp:Sp} {E:XK} {x m:Str} {p pos apos kpos:Pos} {e o:Expr} {es:List Expr} {kws:List Keyword} {te ta:TE} {t tk:TA} {nm:Option Str}
variable {g:List Value→List Value→List Value} {gV:List V→List V→List V}
end
structure FnScope (N P:List Str) (sc:Scope):Prop where
 kind:sc.kind=.function
 co:sc.isCoroutine=false
 gen:sc.isGenerator=false
 nd:N.Nodup
 pre:N.take P.length=P
 par:∀ x∈P,sc.names.lookup x=some .local∨sc.names.lookup x=some .cell
 nofree:∀ y∈sc.names,y.2≠.free
theorem xbc {kindOf:Str→Option NameKind} {x:Str}:∀ {binds:List (Str×Value)} {m:Str→Option Value},(∀ v,(x,v) ∉ binds)→bindL kindOf binds m x=m x
 | [],_,_=>rfl
 | (n,v) :: r,m,h=>by
  unfold bindL
  rw [xbc fun w hw=>h w (List.mem_cons_of_mem _ hw)]
  split
  ·have:x≠n:=by rintro rfl;exact h v List.mem_cons_self
   simp [this]
  ·rfl
theorem Xbc {kindOf:Str→Option NameKind} {x:Str}:∀ {binds:List (Str×Value)} {m:Str→Option Value},(∀ v,(x,v) ∉ binds)→bindC kindOf binds m x=m x
 | [],_,_=>rfl
 | (n,v) :: r,m,h=>by
  unfold bindC
  rw [Xbc fun w hw=>h w (List.mem_cons_of_mem _ hw)]
  split
  ·rfl
  ·have:x≠n:=by rintro rfl;exact h v List.mem_cons_self
   simp [this]
theorem zbd {kindOf:Str→Option NameKind} {x:Str} {v:Value}:∀ {P:List Str} {vs:List Value} {i:Nat} {m:Str→Option Value},P.Nodup→P[i]?=some x→vs[i]?=some v→kindOf x=some .local →
  bindL kindOf (P.zip vs) m x=some v
 | [],_,_,_,_,h,_,_=>by simp at h
 | _ :: _,[],_,_,_,_,h,_=>by simp at h
 | p :: P,w :: vs,0,m,nd,h1,h2,hk=>by
  simp at h1 h2;subst h1;subst h2
  show bindL kindOf ((p,w) :: P.zip vs) m p=_
  unfold bindL
  rw [xbc fun v hv=>(List.nodup_cons.mp nd).1 (List.of_mem_zip hv).1,if_pos hk]
  simp
 | p :: P,w :: vs,i + 1,m,nd,h1,h2,hk=>by
  show bindL kindOf ((p,w) :: P.zip vs) m x=_
  unfold bindL
  exact zbd (i:=i) (List.nodup_cons.mp nd).2 (by simpa using h1) (by simpa using h2) hk
theorem ybd {kindOf:Str→Option NameKind} {x:Str} {v:Value}:∀ {P:List Str} {vs:List Value} {i:Nat} {m:Str→Option Value},P.Nodup→P[i]?=some x→vs[i]?=some v→kindOf x≠some .local →
  bindC kindOf (P.zip vs) m x=some v
 | [],_,_,_,_,h,_,_=>by simp at h
 | _ :: _,[],_,_,_,_,h,_=>by simp at h
 | p :: P,w :: vs,0,m,nd,h1,h2,hk=>by
  simp at h1 h2;subst h1;subst h2
  show bindC kindOf ((p,w) :: P.zip vs) m p=_
  unfold bindC
  rw [Xbc fun v hv=>(List.nodup_cons.mp nd).1 (List.of_mem_zip hv).1,if_neg hk]
  simp
 | p :: P,w :: vs,i + 1,m,nd,h1,h2,hk=>by
  show bindC kindOf ((p,w) :: P.zip vs) m x=_
  unfold bindC
  exact ybd (i:=i) (List.nodup_cons.mp nd).2 (by simpa using h1) (by simpa using h2) hk
noncomputable def start (N:List Str) (vs:List V):St:=vs.map some ++ List.replicate (N.length - vs.length) none
noncomputable def cxOf (CX:CXT) (P:Program) (w:World) (K:PySem.W.Frag) (mg:Str→Option Value) (base:Heap) (N:List Str) (qual:Str) (scope:Scope) (f:Addr) (cd:Value) (A:Around) (outer:List Env) (s:Shared) (H:Hp) (E:XK):Cx where
 prog:=P
 w:=w
 K:=K
 mg:=mg
 base:=base
 A:=A.deeper (envOfC qual scope s.heap.objs.size f cd)
 N:=N
 s₀:=s
 H₀:=H
 env:=envOfC qual scope s.heap.objs.size f cd
 outer:=outer
 stack:=envOfC qual scope s.heap.objs.size f cd :: outer
 ex:=[]
 calm:=true
 fn:=fun _=>true
 pn:=[]
 xe:=fun e s'=>wpAny (model P w) (A.deeper (envOfC qual scope s.heap.objs.size f cd)) («leaving» (envOfC qual scope s.heap.objs.size f cd) e) (fun _ s''=>CX outer H s E e s'') (fun e' s''=>CX outer H s E e' s'') s'
theorem ybm {sc:Scope} {n:Nat} {x:Str} (h:sc.names.lookup x=some .cell):∃ c,(cellsFrom n sc.names []).lookup x=some c:=by
 have q:=PySem.W.cellsFrom_some sc.names n [] (.inl h)
 exact Option.isSome_iff_exists.mp q
theorem Yby {CX:CXT} {P:Program} {w:World} {K:PySem.W.Frag} {mg:Str→Option Value} {base:Heap} {N ps:List Str} {qual:Str} {scope:Scope} {f:Addr} {cd:Value} {A:Around} {outer:List Env} {s s1:Shared} {H:Hp} {E:XK} {us:List Value} {vs:List V}
  (S:FnScope N ps scope) (hd:A.handled=none) (e0:Env0 P w K mg base A outer s H) (hl:vs.length=ps.length) (r:Vals vs us)
  (x:InCallC s s.heap.objs.size (bindL (envOfC qual scope s.heap.objs.size f cd).kindOf (ps.zip us) fun _=>none) (cellsFrom (s.heap.objs.size + 1) scope.names []) (bindC (envOfC qual scope s.heap.objs.size f cd).kindOf (ps.zip us) fun _=>none) s1) :
  Inv (cxOf CX P w K mg base N qual scope f cd A outer s H E) [] (start N vs) H s1:=by
 have hpl:ps.length≤N.length:=by have:=congrArg List.length S.pre;rw [List.length_take] at this;omega
 obtain ⟨h1,tk,rfl,hk⟩:=x.done
 have noA:∀ b:Addr,b ∉ (cxOf CX P w K mg base N qual scope f cd A outer s H E).ex:=fun b z=>absurd (show b∈([]:List Addr) from z) (by simp)
 refine ⟨⟨e0.mod,S.kind,rfl,rfl,Nat.le_refl _,fun y z c h1 h2=>?_,fun y hy=>?_,fun y c _ h=>?_,fun _=>hd,Around.frames_deeper e0.frames,.inr ⟨rfl,rfl⟩,fun b z=>absurd z (noA b),e0.bs,e0.bsz,fun b _ _=>noA b,fun b z=>absurd z (noA b),e0.funs,e0.frf⟩,
  rfl,e0.bare,Un.kept hk,⟨_,x.toInCall.ns,fun i y v h1 h2 h3=>?_⟩,fun y c h=>⟨_,x.cell y c h⟩,e0.hok.fresh (Nat.le_refl _),fun y c h=>?_,fun p hp=>absurd (show p∈([]:List (Addr×Obj)) from hp) (by simp),e0.hok.kept hk,?_⟩
 ·exact name_of_addr x.apart (PySem.mem_of_lookup h1) (PySem.mem_of_lookup h2)
 ·have hy:scope.names.lookup y=some .cell∨scope.names.lookup y=some .free:=hy
  rcases hy with hy | hy
  ·exact ybm hy
  ·exact absurd rfl (S.nofree _ (PySem.mem_of_lookup hy))
 ·exact Nat.le_of_lt (x.above y c (PySem.mem_of_lookup h))
 ·have hi:i < vs.length:=by
   unfold start at h2
   by_cases hi:i < vs.length
   ·exact hi
   ·rw [List.getElem?_append_right (by simpa using hi)] at h2
    rw [List.getElem?_replicate] at h2
    split at h2 <;> cases h2
  have ha:vs[i]?=some v:=by
   unfold start at h2
   rw [List.getElem?_append_left (by simpa using hi),List.getElem?_map] at h2
   cases e:vs[i]? with
   | none=>rw [e] at h2;cases h2
   | some a=>rw [e] at h2;cases h2;rfl
  obtain ⟨u,hu,rv⟩:=r.get ha
  have hp:ps[i]?=some y:=by
   rw [← S.pre,List.getElem?_take_of_lt (by omega)];exact h1
  have ndP:ps.Nodup:=by rw [← S.pre];exact S.nd.sublist (List.take_sublist _ _)
  refine ⟨u,rv,?_⟩
  rcases S.par y (List.mem_of_getElem? hp) with k | k
  ·exact .inl ⟨k,zbd ndP hp hu k⟩
  ·obtain ⟨c,e⟩:=ybm (n:=s.heap.objs.size + 1) k
   refine .inr ⟨.inl k,c,e,?_⟩
   have q:=x.cell y c e
   rw [ybd ndP hp hu (by show scope.names.lookup y≠_;rw [k];decide)] at q
   exact q
 ·exact e0.hok.fresh (Nat.le_of_lt (x.above y c (PySem.mem_of_lookup h)))
 ·unfold start
  show _=N.length
  rw [List.length_append,List.length_map,List.length_replicate]
  omega
theorem fn_of {CX:CXT} {P:Program} {w:World} {K:PySem.W.Frag} {mg:Str→Option Value} {base:Heap} {k:Nat} {f:Addr} {name qual:Str} {params:Arguments} {body:List Stmt} {scope:Scope} {dV kV doc pm cdv ct oc:Value} {an od:Option Addr}
  {osl:Array (Option Value)} {N ps:List Str} {sp:Sp} (lk:K.lookup f=some ⟨oc,od,.func (PySem.W.fnOf name qual params body scope dV kV doc pm an cdv ct),osl⟩) (hcd:PySem.W.codeIn K cdv qual=true) (S:FnScope N ps scope)
  (len:∀ vs H Q E,sp vs H Q E→vs.length=ps.length)
  (hbody:∀ (A:Around) (outer:List Env) (s:Shared) (H:Hp) (vs:List V) (Q:VK) (E:XK),Room k (A.deeper (envOfC qual scope s.heap.objs.size f cdv))→sp vs H Q E →
   ∃ t,PSs (cxOf CX P w K mg base N qual scope f cdv A outer s H E) body t∧t { nx:=fun _ H'=>Q .non H',rt:=Q } (start N vs) H) :
  FnOk P w K mg base CX (k + 1) f (PySem.W.fnOf name qual params body scope dV kV doc pm an cdv ct) ps sp:=by
 refine ⟨len,fun A outer s H args us vs Q E hr e0 hb r hsp=>?_⟩
 have hl:=len _ _ _ _ hsp
 have KX:K.In s.heap:=e0.mod.kin.keeps fun b o e=>(e0.bs b o e).1
 have lim:s.heap.NoLimit:=e0.mod.nolimit.keeps fun b o e=>(e0.bs b o e).1
 have hkind:∀ y∈ps.zip us,scope.names.lookup y.1=some .local∨(scope.names.lookup y.1=some .cell∧((cellsFrom (s.heap.objs.size + 1) scope.names []).lookup y.1).isSome=true):=fun ⟨n,v⟩ hy=>by
  rcases S.par n (List.of_mem_zip hy).1 with q | q
  ·exact .inl q
  ·exact .inr ⟨q,PySem.W.cellsFrom_some _ _ _ (.inl q)⟩
 refine codeAny_call_function hr.depth (KX _ _ lk) rfl S.co S.gen rfl (PySem.W.codeRec_of KX hcd) (hb _ _ _ _ ?_)
 refine wpAny_newFunctionEnv_cells S.kind hkind fun env he s1 x=>?_
 subst he
 refine ⟨lim.keeps x.toInCall.keep,codeAny_func ?_⟩
 obtain ⟨t,ht,hq⟩:=hbody A outer s H vs Q E (hr.deeper _) hsp
 have I:Inv (cxOf CX P w K mg base N qual scope f cdv A outer s H E) [] (start N vs) H s1:=Yby S hr.hd e0 hl r x
 refine wpAny_mono (ht [] s1 (start N vs) H _ I hq) (fun fl s' hs=>?_) fun e s' hs=>hs
 have fin:∀ {σ':St} {H':Hp} {v:V} {u:Value},Inv (cxOf CX P w K mg base N qual scope f cdv A outer s H E) [] σ' H' s'→RelV v u→Q v H'→CE outer P w H s Q u s' :=
  fun {σ' H' v u} J rv q=>⟨v,H',J.os,J.bare,J.base,J.hok,rv,q⟩
 cases fl with
 | ret u =>
  obtain ⟨v,σ',H',J,rv,q⟩:=hs
  exact fin J rv q
 | next =>
  obtain ⟨σ',H',J,q⟩:=hs
  exact fin (v:=V.non) (u:=Value.none) J rfl q
 | brk =>
  obtain ⟨_,_,_,q⟩:=hs
  exact False.elim q
 | cont =>
  obtain ⟨_,_,_,q⟩:=hs
  exact False.elim q
end L2
namespace L2
open PySem PySem.Spec PyProof.Rows
section
variable {X:Cx} {x:Str} {p pos:Pos} {e:Expr} {es:List Expr} {t:TA} {id T:String} {r:List V→Hp→VK→Prop}
noncomputable def tCB (r:List V→Hp→VK→Prop) (t:TA):TE:=fun σ H Q=>t σ H fun vs H1=>r vs H1 Q
theorem Zaf (hc:CallR X (.builtin id) r) (hg:Gl X x) (hm:X.mg x=none) (hv:bootBuiltins x=some (.builtin id)) (ha:PA X (e :: es) t) (hn:x≠"__name__" := by decide) (hdb:(x == ("__debug__" : Str))=false:=by decide)
  (he:starEach (e :: es) X.env=(false,eval e X.env) :: starEach es X.env:=by rfl) (hpl:(backTo pos (starEach es X.env)).any (·.1)=false:=by rfl):PE X (.Call (.Name x p) (e :: es) [] pos) (tCB r t):=by
 intro pins s σ H Q I h
 refine wpAny_Call_Name_kw (ZaY I hg hm hv ?_ hn hdb)
 exact PyProof.Rows.callWith_builtin1 (thn (ha pos pins s σ H _ I h) fun us s1 ⟨vs,H1,I1,r1,q1⟩=>hc pins s1 σ H1 vs us Q I1 r1 q1) he hpl
theorem zae (hc:CallR X (.type T) r) (hg:Gl X x) (hm:X.mg x=none) (hv:bootBuiltins x=some (.type T)) (ha:PA X (e :: es) t) (hn:x≠"__name__" := by decide) (hdb:(x == ("__debug__" : Str))=false:=by decide)
  (he:starEach (e :: es) X.env=(false,eval e X.env) :: starEach es X.env:=by rfl) (hpl:(backTo pos (starEach es X.env)).any (·.1)=false:=by rfl):PE X (.Call (.Name x p) (e :: es) [] pos) (tCB r t):=by
 intro pins s σ H Q I h
 refine wpAny_Call_Name_kw (ZaY I hg hm hv ?_ hn hdb)
 exact PyProof.Rows.callWith_type1 (thn (ha pos pins s σ H _ I h) fun us s1 ⟨vs,H1,I1,r1,q1⟩=>hc pins s1 σ H1 vs us Q I1 r1 q1) he hpl
end
end L2
namespace HT
open PySem PyProof.Rows
theorem XbM (A:Around) (s:Shared) (a:Int) (t:Tok) (c:Int) (u:Tok):∃ e,SeqAt.EqAt A s (.int a t) (.int c u) e∧(e=true↔a=c) :=
 ⟨(a == c),SeqAt.EqAt.int_int a t c u,by simp⟩
section
open PySem.SeqAt
open PySem.AutoSeq1 (wpAny_loadPart')
open PySem.MeetsSeq PySem.MeetsSeq2 PySem.MeetsSeq3
end
section
variable {prog:Program} {w:World} {A:Around} {E:Value→Shared→Prop} {s:Shared}
theorem Yb0 {t b:Addr} {vs ws:List Value} {Q:Value→Shared→Prop} (ht:IsTup s.heap t vs.toArray) (hb:IsTup s.heap b ws.toArray) (hv:vs≠[])
  (h1:ws=[]→Q (.ref t) s) (h2:ws≠[]→Q (.ref s.heap.objs.size) { s with heap:=s.heap.push { cls:=.type "tuple",data:=.seq (vs ++ ws).toArray } })
  (hsz:vs.length + ws.length≤sizeLine):wpAny (model prog w) A (binaryOp .Add (.ref t) (.ref b)) Q E s:=by
 obtain ⟨⟨cls,dd,data,sl⟩,ho,hc,n,hd⟩:=id ht
 obtain ⟨⟨cls2,dd2,data2,sl2⟩,ho2,hc2,n2,hd2⟩:=id hb
 simp only at hc hd hc2 hd2
 subst hc hd hc2 hd2
 have e:vs.toArray ++ ws.toArray=(vs ++ ws).toArray:=by simp
 by_cases hw:ws=[]
 ·exact concat_meets ⟨_,ho,rfl⟩ ⟨_,ho2,rfl⟩ noFill_tuple_add seq_tuple_add PySem.F.slot_tuple_add PySem.F.entry_tuple_add (PySem.F.args_tuple_add_2 _ _)
   (tuple_addW1 t b vs.toArray ws.toArray n n2 dd dd2 sl sl2 (by simpa using hv) (by simp [hw])) ⟨ho,ho2,h1 hw⟩
 ·refine concat_meets ⟨_,ho,rfl⟩ ⟨_,ho2,rfl⟩ noFill_tuple_add seq_tuple_add PySem.F.slot_tuple_add PySem.F.entry_tuple_add (PySem.F.args_tuple_add_2 _ _)
   (tuple_addW2 t b vs.toArray ws.toArray n n2 dd dd2 sl sl2 (by simpa using hv) (by simpa using hw) (by rw [List.size_toArray,List.size_toArray];exact hsz)) ⟨ho,ho2,?_⟩
  rw [e]
  exact h2 hw
noncomputable def sIx (n d:Nat):Option Int→Nat
 | none=>d
 | some v=>if v < 0 then (v + (n:Int)).toNat else min v.toNat n
theorem Zbm (n d:Nat):sIx n d none=d:=rfl
theorem xby (n d k:Nat):sIx n d (some (k:Int))=min k n:=by
 show (if (k:Int) < 0 then ((k:Int) + (n:Int)).toNat else min (k:Int).toNat n)=min k n
 rw [if_neg (by omega),Int.toNat_natCast]
theorem sIx_le (n d:Nat) (hd:d≤n) (o:Option Int):sIx n d o≤n:=by
 cases o with
 | none=>exact hd
 | some v =>
  show (if v < 0 then (v + (n:Int)).toNat else min v.toNat n)≤n
  by_cases hv:v < 0
  ·rw [if_pos hv];omega
  ·rw [if_neg hv];exact Nat.min_le_right _ _
theorem Xby (v:Int) (n d:Nat):(if v < 0 then max (v + (n:Int)) 0 else min v (n:Int))=((sIx n d (some v):Nat):Int):=by
 show (if v < 0 then max (v + (n:Int)) 0 else min v (n:Int))=(((if v < 0 then (v + (n:Int)).toNat else min v.toNat n):Nat):Int)
 by_cases hv:v < 0
 ·simp only [if_pos hv];omega
 ·simp only [if_neg hv];omega
theorem zbs (lo hi:Option Int) (n:Nat):Builtin.Slice.sliceAdjust lo hi 1 (n:Int)=(((sIx n 0 lo:Nat):Int),((sIx n n hi:Nat):Int)):=by
 have h1:¬ ((1:Int) < 0):=by omega
 unfold Builtin.Slice.sliceAdjust
 simp only [h1,if_false]
 refine Prod.ext ?_ ?_
 ·cases lo with
  | none=>rfl
  | some v=>exact Xby v n 0
 ·cases hi with
  | none=>rfl
  | some v=>exact Xby v n n
theorem ybs (i j:Nat):Builtin.Slice.slicePlaces (i:Int) (j:Int) 1=j - i:=by
 unfold Builtin.Slice.slicePlaces
 have h1:(1:Int) > 0:=by omega
 simp only [h1,if_true,Int.ediv_one]
 split <;> omega
theorem ya3 {v:Value} {o:Option Int} {Q:Option Int→Shared→Prop} (p:IsPart v o) (h:Q o s):wpAny (model prog w) A (Builtin.Slice.slicePartIndex v) Q E s:=by
 cases p with
 | none=>exact slicePart_none h
 | int i t=>exact slicePart_int h
theorem ZaK {sl:Addr} {vl vu:Value} {lo hi:Option Int} {n:Nat} {Q:Int×Int×Nat→Shared→Prop} (hs:s.heap.IsSliceOf sl vl vu .none) (pl:IsPart vl lo) (pu:IsPart vu hi)
  (h:Q (((sIx n 0 lo:Nat):Int),1,sIx n n hi - sIx n 0 lo) s):wpAny (model prog w) A (Builtin.Slice.sliceApplied (.ref sl) (pure (n:Int))) Q E s:=by
 obtain ⟨os,hos,hcs,hds⟩:=id hs
 unfold Builtin.Slice.sliceApplied Builtin.Slice.sliceFields
 refine wpAny_bind (wpAny_bind (wpAny_field hos hds (x:=vl) rfl (wpAny_bind (wpAny_field hos hds (x:=vu) rfl (wpAny_bind (wpAny_field hos hds (x:=.none) rfl (wpAny_pure ?_)))))))
 refine wpAny_bind (slicePart_none ?_)
 show wpAny _ _ (if ((1:Int) == 0)=true then _ else _) _ _ s
 rw [if_neg (by decide)]
 refine wpAny_bind (ya3 pl (wpAny_bind (ya3 pu (wpAny_bind (wpAny_pure ?_)))))
 show wpAny _ _ (match Builtin.Slice.sliceAdjust lo hi 1 (n:Int) with | (lo,hi)=>pure (lo,(1:Int),Builtin.Slice.slicePlaces lo hi 1)) _ _ s
 rw [zbs lo hi n]
 show wpAny _ _ (pure (((sIx n 0 lo:Nat):Int),(1:Int),Builtin.Slice.slicePlaces ((sIx n 0 lo:Nat):Int) ((sIx n n hi:Nat):Int) 1)) _ _ s
 rw [ybs]
 exact wpAny_pure h
theorem zbN (xs:Array Value) (i k:Nat):((List.range k).filterMap fun (m:Nat)=>xs[((i:Int) + (m:Int) * 1).toNat]?).toArray=((xs.toList.drop i).take k).toArray:=by
 have e:(fun (m:Nat)=>xs[((i:Int) + (m:Int) * 1).toNat]?)=fun m=>xs[i + m]?:=by
  funext m
  have:((i:Int) + (m:Int) * 1).toNat=i + m:=by omega
  rw [this]
 rw [e]
 have:=pick_run xs i k
 rw [List.filterMap_map] at this
 have e2:((fun x=>xs[x]?) ∘ fun x=>i + x)=fun m=>xs[i + m]?:=rfl
 rw [e2] at this
 rw [this]
theorem yaT {t sl:Addr} {items:Array Value} {vl vu:Value} {lo hi:Option Int} {Q:Value→Shared→Prop} (ht:IsTup s.heap t items) (hs:s.heap.IsSliceOf sl vl vu .none) (pl:IsPart vl lo) (pu:IsPart vu hi)
  (hw:¬ (sIx items.size 0 lo=0∧sIx items.size items.size hi=items.size))
  (h:Q (.ref s.heap.objs.size) { s with heap:=s.heap.push { cls:=.type "tuple",data:=.seq ((items.toList.drop (sIx items.size 0 lo)).take (sIx items.size items.size hi - sIx items.size 0 lo)).toArray } })
  (hsz:items.size≤sizeLine):wpAny (model prog w) A (getItem (.ref t) (.ref sl)) Q E s:=by
 have htake:sizeOk (.seq ((items.toList.drop (sIx items.size 0 lo)).take (sIx items.size items.size hi - sIx items.size 0 lo)).toArray):=by
  show ((items.toList.drop (sIx items.size 0 lo)).take (sIx items.size items.size hi - sIx items.size 0 lo)).toArray.size≤sizeLine
  rw [List.size_toArray,List.length_take,List.length_drop,Array.length_toList]
  omega
 have hj:sIx items.size items.size hi≤items.size:=sIx_le _ _ (Nat.le_refl _) hi
 obtain ⟨os,hos,hcs,hds⟩:=id hs
 have hTs:s.TypeIs (.ref sl) "slice" := ⟨os,hos,hcs⟩
 unfold getItem
 try with_reducible refine wpAny_holding ?_
 first | refine wpAny_bind (wpAny_pure ?_) | skip
 refine wpAny_bind (wpAny_sequenceKey ht.typeIs (by decide) ?_)
 refine wpAny_bind (wpAny_callSpecial?_slot (name:=Str.ofString "__getitem__") ht.typeIs PyProof.Rows.slot_tuple_getitem
  (wpAny_call_entry PyProof.Rows.slot_tuple_getitem ht.typeIs entry_tuple_getitem ?_ (args_tuple_getitem _ _)))
 show wpAny _ _ (Builtin.Tuple.tupleItemsOf (.ref t) >>= _) _ _ s
 refine wpAny_bind (tupleItemsOf_ ht ?_)
 refine wpAny_bind (wpAny_typeOf hTs ?_)
 rw [if_pos (by decide)]
 refine wpAny_bind (ZaK hs pl pu ?_)
 have hno:¬ ((((sIx items.size 0 lo:Nat):Int) == 0 && (1:Int) == 1 && (sIx items.size items.size hi - sIx items.size 0 lo) == items.size)=true):=by
  intro q
  rw [Bool.and_eq_true,Bool.and_eq_true] at q
  have q1:((sIx items.size 0 lo:Nat):Int)=0:=eq_of_beq q.1.1
  have q2:sIx items.size items.size hi - sIx items.size 0 lo=items.size:=eq_of_beq q.2
  exact hw ⟨by omega,by omega⟩
 show wpAny _ _ (if (((sIx items.size 0 lo:Nat):Int) == 0 && (1:Int) == 1 && (sIx items.size items.size hi - sIx items.size 0 lo) == items.size)=true then _ else _) _ _ s
 rw [if_neg hno,zbN]
 first
  | exact wpAny_bind (m:=Builtin.Tuple.tupleExact _) (wpAny_newObj_type (wpAny_pure ⟨_,rfl,wpAny_pure h⟩) htake)
  | exact wpAny_bind (m:=Builtin.Tuple.tupleExact _) (wpAny_newObj_type (wpAny_bind (wpAny_pure (wpAny_pure ⟨_,rfl,wpAny_pure h⟩))) htake)
  | exact wpAny_bind (wpAny_bind (m:=Builtin.Tuple.tupleExact _) (wpAny_newObj_type (wpAny_pure (wpAny_pure ⟨_,rfl,wpAny_pure h⟩)) htake))
  | exact wpAny_bind (wpAny_bind (m:=Builtin.Tuple.tupleExact _) (wpAny_newObj_type (wpAny_pure ⟨_,rfl,wpAny_pure h⟩) htake))
end
end HT
namespace L2
open PySem PySem.Spec PyProof.Rows
abbrev TO:=St→Hp→(Option Int→Hp→Prop)→Prop
noncomputable def PO (X:Cx) (e:Option Expr) (t:TO):Prop :=
 ∀ (pins:List (Addr×Obj)) (s:Shared) (σ:St) (H:Hp) (Q:Option Int→Hp→Prop),Inv X pins σ H s→t σ H Q →
  wpAny (model X.prog X.w) X.A (evalPart e X.env) (fun u s'=>∃ o H',Inv X pins σ H' s'∧IsPart u o∧Q o H') X.xe s
noncomputable def tNoPart:TO:=fun _ H Q=>Q none H
noncomputable def tPart (t:TE):TO:=fun σ H Q=>t σ H fun x H1=>∃ i,x=.int i∧Q (some i) H1
theorem Zbs {ns:List Int}:∀ {us:List Value},Vals (ns.map V.int) us→IntsAre us ns:=by
 induction ns with
 | nil=>intro us r;rw [List.map_nil] at r;cases r;exact .nil
 | cons n ns ih =>
  intro us r
  rw [List.map_cons] at r
  cases r with
  | cons r1 r2 =>
   obtain ⟨t,e⟩:=r1
   subst e
   exact .cons n t (ih r2)
section
variable {X:Cx} {e:Expr} {te:TE} {lo hi:Option Expr} {tl th:TO} {pos p2:Pos}
theorem xaY:PO X none tNoPart:=by
 intro pins s σ H Q I h
 rw [evalPart_none]
 exact wpAny_pure ⟨none,H,I,.none,h⟩
theorem XaY (h:PE X e te):PO X (some e) (tPart te):=by
 intro pins s σ H Q I hw
 rw [evalPart_some]
 refine thn (h pins s σ H _ I hw) fun u s1 ⟨x,H1,I1,r1,q1⟩=>?_
 obtain ⟨i,rfl,q⟩:=q1
 obtain ⟨t,rfl⟩:=r1
 exact ⟨some i,H1,I1,.int i t,q⟩
noncomputable def SlR (X:Cx) (r:V→Option Int→Option Int→Hp→VK→Prop):Prop :=
 ∀ (pins:List (Addr×Obj)) (s:Shared) (σ:St) (H:Hp) (x:V) (v vl vu:Value) (lo hi:Option Int) (sl:Addr) (Q:VK),Inv X pins σ H s→RelV x v→s.heap.IsSliceOf sl vl vu .none→IsPart vl lo→IsPart vu hi→r x lo hi H Q →
  ∃ T id,typeLookup (.type T) "__getitem__" = pure (some (.builtin id))∧s.TypeIs v T∧wpAny (model X.prog X.w) X.A (getItem v (.ref sl)) (EP X pins σ Q) X.xe s
noncomputable def tSl (r:V→Option Int→Option Int→Hp→VK→Prop) (te:TE) (tl th:TO):TE:=fun σ H Q=>te σ H fun x H1=>tl σ H1 fun l H2=>th σ H2 fun u H3=>r x l u H3 Q
theorem yaQ {r:V→Option Int→Option Int→Hp→VK→Prop} (hr:SlR X r) (he:PE X e te) (hl:PO X lo tl) (hu:PO X hi th):PE X (.Subscript e (.Slice lo hi none p2) pos) (tSl r te tl th):=by
 intro pins s σ H Q I h
 refine Subscript_ (thn (he pins s σ H _ I h) fun v s1 ⟨x,H1,I1,r1,q1⟩=>?_)
 refine wpAny_Slice (thn (hl pins s1 σ H1 _ I1 q1) fun vl s2 ⟨l,H2,I2,pl,q2⟩=>thn (hu pins s2 σ H2 _ I2 q2) fun vu s3 ⟨u,H3,I3,pu,q3⟩=>?_)
 rw [evalPart_none]
 refine wpAny_pure ?_
 have I4:Inv X pins σ H3 { s3 with heap:=s3.heap.push { cls:=.type "slice",data:=.fields #[vl,vu,.none] } }:=I3.kept (t':=s3.toks) fun b ob q=>Heap.get?_push_of_some _ q
 obtain ⟨T,id,hT,ht,hg⟩:=hr pins { s3 with heap:=s3.heap.push { cls:=.type "slice",data:=.fields #[vl,vu,.none] } } σ H3 x v vl vu l u s3.heap.objs.size Q I4 r1 (Heap.IsSliceOf.new ..) pl pu q3
 show wpAny (model X.prog X.w) X.A (subscriptTail e (.Slice lo hi none p2) v (.ref s3.heap.objs.size)) (EP X pins σ Q) X.xe { s3 with heap:=s3.heap.push { cls:=.type "slice",data:=.fields #[vl,vu,.none] } }
 exact tail_any (ops:=[.ref s3.heap.objs.size,v]) ht hT hg (by with_unfolding_all rfl)
noncomputable def cutV (xs:List V) (lo hi:Option Int):List V:=(xs.drop (HT.sIx xs.length 0 lo)).take (HT.sIx xs.length xs.length hi - HT.sIx xs.length 0 lo)
theorem zaZ (xs:List V) (lo hi:Option Int):(cutV xs lo hi).length≤xs.length:=by
 unfold cutV
 rw [List.length_take,List.length_drop]
 omega
noncomputable def rSlT (K:PySem.W.Frag):V→Option Int→Option Int→Hp→VK→Prop:=fun x lo hi H Q=>∃ a xs,x=.ref a∧SqT K H a xs ∧
 ¬ (HT.sIx xs.length 0 lo=0∧HT.sIx xs.length xs.length hi=xs.length)∧∀ p,H p=none→Q (.ref p) (upd H p (.tup (cutV xs lo hi)))
theorem sl_tup:SlR X (rSlT X.K):=by
 intro pins s σ H x v vl vu lo hi sl Q I rx hs pl pu h
 obtain ⟨a,xs,rfl,hx,hw,q⟩:=h
 cases rx
 obtain ⟨its,r,ht,hz⟩:=I.tuple hx
 have hlen:its.toArray.size=xs.length:=by rw [List.size_toArray];exact r.length.symm
 refine ⟨"tuple",_,PyProof.Rows.slot_tuple_getitem.lookup,ht.typeIs,?_⟩
 refine HT.yaT ht hs pl pu (by rw [hlen];exact hw) ?_ (by rw [hlen];exact hz)
 rw [hlen]
 refine ⟨.ref s.heap.objs.size,_,I.laid (t':=s.toks) (o:=.tup (cutV xs lo hi)) (fun b ob q=>Heap.get?_push_of_some _ q) (Nat.le_refl _) ?_,rfl,q _ (I.hok.fresh (Nat.le_refl _))⟩
 exact ⟨Nat.le_trans (zaZ xs lo hi) hz,_,(r.drop (HT.sIx xs.length 0 lo)).take (HT.sIx xs.length xs.length hi - HT.sIx xs.length 0 lo),PTup.new _ _⟩
noncomputable def rCatT (K:PySem.W.Frag):R2:=fun x y H Q=>∃ a b xs ys,x=.ref a∧y=.ref b∧SqT K H a xs∧SqT K H b ys∧xs≠[]∧xs.length + ys.length≤sizeLine ∧
 (ys=[]→Q (.ref a) H)∧(ys≠[]→∀ p,H p=none→Q (.ref p) (upd H p (.tup (xs ++ ys))))
theorem Vals.nil_iff {xs:List V} {us:List Value} (r:Vals xs us):us=[]↔xs=[]:=by
 cases r with
 | nil=>simp
 | cons _ _=>simp
theorem xb0:OpR X (binaryOp .Add) (rCatT X.K):=by
 intro pins s σ H x y v u Q I rx ry h
 obtain ⟨a,b,xs,ys,rfl,rfl,ha,hb,hx,hz,q1,q2⟩:=h
 cases rx
 cases ry
 obtain ⟨its,r1,p1,_⟩:=I.tuple ha
 obtain ⟨its2,r2,p2,_⟩:=I.tuple hb
 refine HT.Yb0 p1 p2 (fun z=>hx (r1.nil_iff.mp z)) (fun z=>⟨.ref a,H,I,rfl,q1 (r2.nil_iff.mp z)⟩) (fun z=>?_) (by rw [← r1.length,← r2.length];exact hz)
 refine ⟨.ref s.heap.objs.size,_,I.laid (t':=s.toks) (o:=.tup (xs ++ ys)) (fun b ob q=>Heap.get?_push_of_some _ q) (Nat.le_refl _) ?_,rfl,q2 (fun w=>z (r2.nil_iff.mpr w)) _ (I.hok.fresh (Nat.le_refl _))⟩
 exact ⟨by rw [List.length_append];exact hz,_,r1.append r2,PTup.new _ _⟩
end
end L2
namespace L2
open PySem PySem.Spec PyProof.Rows
noncomputable def ixN (n:Nat) (i:Int):Option Nat:=if 0≤i then (if i < n then some i.toNat else none) else if -(n:Int)≤i then some (i + n).toNat else none
noncomputable def atI {α:Type} (xs:List α) (i:Int):Option α:=(ixN xs.length i).bind fun j=>xs[j]?
theorem zbh {n:Nat} {i:Int} {j:Nat} (h:ixN n i=some j):seqIndex? i n=some j∧j < n∧-(n:Int)≤i∧i < n:=by
 unfold ixN at h
 by_cases h0:0≤i
 ·rw [if_pos h0] at h
  by_cases h1:i < n
  ·rw [if_pos h1] at h
   have e:i.toNat=j:=Option.some.inj h
   exact ⟨by rw [seqIndex_of h0 h1,e],by omega,by omega,h1⟩
  ·rw [if_neg h1] at h;cases h
 ·rw [if_neg h0] at h
  by_cases h1:-(n:Int)≤i
  ·rw [if_pos h1] at h
   have e:(i + n).toNat=j:=Option.some.inj h
   exact ⟨by rw [seqIndex_neg (by omega) h1,e],by omega,h1,by omega⟩
  ·rw [if_neg h1] at h;cases h
theorem zbz {α:Type} {xs:List α} {i:Int} {v:α} (h:atI xs i=some v):∃ j,seqIndex? i xs.length=some j∧xs[j]?=some v∧j < xs.length∧-(xs.length:Int)≤i∧i < xs.length:=by
 unfold atI at h
 cases e:ixN xs.length i with
 | none=>rw [e] at h;cases h
 | some j =>
  rw [e] at h
  obtain ⟨h1,h2,h3,h4⟩:=zbh e
  exact ⟨j,h1,h,h2,h3,h4⟩
theorem ZaT {α:Type} {xs:List α} {j:Nat} {v:α} (h:xs[j]?=some v):atI xs (j:Int)=some v:=by
 have hj:j < xs.length:=(List.getElem?_eq_some_iff.mp h).1
 have e:ixN xs.length (j:Int)=some j:=by
  unfold ixN
  rw [if_pos (by omega),if_pos (by omega)];simp
 unfold atI;rw [e];exact h
noncomputable def PlainIx (b:Expr):Prop:=∀ o i,subscripted b false o i=operate [o,i] (getItem o i)
noncomputable def IxR (X:Cx) (r:R2):Prop :=
 ∀ (value slice:Expr) (pins:List (Addr×Obj)) (s:Shared) (σ:St) (H:Hp) (x y:V) (v u:Value) (Q:VK),Inv X pins σ H s→RelV x v→RelV y u→r x y H Q →
  subscripted slice false v u=operate [v,u] (getItem v u)→wpAny (model X.prog X.w) X.A (subscriptTail value slice v u) (EP X pins σ Q) X.xe s
noncomputable def MtR (X:Cx) (id:String) (r:V→List V→Hp→VK→Prop):Prop :=
 ∀ (pins:List (Addr×Obj)) (s:Shared) (σ:St) (H:Hp) (x:V) (xs:List V) (v:Value) (us:List Value) (Q:VK),Inv X pins σ H s→RelV x v→Vals xs us→r x xs H Q →
  wpAny (model X.prog X.w) X.A (call (.builtin id) (v :: us)) (EP X pins σ Q) X.xe s
section
variable {X:Cx} {a b:Expr} {ta tb:TE} {pos:Pos}
theorem xag {r:R2} (hr:IxR X r) (ha:PE X a ta) (hb:PE X b tb) (hs:PlainIx b):PE X (.Subscript a b pos) (tOp r ta tb):=by
 intro pins s σ H Q I h
 exact Subscript_ (binT ha hb I h fun v u s2 x y H2 I2 rx ry q=>hr a b pins s2 σ H2 x y v u Q I2 rx ry q (hs _ _))
noncomputable def rIxL (K:PySem.W.Frag):R2:=fun x y H Q=>∃ p xs i v,x=.ref p∧y=.int i∧SqL K H p xs∧atI xs i=some v∧Q v H
noncomputable def rIxT (K:PySem.W.Frag):R2:=fun x y H Q=>∃ p xs i v,x=.ref p∧y=.int i∧SqT K H p xs∧atI xs i=some v∧Q v H
theorem xap:IxR X (rIxL X.K):=by
 intro value slice pins s σ H x y v u Q I rx ry h hs
 obtain ⟨p,xs,i,z,rfl,rfl,hq,he,q⟩:=h
 cases rx
 obtain ⟨t,rfl⟩:=ry
 obtain ⟨its,r,pl,hz⟩:=I.list hq
 obtain ⟨j,h1,h2,h3,h4,h5⟩:=zbz he
 obtain ⟨w,ew,rw'⟩:=r.get h2
 have hl:=r.length
 have hn:=line63
 have fin:EP X pins σ Q w s:=⟨z,H,I,rw',q⟩
 by_cases h0:0≤i
 ·have hj:i.toNat=j:=by
   rw [seqIndex_of h0 h5] at h1
   exact Option.some.inj h1
  exact item_listR pl.isList h0 (by omega) (by rw [hj];simpa using ew) fin hs
 ·have hj:(i + (its.toArray.size:Int)).toNat=j:=by
   rw [seqIndex_neg (by omega) h4] at h1
   rw [List.size_toArray,← hl]
   exact Option.some.inj h1
  exact subscriptTail_builtinR (x:=w) pl.isList.typeIs slot_list_getitem.lookup
   (wpAny_getItem_list_neg (Q:=fun r s'=>r=w∧EP X pins σ Q r s') pl.isList (by omega) (by rw [List.size_toArray] <;> omega) (by omega) (by rw [hj];simpa using ew) ⟨rfl,fin⟩) hs
theorem Xaf:IxR X (rIxT X.K):=by
 intro value slice pins s σ H x y v u Q I rx ry h hs
 obtain ⟨p,xs,i,z,rfl,rfl,hq,he,q⟩:=h
 cases rx
 obtain ⟨t,rfl⟩:=ry
 obtain ⟨its,r,pl,hz⟩:=I.tuple hq
 obtain ⟨j,h1,h2,h3,h4,h5⟩:=zbz he
 obtain ⟨w,ew,rw'⟩:=r.get h2
 have hl:=r.length
 have hn:=line63
 have fin:EP X pins σ Q w s:=⟨z,H,I,rw',q⟩
 exact subscriptTail_builtinR (x:=w) pl.typeIs slot_tuple_getitem.lookup
  (getItem_tuple (j:=j) (Q:=fun r s'=>r=w∧EP X pins σ Q r s') pl (by omega) (by omega) (by rw [List.size_toArray,← hl];exact h1) (by simpa using ew) ⟨rfl,fin⟩) hs
theorem Ybs (its:List Value) (n j:Nat) (u:Value):Obj.mapSeq (·.setIfInBounds j u) { cls:=.type "list",data:=.seq its.toArray n }={ cls:=.type "list",data:=.seq (its.set j u).toArray n }:=by
 simp [Obj.mapSeq]
theorem Inv.lst {pins:List (Addr×Obj)} {σ:St} {H:Hp} {s:Shared} {p:Addr} {xs:List V} (I:Inv X pins σ H s) (h:H p=some (.lst xs)) :
  ∃ (its:List Value) (n:Nat),Vals xs its∧s.heap.get? p=some { cls:=.type "list",data:=.seq its.toArray n }∧xs.length≤sizeLine:=by
 obtain ⟨z,its,n,r,e⟩:=I.hok p _ h
 exact ⟨its,n,r,e,z⟩
theorem Inv.lstUpd {pins:List (Addr×Obj)} {σ:St} {H:Hp} {s:Shared} {p:Addr} {xs ys:List V} {its its':List Value} {n n':Nat} {f:Obj→Obj} (I:Inv X pins σ H s) (h:H p=some (.lst xs))
  (ho:s.heap.get? p=some { cls:=.type "list",data:=.seq its.toArray n }) (hf:f { cls:=.type "list",data:=.seq its.toArray n }={ cls:=.type "list",data:=.seq its'.toArray n' }) (r:Vals ys its') (hz:ys.length≤sizeLine) (t:Nat) :
  Inv X pins σ (upd H p (.lst ys)) { s with heap:=s.heap.update p f,toks:=t }:=by
 have e:(s.heap.update p f).get? p=some { cls:=.type "list",data:=.seq its'.toArray n' }:=by
  rw [Heap.get?_update_self f ho (by rw [hf] <;> rfl),hf]
 refine I.write (x:=p) (e:=p) (by rw [h];trivial) (.inl rfl) (fun b u hb q=>(Heap.get?_update_other _ _ (Ne.symm hb)).trans q) ⟨_,e⟩ ?_
 exact ⟨hz,its',n',r,e⟩
noncomputable def rSetL:V→V→V→Hp→(Hp→Prop)→Prop:=fun o i v H Q=>∃ p xs k j,o=.ref p∧i=.int k∧H p=some (.lst xs)∧ixN xs.length k=some j∧Q (upd H p (.lst (xs.set j v)))
theorem xat:PSet X rSetL:=by
 intro pins s σ H o i v ov iv u Q I ro ri rv h
 obtain ⟨p,xs,k,j,rfl,rfl,hp,hj,q⟩:=h
 cases ro
 obtain ⟨t,rfl⟩:=ri
 obtain ⟨its,n,r,ho,hz⟩:=I.lst hp
 obtain ⟨h1,h2,h3,h4⟩:=zbh hj
 have hl:=r.length
 have hn:=line63
 have I':Inv X pins σ (upd H p (.lst (xs.set j v))) { s with heap:=s.heap.update p (Obj.mapSeq (·.setIfInBounds j u)) } :=
  I.lstUpd hp ho (Ybs its n j u) (r.set rv j) (by rw [List.length_set];exact hz) s.toks
 by_cases h0:0≤k
 ·have hk:k.toNat=j:=by
   rw [seqIndex_of h0 h4] at h1
   exact Option.some.inj h1
  exact PySem.W.ki_setAt ho h0 (by omega) (by rw [List.size_toArray,← hl];exact h4) (by rw [hk];exact ⟨_,I',q⟩)
 ·have hk:(k + (its.toArray.size:Int)).toNat=j:=by
   rw [seqIndex_neg (by omega) h3] at h1
   rw [List.size_toArray,← hl]
   exact Option.some.inj h1
  exact PySem.W.ki_setBack ho (by omega) (by rw [List.size_toArray,← hl];exact h3) (by omega) (by rw [hk];exact ⟨_,I',q⟩)
theorem Zbd (lo hi:Option Int) (n:Nat):(sliceBounds lo hi none n).1=((HT.sIx n 0 lo:Nat):Int)∧(sliceBounds lo hi none n).2.1=((HT.sIx n n hi:Nat):Int)∧(sliceBounds lo hi none n).2.2=1:=by
 refine ⟨?_,?_,rfl⟩
 ·cases lo with
  | none=>simp [sliceBounds,HT.sIx]
  | some i =>
   simp only [sliceBounds,HT.sIx,Option.getD_none,show (1:Int) > 0 by decide,if_true]
   by_cases h:i < 0
   ·simp only [h,if_true] <;> omega
   ·simp only [h,if_false] <;> omega
 ·cases hi with
  | none=>simp [sliceBounds,HT.sIx]
  | some i =>
   simp only [sliceBounds,HT.sIx,Option.getD_none,show (1:Int) > 0 by decide,if_true]
   by_cases h:i < 0
   ·simp only [h,if_true] <;> omega
   ·simp only [h,if_false] <;> omega
theorem Ya6 (its:List Value) (lo hi:Option Int):slicePick its.toArray lo hi none=((its.drop (HT.sIx its.length 0 lo)).take (HT.sIx its.length its.length hi - HT.sIx its.length 0 lo)).toArray:=by
 obtain ⟨h1,h2,h3⟩:=Zbd lo hi its.toArray.size
 unfold slicePick
 rw [h1,h2,h3]
 simp only [sliceRange_one,pick_run,List.size_toArray] <;> rfl
noncomputable def rSlL (K:PySem.W.Frag):V→Option Int→Option Int→Hp→VK→Prop:=fun x lo hi H Q=>∃ a xs,x=.ref a∧SqL K H a xs∧∀ p,H p=none→Q (.ref p) (upd H p (.lst (cutV xs lo hi)))
theorem ybh:SlR X (rSlL X.K):=by
 intro pins s σ H x v vl vu lo hi sl Q I rx hs pl pu h
 obtain ⟨a,xs,rfl,hx,q⟩:=h
 cases rx
 obtain ⟨its,r,ht,hz⟩:=I.list hx
 have hlen:=r.length
 refine ⟨"list",_,slot_list_getitem.lookup,ht.isList.typeIs,?_⟩
 refine wpAny_getItem_list_slice ht.isList hs pl pu .none (by simp) ?_ (by rw [List.size_toArray] <;> omega)
 rw [Ya6,← hlen]
 refine ⟨.ref s.heap.objs.size,_,I.laid (t':=s.toks) (o:=.lst (cutV xs lo hi)) (fun b ob q=>Heap.get?_push_of_some _ q) (Nat.le_refl _) ?_,rfl,q _ (I.hok.fresh (Nat.le_refl _))⟩
 exact ⟨Nat.le_trans (zaZ xs lo hi) hz,_,0,(r.drop (HT.sIx xs.length 0 lo)).take (HT.sIx xs.length xs.length hi - HT.sIx xs.length 0 lo),Heap.get?_push_size _ rfl⟩
noncomputable def flatV:V→Bool
 | .non=>true
 | .bl _=>true
 | .int _=>true
 | .str _=>true
 | _=>false
noncomputable def eqV:V→V→Bool
 | .non,.non=>true
 | .bl a,.bl b=>a == b
 | .bl a,.int b=>(if a then 1 else 0) == b
 | .int a,.bl b=>a == (if b then 1 else 0)
 | .int a,.int b=>a == b
 | .str a,.str b=>a == b
 | _,_=>false
theorem eqAt_V {A:Around} {s:Shared} {y x:V} {u v:Value} (ry:RelV y u) (rx:RelV x v) (fy:flatV y=true) (fx:flatV x=true):SeqAt.EqAt A s u v (eqV y x):=by
 cases y with
 | non =>
  cases ry
  cases x with
  | non=>cases rx;exact SeqAt.EqAt.same _
  | bl b=>cases rx;exact SeqAt.EqAt.none_bool b
  | int b=>obtain ⟨t,rfl⟩:=rx;exact SeqAt.EqAt.none_int b t
  | str b=>obtain ⟨t,rfl⟩:=rx;exact SeqAt.EqAt.none_str b t
  | _=>exact absurd (show false=true from fx) Bool.false_ne_true
 | bl a =>
  cases ry
  cases x with
  | non=>cases rx;exact SeqAt.EqAt.bool_none a
  | bl b=>cases rx;exact SeqAt.EqAt.bool_bool a b
  | int b=>obtain ⟨t,rfl⟩:=rx;exact SeqAt.EqAt.bool_int a b t
  | str b=>obtain ⟨t,rfl⟩:=rx;exact SeqAt.EqAt.bool_str a b t
  | _=>exact absurd (show false=true from fx) Bool.false_ne_true
 | int a =>
  obtain ⟨t',rfl⟩:=ry
  cases x with
  | non=>cases rx;exact SeqAt.EqAt.int_none a t'
  | bl b=>cases rx;exact SeqAt.EqAt.int_bool a t' b
  | int b=>obtain ⟨t,rfl⟩:=rx;exact SeqAt.EqAt.int_int a t' b t
  | str b=>obtain ⟨t,rfl⟩:=rx;exact SeqAt.EqAt.int_str a t' b t
  | _=>exact absurd (show false=true from fx) Bool.false_ne_true
 | str a =>
  obtain ⟨t',rfl⟩:=ry
  cases x with
  | non=>cases rx;exact SeqAt.EqAt.str_none a t'
  | bl b=>cases rx;exact SeqAt.EqAt.str_bool a t' b
  | int b=>obtain ⟨t,rfl⟩:=rx;exact SeqAt.EqAt.str_int a t' b t
  | str b=>obtain ⟨t,rfl⟩:=rx;exact SeqAt.EqAt.str_str a t' b t
  | _=>exact absurd (show false=true from fx) Bool.false_ne_true
 | _=>exact absurd (show false=true from fy) Bool.false_ne_true
noncomputable def eqU (x:V) (u:Value):Bool:=match u with
 | .none=>eqV .non x
 | .bool b=>eqV (.bl b) x
 | .int i _=>eqV (.int i) x
 | .str z _=>eqV (.str z) x
 | _=>false
theorem zbW {x y:V} {u:Value} (r:RelV y u) (f:flatV y=true):eqU x u=eqV y x:=by
 cases y with
 | non=>cases r;rfl
 | bl b=>cases r;rfl
 | int i=>obtain ⟨t,rfl⟩:=r;rfl
 | str z=>obtain ⟨t,rfl⟩:=r;rfl
 | _=>exact absurd (show false=true from f) Bool.false_ne_true
theorem Zbh {x:V}:∀ {xs:List V} {us:List Value},Vals xs us→xs.all flatV=true→us.any (eqU x)=xs.any fun y=>eqV y x
 | _,_,.nil,_=>rfl
 | y :: xs,u :: us,.cons r t,f=>by
  rw [List.all_cons,Bool.and_eq_true] at f
  rw [List.any_cons,List.any_cons,zbW r f.1,Zbh t f.2]
theorem xa6 {A:Around} {s:Shared} {x:V} {v:Value} (rx:RelV x v) (fx:flatV x=true):∀ {xs:List V} {us:List Value},Vals xs us→xs.all flatV=true→∀ u∈us,SeqAt.EqAt A s u v (eqU x u)
 | _,_,.nil,_=>fun u hu=>by cases hu
 | y :: xs,u :: us,.cons r t,f=>fun u' hu=>by
  rw [List.all_cons,Bool.and_eq_true] at f
  rcases List.mem_cons.mp hu with rfl | hu
  ·rw [zbW r f.1];exact eqAt_V r rx f.1 fx
  ·exact xa6 rx fx t f.2 u' hu
noncomputable def inV (x:V) (xs:List V):Bool:=xs.any fun y=>eqV y x
noncomputable def rIn (K:PySem.W.Frag) (neg:Bool):R2:=fun x y H Q=>∃ p xs,y=.ref p∧(SqL K H p xs∨SqT K H p xs)∧flatV x=true∧xs.all flatV=true∧Q (.bl (if neg then !inV x xs else inV x xs)) H
theorem XaU:OpR X (compareOp .NotIn) (rIn X.K true):=by
 intro pins s σ H x y v u Q I rx ry h
 obtain ⟨p,xs,rfl,hq,fx,fs,q⟩:=h
 cases ry
 rcases hq with hq | hq
 ·obtain ⟨its,r,pl,hz⟩:=I.list hq
  refine SeqAt.notIn_listAt (eqU x) pl.isList (fun w hw=>xa6 rx fx r fs w (by simpa using hw)) ⟨.bl _,H,I,rfl,?_⟩
  rw [show its.toArray.any (eqU x)=its.any (eqU x) by simp,Zbh r fs]
  exact q
 ·obtain ⟨its,r,pl,hz⟩:=I.tuple hq
  refine SeqAt.notIn_tupleAt (eqU x) pl (fun w hw=>xa6 rx fx r fs w (by simpa using hw)) ⟨.bl _,H,I,rfl,?_⟩
  rw [show its.toArray.any (eqU x)=its.any (eqU x) by simp,Zbh r fs]
  exact q
theorem Xad:CallR X (.builtin "len") (fun xs H Q=>∃ p ys,xs=[.ref p]∧(SqL X.K H p ys∨SqT X.K H p ys)∧Q (.int ys.length) H):=by
 intro pins s σ H xs us Q I r h
 obtain ⟨p,ys,rfl,hq,q⟩:=h
 obtain ⟨u,rfl,rx⟩:=vals1 r
 cases rx
 have hn:=line63
 rcases hq with hq | hq
 ·obtain ⟨its,r',pl,hz⟩:=I.list hq
  have hlen:=r'.length
  exact Calls.call_len_list pl.isList (by simp only [List.size_toArray] <;> omega) ⟨.int ys.length,H,I.tok _,⟨s.toks + 1,by rw [List.size_toArray,hlen]⟩,q⟩
 ·obtain ⟨its,r',pl,hz⟩:=I.tuple hq
  have hlen:=r'.length
  exact len_tuple pl (by simp only [List.size_toArray] <;> omega) ⟨.int ys.length,H,I.tok _,⟨s.toks + 1,by rw [List.size_toArray,hlen]⟩,q⟩
theorem zaL:CallR X (.type "list") (fun xs H Q=>∃ p ys,xs=[.ref p]∧(SqL X.K H p ys∨SqT X.K H p ys)∧∀ l,H l=none→Q (.ref l) (upd H l (.lst ys))):=by
 intro pins s σ H xs us Q I r h
 obtain ⟨p,ys,rfl,hq,q⟩:=h
 obtain ⟨u,rfl,rx⟩:=vals1 r
 cases rx
 have fin:∀ (its:List Value),Vals ys its→ys.length≤sizeLine→∀ (h':Heap) (c':Nat),(∀ b o',s.heap.get? b=some o'→h'.get? b=some o') →
   h'.get? s.heap.objs.size=some { cls:=.type "list",dict:=none,data:=.seq its.toArray c',slots:=#[] }→EP X pins σ Q (.ref s.heap.objs.size) { s with heap:=h' }:=fun its r' hz h' c' kp e =>
  ⟨.ref s.heap.objs.size,_,I.laid (t':=s.toks) kp (Nat.le_refl _) (show ObjOk X.prog X.w _ h' _ (.lst ys) from ⟨hz,its,c',r',e⟩),rfl,q _ (I.hok.fresh (Nat.le_refl _))⟩
 rcases hq with hq | hq
 ·obtain ⟨its,r',pl,hz⟩:=I.list hq
  have hlen:=r'.length
  obtain ⟨o,ho,hc,n,hd⟩:=pl.isList
  exact call_list_seq p (.inl rfl) ho hc hd (fun h' c' kp e=>fin its r' hz h' c' kp e) (by simp only [List.size_toArray] <;> omega)
 ·obtain ⟨its,r',pl,hz⟩:=I.tuple hq
  have hlen:=r'.length
  obtain ⟨o,ho,hc,n,hd⟩:=pl
  exact call_list_seq p (.inr rfl) ho hc hd (fun h' c' kp e=>fin its r' hz h' c' kp e) (by simp only [List.size_toArray] <;> omega)
theorem Zag:CallR X (.type "tuple") (fun xs H Q=>∃ p ys,xs=[.ref p]∧((SqL X.K H p ys∧∀ l,H l=none→Q (.ref l) (upd H l (.tup ys)))∨(SqT X.K H p ys∧Q (.ref p) H))):=by
 intro pins s σ H xs us Q I r h
 obtain ⟨p,ys,rfl,h⟩:=h
 obtain ⟨u,rfl,rx⟩:=vals1 r
 cases rx
 rcases h with ⟨hq,q⟩ | ⟨hq,q⟩
 ·obtain ⟨its,r',pl,hz⟩:=I.list hq
  have hlen:=r'.length
  refine call_tuple_list pl.isList (fun h' kp=>?_) (by simp only [List.size_toArray] <;> omega)
  have I1:Inv X pins σ H { s with heap:=h' }:=I.kept (t':=s.toks) kp
  have I2:Inv X pins σ (upd H h'.objs.size (.tup ys)) { s with heap:=h'.push { cls:=.type "tuple",data:=.seq its.toArray } } :=
   I1.laid (t':=s.toks) (fun b o e=>Heap.get?_push_of_some _ e) (Nat.le_refl _) (show ObjOk X.prog X.w _ _ _ (.tup ys) from ⟨hz,its,r',PTup.new _ _⟩)
  exact ⟨.ref h'.objs.size,_,I2,rfl,q _ (I1.hok.fresh (Nat.le_refl _))⟩
 ·obtain ⟨its,r',pl,hz⟩:=I.tuple hq
  exact call_tuple_same pl ⟨.ref p,H,I,rfl,q⟩
noncomputable def tyV (K:PySem.W.Frag) (T:String) (x:V) (H:Hp):Prop:=match x with
 | .str _=>T="str"
 | .int _=>T="int"
 | .ref p=>(T="list" ∧ ∃ xs,SqL K H p xs)∨(T="tuple" ∧ ∃ xs,SqT K H p xs) ∨
   (T="dict" ∧ ((∃ kvs,H p=some (.dK kvs))∨∃ kvs,H p=some (.dT kvs)))∨(T="set" ∧ ∃ S n,H p=some (.set S n))
 | _=>False
theorem tyV_is {pins:List (Addr×Obj)} {σ:St} {H:Hp} {s:Shared} {T:String} {x:V} {v:Value} (I:Inv X pins σ H s) (r:RelV x v) (ty:tyV X.K T x H) :
  s.TypeIs v T∧∀ a,v=.ref a→∃ ob,s.heap.get? a=some ob∧ob.dict=none:=by
 cases x with
 | str z =>
  obtain ⟨t,rfl⟩:=r
  cases (show T="str" from ty)
  exact ⟨typeIs_str s z t,fun _ e=>nomatch e⟩
 | int i =>
  obtain ⟨t,rfl⟩:=r
  cases (show T="int" from ty)
  exact ⟨typeIs_int s i t,fun _ e=>nomatch e⟩
 | ref p =>
  cases r
  rcases ty with ⟨rfl,xs,hq⟩ | ⟨rfl,xs,hq⟩ | ⟨rfl,hk⟩ | ⟨rfl,S,n,hk⟩
  ·obtain ⟨its,_,pl,_⟩:=I.list hq
   refine ⟨pl.isList.typeIs,fun a e=>?_⟩
   cases e
   obtain ⟨o,n,e,c,hd,_⟩:=pl
   exact ⟨o,e,hd⟩
  ·obtain ⟨its,_,⟨o,e,c,d,_⟩,_⟩:=I.tupleP hq
   refine ⟨⟨o,e,c⟩,fun a e2=>?_⟩
   cases e2
   exact ⟨o,e,d⟩
  ·have z:∃ o,s.heap.get? p=some o∧o.ExactDict:=by
    rcases hk with ⟨kvs,hk⟩ | ⟨kvs,hk⟩
    ·obtain ⟨_,_,_,_,o,_,_,e,ex,_⟩:=I.hok p _ hk
     exact ⟨o,e,ex⟩
    ·obtain ⟨_,_,_,_,o,_,_,e,ex,_⟩:=I.hok p _ hk
     exact ⟨o,e,ex⟩
   obtain ⟨o,e,ex⟩:=z
   refine ⟨⟨o,e,ex.1⟩,fun a e2=>?_⟩
   cases e2
   exact ⟨o,e,ex.2.1⟩
  ·obtain ⟨o,_,_,_,e,ex,_⟩:=I.hok p _ hk
   refine ⟨⟨o,e,ex.1⟩,fun a e2=>?_⟩
   cases e2
   exact ⟨o,e,ex.2.1⟩
 | _=>exact False.elim ty
noncomputable def tBM (K:PySem.W.Frag) (T:String) (r:V→List V→Hp→VK→Prop) (to:TE) (t:TA):TE:=fun σ H Q=>to σ H fun x H1=>tyV K T x H1∧t σ H1 fun xs H2=>r x xs H2 Q
variable {o e:Expr} {es:List Expr} {to:TE} {t:TA} {name:Str} {apos cpos:Pos} {T id:String} {r:V→List V→Hp→VK→Prop}
theorem xbs (pa:PlainAttrs T) (slot:Slot T name id) (hty:typeOf (.builtin id)=pure (.type "method_descriptor")) (hm:MtR X id r) (ho:PE X o to) (ha:PA X (e :: es) t)
  (hbase:attributeBase o name X.env (eval o X.env)=eval o X.env:=by rfl)
  (hfew:((backTo cpos (starEach (e :: es) X.env)).all (fun x=>!x.1) && (backToKw cpos (keywordEach [] X.env)).all (fun x=>x.1.isSome)
   && decide ((e :: es).length + ([]:List Keyword).length + (if ([]:List Keyword).isEmpty then 0 else 1) < 30))=true:=by rfl)
  (hline:(apos.endLine == cpos.line)=true:=by rfl) (hs:starEach (e :: es) X.env=(false,eval e X.env) :: starEach es X.env:=by rfl) (hplain:(backTo cpos (starEach es X.env)).any (·.1)=false:=by rfl) :
  PE X (.Call (.Attribute o name apos) (e :: es) [] cpos) (tBM X.K T r to t):=by
 intro pins s σ H Q I h
 refine wpAny_Call_method_late hbase hfew hline rfl (thn (ho pins s σ H _ I h) fun v s1 ⟨x,H1,I1,r1,ty,q1⟩=>?_)
 obtain ⟨h1,h2⟩:=tyV_is I1 r1 ty
 refine ⟨T,id,pa,slot,hty,h1,h2,?_⟩
 have hA:=ha cpos pins s1 σ H1 _ I1 q1
 rw [hs] at hA ⊢
 refine Calls.callWith_builtin (by show (false || (backTo cpos (starEach es X.env)).any (·.1))=false;rw [hplain] <;> rfl) (Calls.evalArgs_plain ?_)
 exact thn hA fun us s2 ⟨vs,H2,I2,r2,q2⟩=>hm pins s2 σ H2 x vs v us Q I2 r1 r2 q2
end
end L2
namespace L2
open PySem PySem.Spec PyProof.Rows
noncomputable def MtM (X:Cx) (id:String) (r:V→List V→Hp→VK→Prop):Prop :=
 ∀ (pins:List (Addr×Obj)) (s:Shared) (σ:St) (H:Hp) (x:V) (xs:List V) (v:Value) (us:List Value) (Q:VK),Inv X pins σ H s→RelV x v→Vals xs us→r x xs H Q →
  wpAny (model X.prog X.w) X.A (call (.builtin id) (v :: us)) (EP X pins σ Q) X.xe s
theorem Vals.one:∀ {x:V} {us:List Value},Vals [x] us→∃ u,us=[u]∧RelV x u
 | _,_,.cons r .nil=>⟨_,rfl,r⟩
theorem Vals.eraseIdx:∀ {xs:List V} {us:List Value} (i:Nat),Vals xs us→Vals (xs.eraseIdx i) (us.eraseIdx i)
 | _,_,_,.nil=>.nil
 | _,_,0,.cons _ t=>t
 | _,_,i + 1,.cons r t=>.cons r (Vals.eraseIdx i t)
theorem Vals.rep {xs:List V} {us:List Value} (h:Vals xs us):∀ k:Nat,Vals (List.replicate k xs).flatten (List.replicate k us).flatten
 | 0=>.nil
 | k + 1=>by
  rw [List.replicate_succ,List.replicate_succ,List.flatten_cons,List.flatten_cons]
  exact Vals.append h (Vals.rep h k)
theorem Ybd {α:Type}:∀ (l:List α) (i:Nat),(l.eraseIdx i).length≤l.length
 | [],_=>Nat.le_refl _
 | _ :: _,0=>Nat.le_succ _
 | _ :: r,i + 1=>Nat.succ_le_succ (Ybd r i)
theorem xbd (its:List Value):∀ (k:Nat) (acc:List Value),
  List.foldl (fun x1 x2=>x1 ++ x2) acc.toArray (List.replicate k its.toArray)=(acc ++ (List.replicate k its).flatten).toArray
 | 0,acc=>by simp
 | k + 1,acc=>by
  have e:acc.toArray ++ its.toArray=(acc ++ its).toArray:=by simp
  have e2:(acc ++ its) ++ (List.replicate k its).flatten=acc ++ (List.replicate (k + 1) its).flatten:=by
   rw [List.replicate_succ,List.flatten_cons,List.append_assoc]
  rw [← e2,← xbd its k (acc ++ its),← e,List.replicate_succ,List.foldl_cons]
section
variable {X:Cx} {pins:List (Addr×Obj)} {σ:St} {H:Hp} {s:Shared} {l b:Addr} {xs ys zs:List V}
theorem Inv.lset {its its':List Value} {n:Nat} {f:Array Value→Array Value} {t':Nat} (I:Inv X pins σ H s) (hH:H l=some (.lst xs))
  (e:s.heap.get? l=some { cls:=.type "list",data:=.seq its.toArray n }) (hf:f its.toArray=its'.toArray) (hv:Vals ys its') (hz:ys.length≤sizeLine) :
  Inv X pins σ (upd H l (.lst ys)) { s with heap:=s.heap.update l (Obj.mapSeq f),toks:=t' }:=by
 have q:=PySem.IsL.update e f
 rw [hf] at q
 refine I.write (x:=l) (e:=l) (by rw [hH];exact trivial) (.inl rfl) (fun b' u hb hu=>(Heap.get?_update_other s.heap (Obj.mapSeq f) (Ne.symm hb)).trans hu) ⟨_,q⟩ ?_
 exact ⟨hz,its',_,hv,q⟩
theorem Inv.lnew {its:List Value} {t':Nat} (I:Inv X pins σ H s) (hv:Vals ys its) (hz:ys.length≤sizeLine) :
  Inv X pins σ (upd H s.heap.objs.size (.lst ys)) { s with heap:=s.heap.push { cls:=.type "list",data:=.seq its.toArray },toks:=t' } :=
 I.laid (fun _ _ q=>Heap.get?_push_of_some _ q) (Nat.le_refl _) ⟨hz,its,0,hv,Heap.get?_push_size _ rfl⟩
theorem Inv.fresh (I:Inv X pins σ H s):H s.heap.objs.size=none:=I.hok.fresh (Nat.le_refl _)
theorem Inv.lstM (I:Inv X pins σ H s) (hH:H l=some (.lst xs)):xs.length≤sizeLine∧∃ (its:List Value) (n:Nat),Vals xs its∧xs.length=its.length∧s.heap.get? l=some { cls:=.type "list",data:=.seq its.toArray n }:=by
 obtain ⟨z,its,n,r,e⟩:=I.hok l _ hH
 exact ⟨z,its,n,r,r.length,e⟩
theorem notLongL {n:Nat} (h:n≤sizeLine):Builtin.List.listTooLong n=false:=by
 unfold Builtin.List.listTooLong
 exact decide_eq_false (by omega)
end
section
variable {X:Cx}
noncomputable def rAppend:V→List V→Hp→VK→Prop:=fun x vs H Q=>∃ l xs y,x=.ref l∧vs=[y]∧H l=some (.lst xs)∧xs.length < sizeLine∧Q .non (upd H l (.lst (xs ++ [y])))
theorem yaZ:MtM X "list.append" rAppend:=by
 intro pins s σ H x vs v us Q I rx rv h
 obtain ⟨l,xs,y,rfl,rfl,hH,hz,q⟩:=h
 cases rx
 obtain ⟨u,rfl,ru⟩:=rv.one
 obtain ⟨z,its,n,r,hl,e⟩:=I.lstM hH
 refine call_meets F.slot_list_append ⟨_,e,rfl⟩ F.entry_list_append (F.args_list_append_2 _ _) (PySem.list_append l its.toArray n u (by rw [List.size_toArray];omega)) ⟨e,?_⟩
 refine ⟨.non,_,I.lset (its':=its ++ [u]) hH e (by simp) (r.append (.cons ru .nil)) ?_,rfl,q⟩
 rw [List.length_append,List.length_singleton]
 omega
noncomputable def rExtend:V→List V→Hp→VK→Prop:=fun x vs H Q=>∃ l b xs zs,x=.ref l∧vs=[.ref b]∧H l=some (.lst xs)∧H b=some (.lst zs)∧xs.length + zs.length≤sizeLine∧Q .non (upd H l (.lst (xs ++ zs)))
theorem ybz:MtM X "list.extend" rExtend:=by
 intro pins s σ H x vs v us Q I rx rv h
 obtain ⟨l,b,xs,zs,rfl,rfl,hH,hB,hz,q⟩:=h
 cases rx
 obtain ⟨u,rfl,ru⟩:=rv.one
 cases ru
 obtain ⟨z,its,n,r,hl,e⟩:=I.lstM hH
 obtain ⟨z2,its2,n2,r2,hl2,e2⟩:=I.lstM hB
 have hsz:its.toArray.size + its2.toArray.size≤sizeLine:=by rw [List.size_toArray,List.size_toArray];omega
 have hlong:¬ (!its.toArray.isEmpty && Builtin.List.listTooLong (its.toArray.size + its2.toArray.size))=true:=by
  rw [notLongL hsz,Bool.and_false]
  exact Bool.false_ne_true
 refine call_meets F.slot_list_extend ⟨_,e,rfl⟩ F.entry_list_extend (F.args_list_extend_2 _ _)
  (AutoSeq1.list_extend_list_list_0 l its.toArray n b its2.toArray n2 hlong (by rw [List.size_toArray];omega) (by omega)) ⟨e,e2,?_⟩
 refine ⟨.non,_,I.lset (its':=its ++ its2) hH e (by simp) (r.append r2) ?_,rfl,q⟩
 rw [List.length_append]
 omega
noncomputable def rPopAt:V→List V→Hp→VK→Prop:=fun x vs H Q=>∃ l xs i k y,x=.ref l∧vs=[.int i]∧H l=some (.lst xs)∧-(2 ^ 63)≤i∧i < 2 ^ 63∧seqIndex? i xs.length=some k∧xs[k]?=some y∧Q y (upd H l (.lst (xs.eraseIdx k)))
theorem ybN:MtM X "list.pop" rPopAt:=by
 intro pins s σ H x vs v us Q I rx rv h
 obtain ⟨l,xs,i,k,y,rfl,rfl,hH,h1,h2,hk,hy,q⟩:=h
 cases rx
 obtain ⟨u,rfl,ru⟩:=rv.one
 obtain ⟨t,rfl⟩:=ru
 obtain ⟨z,its,n,r,hl,e⟩:=I.lstM hH
 obtain ⟨w,hw,rw'⟩:=r.get hy
 refine call_meets F.slot_list_pop ⟨_,e,rfl⟩ F.entry_list_pop (F.args_list_pop_2 _ _)
  (MeetsSeq.list_pop_at l its.toArray n i t k w (fitsIndex_both h1 h2) (by rw [List.size_toArray,← hl];exact hk) (by rw [← Array.getElem?_toList];exact hw) (by rw [List.size_toArray];omega)) ⟨e,?_⟩
 refine ⟨y,_,I.lset (its':=its.eraseIdx k) hH e ?_ (r.eraseIdx k) ?_,rw',q⟩
 ·show its.toArray.eraseIdxIfInBounds k=(its.eraseIdx k).toArray
  rw [List.eraseIdxIfInBounds_toArray]
 ·have:=Ybd xs k
  omega
noncomputable def rCat:R2:=fun x y H Q=>∃ l b xs zs,x=.ref l∧y=.ref b∧H l=some (.lst xs)∧H b=some (.lst zs)∧xs.length + zs.length≤sizeLine∧∀ p,H p=none→Q (.ref p) (upd H p (.lst (xs ++ zs)))
theorem zaV:OpR X (binaryOp .Add) rCat:=by
 intro pins s σ H x y v u Q I rx ry h
 obtain ⟨l,b,xs,zs,rfl,rfl,hH,hB,hz,q⟩:=h
 cases rx
 cases ry
 obtain ⟨z,its,n,r,hl,e⟩:=I.lstM hH
 obtain ⟨z2,its2,n2,r2,hl2,e2⟩:=I.lstM hB
 refine PySem.P.add_list e e2 ?_ (by rw [List.size_toArray,List.size_toArray];omega)
 have ea:its.toArray ++ its2.toArray=(its ++ its2).toArray:=by simp
 rw [ea]
 exact ⟨.ref _,_,I.lnew (t':=s.toks) (r.append r2) (by rw [List.length_append];omega),rfl,q _ I.fresh⟩
noncomputable def rRep:R2:=fun x y H Q=>∃ l k xs,x=.ref l∧y=.int k∧H l=some (.lst xs)∧-(2 ^ 63)≤k∧k < 2 ^ 63∧xs.length * k.toNat≤sizeLine ∧
 ∀ p,H p=none→Q (.ref p) (upd H p (.lst (List.replicate k.toNat xs).flatten))
theorem Xb0 {α:Type} (xs:List α) (k:Nat):(List.replicate k xs).flatten.length=k * xs.length:=by
 induction k with
 | zero=>simp
 | succ k ih=>rw [List.replicate_succ,List.flatten_cons,List.length_append,ih,Nat.succ_mul,Nat.add_comm]
theorem Za3:OpR X (binaryOp .Mult) rRep:=by
 intro pins s σ H x y v u Q I rx ry h
 obtain ⟨l,k,xs,rfl,rfl,hH,h1,h2,hz,q⟩:=h
 cases rx
 obtain ⟨t,rfl⟩:=ry
 obtain ⟨z,its,n,r,hl,e⟩:=I.lstM hH
 have hlen:its.toArray.size * k.toNat≤sizeLine:=by rw [List.size_toArray,← hl];exact hz
 have hcap:¬ its.toArray.size * k.toNat > (2 ^ 63 - 1) / 8:=by
  have:(sizeLine:Nat)≤(2 ^ 63 - 1) / 8:=by decide
  omega
 have hfit:¬ (!Builtin.List.listFitsIndex k)=true:=by
  rw [fitsIndex_both h1 h2]
  exact Bool.false_ne_true
 have hlong:¬ Builtin.List.listTooLong (its.toArray.size * k.toNat)=true:=by
  rw [notLongL hlen]
  exact Bool.false_ne_true
 have hnew:List.foldl (fun x1 x2=>x1 ++ x2) #[] (List.replicate (if its.toArray.isEmpty=true then 0 else k.toNat) its.toArray)=(List.replicate k.toNat its).flatten.toArray:=by
  have f0:∀ m:Nat,List.foldl (fun x1 x2=>x1 ++ x2) #[] (List.replicate m its.toArray)=(List.replicate m its).flatten.toArray:=fun m=>by
   have:=xbd its m []
   rw [List.nil_append] at this
   exact this
  rw [f0]
  cases its with
  | nil=>simp
  | cons a r'=>rw [if_neg (by simp)]
 refine wpAny_binaryOp_repeat_ref (T:="list") (U:="int") (by decide) ⟨_,e,rfl⟩ (fun s'=>typeIs_int s' k t) noFill_list_mul F.fills_int_mul F.slot_int_rmul repeat_list F.slot_int_index.lookup
  (call_meets F.slot_int_rmul (typeIs_int s k t) F.entry_int_rmul (F.args_int_rmul_2 _ _) (int___rmul___int_list k t l its.toArray n)
   ⟨e,rfl,⟨_,e,rfl⟩,call_meets F.slot_list_mul ⟨_,e,rfl⟩ F.entry_list_mul (F.args_list_mul_2 _ _) (AutoListH.list___mul___list_int_3 l its.toArray n k t hfit hcap hlong) ⟨e,?_⟩⟩)
 rw [hnew]
 exact ⟨.ref _,_,I.lnew (t':=s.toks) (r.rep k.toNat) (by rw [Xb0,Nat.mul_comm];exact hz),rfl,q _ I.fresh⟩
end
section
variable {prog:Program} {w:World} {A:Around} {E:Value→Shared→Prop} {s:Shared}
end
section
variable {X:Cx}
end
end L2
namespace L2
open PySem PySem.Spec PyProof.Rows
section
variable {κ:Type} [DecidableEq κ]
noncomputable def valV (kvs:List (κ×V)) (k:κ):Option V:=(kvs.find? fun kv=>decide (kv.1=k)).map (·.2)
noncomputable def putK (kvs:List (κ×V)) (k:κ) (v:V):List (κ×V) :=
 if (kvs.any fun kv=>decide (kv.1=k))=true then kvs.map (fun kv=>if kv.1=k then (kv.1,v) else kv) else kvs ++ [(k,v)]
theorem Xa6 {p:κ×V} {r:List (κ×V)} {k:κ} (e:p.1=k):valV (p :: r) k=some p.2:=by simp [valV,List.find?_cons,e]
theorem za7 {p:κ×V} {r:List (κ×V)} {k:κ} (e:¬ p.1=k):valV (p :: r) k=valV r k:=by simp [valV,List.find?_cons,e]
theorem Ybm (k:κ):∀ kvs:List (κ×V),(kvs.any fun kv=>decide (kv.1=k))=(valV kvs k).isSome
 | []=>rfl
 | p :: r=>by
  rw [List.any_cons]
  by_cases e:p.1=k
  ·simp only [Xa6 e,decide_eq_true e,Bool.true_or,Option.isSome_some]
  ·rw [za7 e,decide_eq_false e,Bool.false_or];exact Ybm k r
theorem xaO (kvs:List (κ×V)) (k:κ) (v:V):(putK kvs k v).length≤kvs.length + 1:=by
 unfold putK
 split
 ·rw [List.length_map];omega
 ·rw [List.length_append,List.length_cons,List.length_nil];omega
theorem RelO.isSome_eq {o:Option V} {u:Option Value} (r:RelO o u):o.isSome=u.isSome:=by
 cases o with
 | none=>cases u with
  | none=>rfl
  | some _=>exact (show False from r).elim
 | some _=>cases u with
  | none=>exact (show False from r).elim
  | some _=>rfl
theorem RelO.getD {o:Option V} {u:Option Value} {d:V} {d':Value} (r:RelO o u) (rd:RelV d d'):RelV (o.getD d) (u.getD d'):=by
 cases o with
 | none=>cases u with
  | none=>exact rd
  | some _=>exact (show False from r).elim
 | some _=>cases u with
  | none=>exact (show False from r).elim
  | some _=>exact r
theorem KV.val {kvs:List (κ×V)} {vs:List (κ×Value)} (r:KV kvs vs) (k:κ):RelO (valV kvs k) (valueAt vs k):=by
 unfold KV at r
 induction r with
 | nil=>exact True.intro
 | @cons p q ps qs h t ih =>
  obtain ⟨h1,h2⟩:=h
  by_cases e:p.1=k
  ·have e':q.1=k:=h1.symm.trans e
   have b:valueAt (q :: qs) k=some q.2:=by simp [valueAt,List.find?_cons,e']
   rw [Xa6 e,b];exact h2
  ·have e':¬ q.1=k:=fun z=>e (h1.trans z)
   have b:valueAt (q :: qs) k=valueAt qs k:=by simp [valueAt,List.find?_cons,e']
   rw [za7 e,b];exact ih
theorem KV.any {kvs:List (κ×V)} {vs:List (κ×Value)} (r:KV kvs vs) (k:κ):(kvs.any fun kv=>decide (kv.1=k))=vs.any fun kv=>decide (kv.1=k):=by
 unfold KV at r
 induction r with
 | nil=>rfl
 | cons h t ih=>rw [List.any_cons,List.any_cons,ih,h.1]
theorem KV.repl {kvs:List (κ×V)} {vs:List (κ×Value)} (r:KV kvs vs) (k:κ) {y:V} {u:Value} (ry:RelV y u) :
  KV (kvs.map fun kv=>if kv.1=k then (kv.1,y) else kv) (vs.map fun kv=>if kv.1=k then (kv.1,u) else kv):=by
 unfold KV at r ⊢
 induction r with
 | nil=>exact .nil
 | @cons p q ps qs h t ih =>
  rw [List.map_cons,List.map_cons]
  refine .cons ?_ ih
  obtain ⟨h1,h2⟩:=h
  by_cases e:p.1=k
  ·rw [if_pos e,if_pos (h1.symm.trans e)];exact ⟨h1,ry⟩
  ·rw [if_neg e,if_neg (fun z=>e (h1.trans z))];exact ⟨h1,h2⟩
theorem KV.put {kvs:List (κ×V)} {vs:List (κ×Value)} (r:KV kvs vs) (k:κ) {y:V} {u:Value} (ry:RelV y u):KV (putK kvs k y) (stored vs k u):=by
 unfold putK stored
 rw [r.any k]
 by_cases e:(vs.any fun kv=>decide (kv.1=k))=true
 ·rw [if_pos e,if_pos e];exact r.repl k ry
 ·rw [if_neg e,if_neg e];exact Paired.snoc r ⟨rfl,ry⟩
theorem KV.length {kvs:List (κ×V)} {vs:List (κ×Value)} (r:KV kvs vs):kvs.length=vs.length:=Paired.length r
end
theorem Xbs {P:Program} {w:World} {k:Key} {u:Value} (r:RelV (kV k) u):(mixKind P w).is k u=true:=by
 cases k with
 | inl i=>obtain ⟨t,e⟩:=(show ∃ t,u=Value.int i t from r);subst e;exact Zbg P w i t
 | inr x=>obtain ⟨t,e⟩:=(show ∃ t,u=Value.str x t from r);subst e;exact Ybg P w x t
theorem Xbd {P:Program} {w:World}:∀ {ks:List Key} {us:List Value},Vals (ks.map kV) us→ItemsAre (mixKind P w) ks us
 | [],_,r=>by rw [List.map_nil] at r;cases r;exact .nil
 | k :: ks,_,r=>by
  rw [List.map_cons] at r
  cases r with
  | cons h t=>exact .cons (Xbs h) (Xbd t)
abbrev KT (H:Hp):List (List Key×V)→List (List Key×Addr×Value)→Prop:=Paired fun p q=>p.1=q.1∧H q.2.1=some (.tup (p.1.map kV))∧RelV p.2 q.2.2
theorem KT.val {H:Hp} {kvs:List (List Key×V)} {xs:List (List Key×Addr×Value)} (r:KT H kvs xs) (k:List Key):RelO (valV kvs k) ((atKey xs k).map (·.2)):=by
 induction r with
 | nil=>exact True.intro
 | @cons p q ps qs h t ih =>
  obtain ⟨h1,_,h2⟩:=h
  by_cases e:p.1=k
  ·have e':q.1=k:=h1.symm.trans e
   have b:atKey (q :: qs) k=some q.2:=by simp [atKey,List.find?_cons,e']
   rw [Xa6 e,b];exact h2
  ·have e':¬ q.1=k:=fun z=>e (h1.trans z)
   have b:atKey (q :: qs) k=atKey qs k:=by simp [atKey,List.find?_cons,e']
   rw [za7 e,b];exact ih
theorem KT.repl {H:Hp} {kvs:List (List Key×V)} {xs:List (List Key×Addr×Value)} (r:KT H kvs xs) (k:List Key) {y:V} {u:Value} (ry:RelV y u) :
  KT H (kvs.map fun kv=>if kv.1=k then (kv.1,y) else kv) (xs.map (putAt k u)):=by
 induction r with
 | nil=>exact .nil
 | @cons p q ps qs h t ih =>
  rw [List.map_cons,List.map_cons]
  refine .cons ?_ ih
  obtain ⟨h1,h2,h3⟩:=h
  unfold putAt
  by_cases e:p.1=k
  ·rw [if_pos e,if_pos (h1.symm.trans e)];exact ⟨h1,h2,ry⟩
  ·rw [if_neg e,if_neg (fun z=>e (h1.trans z))];exact ⟨h1,h2,h3⟩
theorem KT.put {H:Hp} {kvs:List (List Key×V)} {xs:List (List Key×Addr×Value)} (r:KT H kvs xs) (k:List Key) {b:Addr} {y:V} {u:Value} (hb:H b=some (.tup (k.map kV))) (ry:RelV y u) :
  KT H (putK kvs k y) (storedH xs k b u):=by
 have e:(kvs.any fun kv=>decide (kv.1=k))=(atKey xs k).isSome:=by
  rw [Ybm,(r.val k).isSome_eq,Option.isSome_map]
 unfold putK storedH
 rw [e]
 by_cases q:(atKey xs k).isSome=true
 ·rw [if_pos q,if_pos q];exact r.repl k ry
 ·rw [if_neg q,if_neg q];exact Paired.snoc r ⟨rfl,hb,ry⟩
theorem KT.keeps {H H':Hp} {kvs:List (List Key×V)} {xs:List (List Key×Addr×Value)} (r:KT H kvs xs) (ht:∀ b ys,H b=some (.tup ys)→H' b=some (.tup ys)):KT H' kvs xs :=
 Paired.mapP r fun _ _ z=>⟨z.1,ht _ _ z.2.1,z.2.2⟩
section
variable {P:Program} {w:World} {H:Hp} {h:Heap} {a:Addr}
theorem rd_of {u:HO} (ok:HOk P w H h) (e:Rd H a u):ObjOk P w H h a u:=e.ok ok
theorem zbt {kvs:List (Key×V)} (ok:HOk P w H h) (e:Rd H a (.dK kvs)):kvs.length≤sizeLine∧(a == sysModules)=false∧∃ vs,KV kvs vs∧h.DictOf (mixKind P w) a vs :=
 show ObjOk P w H h a (.dK kvs) from rd_of ok e
theorem zb1 {kvs:List (Key×V)} (ok:HOk P w H h) (e:H a=some (.dK kvs)):kvs.length≤sizeLine∧(a == sysModules)=false∧∃ vs,KV kvs vs∧h.DictOf (mixKind P w) a vs:=zbt ok (.inl e)
theorem yaL {ks:List Key} (ok:HOk P w H h) (e:H a=some (.tup (ks.map kV))):(tupleKind (mixKind P w)).is h ks a:=by
 obtain ⟨_,its,r,o,h1,h2,_,n,h3⟩:=(show ObjOk P w H h a (.tup (ks.map kV)) from ok a _ e)
 exact ⟨o,its.toArray,n,h1,h2,h3,by simpa using Xbd r⟩
theorem ybt {kvs:List (List Key×V)} (ok:HOk P w H h) (e:Rd H a (.dT kvs)):kvs.length≤sizeLine∧(a == sysModules)=false ∧
  ∃ xs,KT H kvs xs∧h.DictOfH (tupleKind (mixKind P w)) a xs:=by
 obtain ⟨z,y,xs,r,o,es,ep,h1,h2,h3,h4,h5⟩:=(show ObjOk P w H h a (.dT kvs) from rd_of ok e)
 refine ⟨z,y,xs,r,o,es,ep,h1,h2,h3,h4,fun x hx=>?_,h5⟩
 have all:∀ {l:List (List Key×V)} {m:List (List Key×Addr×Value)},KT H l m→∀ x∈m,(tupleKind (mixKind P w)).is h x.1 x.2.1:=by
  intro l m q
  induction q with
  | nil=>intro x hx;exact nomatch hx
  | @cons p q ps qs hq t ih =>
   intro x hx
   rcases List.mem_cons.mp hx with e | hx
   ·subst e
    exact yaL ok (by rw [← hq.1];exact hq.2.1)
   ·exact ih x hx
 exact all r x hx
theorem dt_of {kvs:List (List Key×V)} (ok:HOk P w H h) (e:H a=some (.dT kvs)):kvs.length≤sizeLine∧(a == sysModules)=false ∧
  ∃ xs,KT H kvs xs∧h.DictOfH (tupleKind (mixKind P w)) a xs:=ybt ok (.inl e)
end
noncomputable def DGet (H:Hp) (a:Addr) (y:V) (r:Option V):Prop :=
 (∃ kvs k,Rd H a (.dK kvs)∧y=kV k∧r=valV kvs k)∨∃ kvs k b,Rd H a (.dT kvs)∧y=.ref b∧H b=some (.tup (k.map kV))∧r=valV kvs k
noncomputable def DPut (H:Hp) (a:Addr) (y v:V) (H':Hp):Prop :=
 (∃ kvs k,H a=some (.dK kvs)∧y=kV k∧kvs.length < sizeLine∧H'=upd H a (.dK (putK kvs k v))) ∨
 ∃ kvs k b,H a=some (.dT kvs)∧y=.ref b∧H b=some (.tup (k.map kV))∧kvs.length < sizeLine∧H'=upd H a (.dT (putK kvs k v))
theorem DGet.k {H:Hp} {a:Addr} {kvs:List (Key×V)} {k:Key} (e:H a=some (.dK kvs)):DGet H a (kV k) (valV kvs k):=.inl ⟨kvs,k,.inl e,rfl,rfl⟩
theorem DPut.k {H:Hp} {a:Addr} {kvs:List (Key×V)} {k:Key} {v:V} (e:H a=some (.dK kvs)) (hl:kvs.length < sizeLine):DPut H a (kV k) v (upd H a (.dK (putK kvs k v))):=.inl ⟨kvs,k,e,rfl,hl,rfl⟩
section
variable {X:Cx} {pins:List (Addr×Obj)} {σ:St} {H:Hp} {s:Shared} {a:Addr} {y v:V} {u r:Value} {o:Option V} {A:Around} {E:Value→Shared→Prop}
theorem Inv.big (I:Inv X pins σ H s):sysModules < s.heap.objs.size:=by
 have h:mainGlobals < s.heap.objs.size:=(I.mod.glob.keeps I.bk).lt
 exact Nat.lt_trans (by decide) h
theorem Zbz {Q:Value→Shared→Prop} (hu:A.units + 1 < cLine) (I:Inv X pins σ H s) (g:DGet H a y (some v)) (ry:RelV y u) (h:∀ w' s',Inv X pins σ H s'→RelV v w'→Q w' s') :
  wpAny (model X.prog X.w) A (getItem (.ref a) u) Q E s:=by
 rcases g with ⟨kvs,k,e,ey,l⟩ | ⟨kvs,k,b,e,ey,eb,l⟩
 ·subst ey
  obtain ⟨z,hd,vs,rel,dd⟩:=zbt I.hok e
  obtain ⟨w',hw,rw'⟩:=RelO.some_of (v:=v) (o:=valueAt vs k) (by rw [l];exact rel.val k)
  exact wpAny_getItem_of (Xbs ry) dd.mapOf hw (h w' _ (I.tok _) rw')
 ·subst ey
  cases (show u=Value.ref b from ry)
  obtain ⟨z,hd,xs,rel,dd⟩:=ybt I.hok e
  obtain ⟨w',hw,rw'⟩:=RelO.some_of (v:=v) (o:=(atKey xs k).map (·.2)) (by rw [l];exact rel.val k)
  obtain ⟨p,hp,hp2⟩:=Option.map_eq_some_iff.mp hw
  refine wpAny_getItem_heap (tupleKind_room_in1 hu) (yaL I.hok eb) dd hp ?_
  rw [hp2]
  exact h w' _ (I.tok _) rw'
theorem yb1 {Q:Value→Shared→Prop} (hu:A.units + 1 < cLine) (I:Inv X pins σ H s) (g:DGet H a y o) (ry:RelV y u) (h:∀ s',Inv X pins σ H s'→Q (.bool (!o.isSome)) s') :
  wpAny (model X.prog X.w) A (compareOp .NotIn u (.ref a)) Q E s:=by
 rcases g with ⟨kvs,k,e,ey,l⟩ | ⟨kvs,k,b,e,ey,eb,l⟩
 ·subst ey
  obtain ⟨z,hd,vs,rel,dd⟩:=zbt I.hok e
  refine wpAny_notIn_of (Xbs ry) hd dd.mapOf ?_
  rw [← (rel.val k).isSome_eq,← l]
  exact h _ (I.tok _)
 ·subst ey
  cases (show u=Value.ref b from ry)
  obtain ⟨z,hd,xs,rel,dd⟩:=ybt I.hok e
  refine wpAny_notIn_heap (tupleKind_room_in1 hu) (yaL I.hok eb) hd dd ?_
  have q:=(rel.val k).isSome_eq
  rw [Option.isSome_map] at q
  rw [← q,← l]
  exact h _ (I.tok _)
theorem ya7 {h':Heap} {t':Nat} {ob:HO} (I:Inv X pins σ H s) (mu:Mut (H a)) (hs:Heap.SameBut a s.heap h') (he:∃ q,h'.get? a=some q) (new:ObjOk X.prog X.w (upd H a ob) h' a ob) :
  Inv X pins σ (upd H a ob) { s with heap:=h',toks:=t' } :=
 I.write (x:=a) (e:=a) mu (.inl rfl) (fun b q hb z=>(hs.2 b hb).trans z) he new
theorem Ybz {P:Program} {w:World} {H':Hp} {h':Heap} {kvs:List (Key×V)} {vs:List (Key×Value)} (z:kvs.length≤sizeLine) (hd:(a == sysModules)=false) (rel:KV kvs vs) (dd:h'.DictOf (mixKind P w) a vs) :
  ObjOk P w H' h' a (.dK kvs):=⟨z,hd,vs,rel,dd⟩
theorem xbz {H':Hp} {Q:Unit→Shared→Prop} (hu:A.units + 1 < cLine) (I:Inv X pins σ H s) (g:DPut H a y v H') (ry:RelV y u) (rv:RelV v r) (h:∀ s',Inv X pins σ H' s'→Q () s') :
  wpAny (model X.prog X.w) A (setItem (.ref a) u r) Q E s:=by
 rcases g with ⟨kvs,k,e,ey,l,eH⟩ | ⟨kvs,k,b,e,ey,eb,l,eH⟩
 ·subst ey eH
  obtain ⟨z,hd,vs,rel,dd⟩:=zb1 I.hok e
  have hz:vs.length≤sizeLine:=by rw [← rel.length];exact z
  have hl:(putK kvs k v).length≤sizeLine:=by have:=xaO kvs k v;omega
  refine wpAny_setItem_pairs (hsz:=hz) (Xbs ry) dd fun h' dd' hs=>h _ ?_
  have he:∃ q,h'.get? a=some q:=let ⟨q,_,_,hq,_⟩:=dd';⟨q,hq⟩
  exact ya7 I (by rw [e];exact True.intro) hs he (Ybz hl hd (rel.put k rv) dd')
 ·subst ey eH
  cases (show u=Value.ref b from ry)
  obtain ⟨z,hd,xs,rel,dd⟩:=dt_of I.hok e
  have hz:xs.length≤sizeLine:=by rw [← Paired.length rel];exact z
  have hl:(putK kvs k v).length≤sizeLine:=by have:=xaO kvs k v;omega
  refine wpAny_setItem_heap (hsz:=hz) (tupleKind_room_in1 hu) (yaL I.hok eb) dd fun h' dd' hs=>h _ ?_
  obtain ⟨q,es,ep,hq,h2,h3,h4,_,h5⟩:=dd'
  refine ya7 I (by rw [e];exact True.intro) hs ⟨q,hq⟩ ⟨hl,hd,_,(rel.put k eb rv).keeps fun c ys ec=>?_,q,es,ep,hq,h2,h3,h4,h5⟩
  rw [Zai (yb0 ec e (fun z=>nomatch z))]
  exact ec
end
section
variable {X:Cx} {pins:List (Addr×Obj)} {σ:St} {H:Hp} {s:Shared} {a:Addr} {kvs:List (Key×V)} {k:Key} {u:Value} {A:Around} {E:Value→Shared→Prop}
end
noncomputable def NoSl (i:Expr):Prop:=∀ ov iv,subscripted i false ov iv=operate [ov,iv] (getItem ov iv)
theorem Xbz {prog:Program} {w:World} {A:Around} {E:Value→Shared→Prop} {s:Shared} {env:Env} {value slice:Expr} {pos:Pos} {T id:String} {Q:Value→Shared→Prop}
  (hl:typeLookup (.type T) "__getitem__" = pure (some (.builtin id))) (hs:NoSl slice)
  (h:wpAny (model prog w) A (eval value env) (fun o s₁=>wpAny (model prog w) A (eval slice env) (fun i s₂=>s₂.TypeIs o T∧wpAny (model prog w) A (getItem o i) Q E s₂) E s₁) E s) :
  wpAny (model prog w) A (eval (.Subscript value slice pos) env) Q E s:=by
 refine Subscript_ (wpAny_mono h (fun o s₁ h₁=>wpAny_mono h₁ (fun i s₂ h₂=>?_) fun _ _ x=>x) fun _ _ x=>x)
 obtain ⟨hT,h₂⟩:=h₂
 unfold subscriptTail
 refine wpAny_bind ?_
 rw [getitemInPython_of_ne hT.not_modules]
 refine wpAny_bind (wpAny_specialOf hT hl ?_)
 have fin:wpAny (model prog w) A (subscripted slice false o i) (fun r s₃=>wpAny (model prog w) A (letTemporaryGo value o r >>= fun _=>pure r) Q E s₃) E s₂:=by
  rw [hs o i]
  exact wpAny_operating (wpAny_mono h₂ (fun r s₃ h₃=>wpAny_bind (wpAny_letTemporaryGo (wpAny_pure h₃))) fun _ _ x=>x)
 first
  | exact wpAny_pure (wpAny_bind fin)
  | exact wpAny_bind (wpAny_pure (wpAny_bind fin))
  | exact wpAny_bind fin
theorem Ybh {X:Cx} {pins:List (Addr×Obj)} {σ:St} {H:Hp} {s:Shared} {a:Addr} {y:V} {o:Option V} (I:Inv X pins σ H s) (g:DGet H a y o):s.TypeIs (.ref a) "dict" := by
 rcases g with ⟨kvs,k,e,_,_⟩ | ⟨kvs,k,b,e,_,_,_⟩
 ·obtain ⟨_,_,vs,_,dd⟩:=zbt I.hok e
  exact dd.typeIs
 ·obtain ⟨_,_,xs,_,dd⟩:=ybt I.hok e
  exact dd.typeIs
noncomputable def tDGet (td ty:TE):TE:=fun σ H Q=>td σ H fun x H1=>ty σ H1 fun y H2=>∃ a v,x=.ref a∧DGet H2 a y (some v)∧Q v H2
noncomputable def tDNotIn (ty td:TE):TE:=fun σ H Q=>ty σ H fun y H1=>td σ H1 fun x H2=>∃ a o,x=.ref a∧DGet H2 a y o∧Q (.bl (!o.isSome)) H2
noncomputable def sDPut (td ty tv:TE):TS:=fun D σ H=>tv σ H fun v H1=>td σ H1 fun x H2=>ty σ H2 fun y H3=>∃ a H4,x=.ref a∧DPut H3 a y v H4∧D.nx σ H4
section
variable {X:Cx} {o i e value:Expr} {pos pos' tpos:Pos} {td ty tv:TE}
theorem xbh (hu:X.A.units + 1 < cLine) (ho:PE X o td) (hi:PE X i ty) (hs:NoSl i):PE X (.Subscript o i pos) (tDGet td ty):=by
 intro pins s σ H Q I h
 refine Xbz PySem.F.slot_dict_getitem.lookup hs (thn (ho pins s σ H _ I h) fun u s1 ⟨x,H1,I1,rx,q1⟩=>thn (hi pins s1 σ H1 _ I1 q1) fun iv s2 ⟨y,H2,I2,ry,a,v,ex,g,q2⟩=>?_)
 subst ex
 obtain rfl:u=Value.ref a:=rx
 exact ⟨Ybh I2 g,Zbz hu I2 g ry fun w' s3 I3 rw'=>⟨v,H2,I3,rw',q2⟩⟩
theorem zbA (hu:X.A.units + 1 < cLine) (hi:PE X i ty) (ho:PE X o td):PC X .NotIn i o (tDNotIn ty td):=by
 intro pins s σ H Q I h
 refine thn (hi pins s σ H _ I h) fun iv s1 ⟨y,H1,I1,ry,q1⟩=>thn (ho pins s1 σ H1 _ I1 q1) fun u s2 ⟨x,H2,I2,rx,a,ov,ex,g,q2⟩=>?_
 subst ex
 obtain rfl:u=Value.ref a:=rx
 exact yb1 hu I2 g ry fun s3 I3=>⟨.bl (!ov.isSome),H2,I3,rfl,q2⟩
theorem Xbh (hu:X.A.units + 1 < cLine) (ho:PE X o td) (hi:PE X i ty) (hv:PE X value tv) (hs:swapsWith value (some (.Subscript o i pos')) pos.line X.env=pure false) :
  PS X (.Assign [.Subscript o i pos'] value pos) (sDPut td ty tv):=by
 intro pins s σ H D I h
 refine wpAny_Assign_Subscript (thn (hv pins s σ H _ I h) fun r s1 ⟨v,H1,I1,rv,q1⟩=>thn (ho pins s1 σ H1 _ I1 q1) fun u s2 ⟨x,H2,I2,rx,q2⟩=>thn (hi pins s2 σ H2 _ I2 q2) fun iv s3 ⟨y,H3,I3,ry,a,H4,ex,g,q3⟩=>?_) hs
 subst ex
 obtain rfl:u=Value.ref a:=rx
 exact xbz hu I3 g ry rv fun s4 I4=>⟨σ,H4,I4,q3⟩
end
theorem xbm {P:Program} {w:World} {H:Hp} (h:Heap) (hb:sysModules < h.objs.size):ObjOk P w H (h.push { cls:=.type "dict",data:=.dict #[] }) h.objs.size (.dK []) :=
 ⟨Nat.zero_le _,beq_eq_false_iff_ne.mpr (Ne.symm (Nat.ne_of_lt hb)),[],.nil,Heap.DictOf.new h⟩
noncomputable def tDNewK:TE:=fun _ H Q=>∀ p,H p=none→Q (.ref p) (upd H p (.dK []))
section
variable {X:Cx} {pos:Pos}
theorem Xbm:PE X (.Dict [] [] pos) tDNewK:=fun pins s σ H Q I h =>
 wpAny_Dict_empty ⟨.ref s.heap.objs.size,_,I.laid (a:=s.heap.objs.size) (o:=.dK []) (t':=s.toks) (fun _ _ q=>Heap.get?_push_of_some _ q) (Nat.le_refl _) (xbm s.heap I.big),rfl,h _ (I.hok.fresh (Nat.le_refl _))⟩
end
noncomputable def tPairs:List (TE×TE)→St→Hp→(List (V×V)→Hp→Prop)→Prop
 | [],_,H,Q=>Q [] H
 | (tk,tv) :: r,σ,H,Q=>tk σ H fun x H1=>tv σ H1 fun y H2=>tPairs r σ H2 fun ps H3=>Q ((x,y) :: ps) H3
abbrev VV:List (V×V)→List (Value×Value)→Prop:=Paired fun p q=>RelV p.1 q.1∧RelV p.2 q.2
noncomputable def PPs (X:Cx) (pos:Pos) (keys:List (Option Expr)) (values:List Expr) (trs:List (TE×TE)):Prop :=
 ∀ (pins:List (Addr×Obj)) (s:Shared) (σ:St) (H:Hp) (Q:List (V×V)→Hp→Prop),Inv X pins σ H s→tPairs trs σ H Q →
  wpAny (model X.prog X.w) X.A (evalPairs (pairTrees keys values X.env pos)) (fun vs s'=>∃ ps H',Inv X pins σ H' s'∧VV ps vs∧Q ps H') X.xe s
theorem Zb1 {X:Cx} {pos:Pos}:PPs X pos [] [] []:=fun pins s σ H Q I h=>pairTrees_nil_walk ⟨[],H,I,.nil,h⟩
theorem ZaX {X:Cx} {pos:Pos} {k v:Expr} {ks:List (Option Expr)} {vs:List Expr} {tk tv:TE} {trs:List (TE×TE)} (hk:PE X k tk) (hv:PE X v tv) (hr:PPs X pos ks vs trs) :
  PPs X pos (some k :: ks) (v :: vs) ((tk,tv) :: trs):=fun pins s σ H Q I h =>
 pairTrees_cons_walk (thn (hk pins s σ H _ I h) fun u s1 ⟨x,H1,I1,rx,q1⟩=>thn (hv pins s1 σ H1 _ I1 q1) fun w2 s2 ⟨y,H2,I2,ry,q2⟩ =>
  thn (hr pins s2 σ H2 _ I2 q2) fun ws s3 ⟨ps,H3,I3,rel,q3⟩=>⟨(x,y) :: ps,H3,I3,.cons ⟨rx,ry⟩ rel,q3⟩)
noncomputable def mergeK (kvs more:List (Key×V)):List (Key×V):=more.foldl (fun acc kv=>putK acc kv.1 kv.2) kvs
theorem KV.merge:∀ {more:List (Key×V)} {rs:List (Key×Value)} {kvs:List (Key×V)} {vs:List (Key×Value)},KV more rs→KV kvs vs→KV (mergeK kvs more) (merged vs rs):=by
 intro more rs kvs vs r
 unfold KV at r
 induction r generalizing kvs vs with
 | nil=>intro q;exact q
 | @cons p q ps qs h t ih =>
  intro r0
  have e:KV (putK kvs p.1 p.2) (stored vs q.1 q.2):=by
   have:=r0.put p.1 h.2
   rw [← h.1];exact this
  exact ih e
theorem ZaQ:∀ (more kvs:List (Key×V)),(mergeK kvs more).length≤kvs.length + more.length
 | [],kvs=>by show kvs.length≤kvs.length + 0;omega
 | p :: r,kvs=>by
  have h1:=ZaQ r (putK kvs p.1 p.2)
  have h2:=xaO kvs p.1 p.2
  show (mergeK (putK kvs p.1 p.2) r).length≤_
  rw [List.length_cons];omega
theorem Ya3 {P:Program} {w:World}:∀ {kvs:List (Key×V)} {ws:List (Value×Value)},VV (kvs.map fun kv=>(kV kv.1,kv.2)) ws→∃ rs,Carries (mixKind P w) ws rs∧KV kvs rs
 | [],_,r=>by rw [List.map_nil] at r;cases r;exact ⟨[],True.intro,.nil⟩
 | p :: kvs,_,r=>by
  rw [List.map_cons] at r
  cases r with
  | @cons a b as bs h t =>
   obtain ⟨rs,c,q⟩:=Ya3 (P:=P) (w:=w) t
   obtain ⟨b1,b2⟩:=b
   exact ⟨(p.1,b2) :: rs,⟨Xbs h.1,rfl,c⟩,.cons ⟨rfl,h.2⟩ q⟩
noncomputable def tDisp (trs:List (TE×TE)):TE:=fun σ H Q=>∀ p,H p=none→tPairs trs σ (upd H p (.dK [])) fun ps H2=>H2 p=some (.dK [])∧∃ kvs:List (Key×V),ps=kvs.map (fun kv=>(kV kv.1,kv.2))∧kvs.length≤15∧Q (.ref p) (upd H2 p (.dK (mergeK [] kvs)))
theorem Yb1 {X:Cx} {pos:Pos} {keys:List (Option Expr)} {values:List Expr} {trs:List (TE×TE)} (h:PPs X pos keys values trs) (hall:keys.all (·.isSome)=true) (hl:keys.length=values.length) (h0:keys≠[])
  (h15:keys.length≤15):PE X (.Dict keys values pos) (tDisp trs):=by
 intro pins s σ H Q I q
 have hn:=I.hok.fresh (Nat.le_refl s.heap.objs.size)
 have I1:=I.laid (a:=s.heap.objs.size) (o:=.dK []) (h':=s.heap.push { cls:=.type "dict",data:=.dict #[] }) (t':=s.toks) (fun _ _ q=>Heap.get?_push_of_some _ q) (Nat.le_refl _) (xbm s.heap I.big)
 refine wpAny_Dict_walk (knd:=mixKind X.prog X.w) hall hl h0 h15 (thn (h pins _ σ _ _ I1 (q _ hn)) fun ws s2 ⟨ps,H2,I2,rel,e,kvs,ep,lk,q2⟩=>?_)
 subst ep
 obtain ⟨rs,c,rk⟩:=Ya3 (P:=X.prog) (w:=X.w) rel
 obtain ⟨z,hd,vs0,r0,dd⟩:=zb1 I2.hok e
 cases r0
 refine ⟨rs,c,dd,fun h' dd' hs=>⟨.ref s.heap.objs.size,_,?_,rfl,q2⟩⟩
 have hz:(mergeK [] kvs).length≤sizeLine:=by
  have h1:=ZaQ kvs []
  rw [List.length_nil] at h1
  rw [sizeLine_eq];omega
 have he:∃ q,h'.get? s.heap.objs.size=some q:=let ⟨q,_,_,hq,_⟩:=dd';⟨q,hq⟩
 exact ya7 I2 (by rw [e];exact True.intro) hs he (Ybz hz hd (rk.merge .nil) dd')
structure M2 (X:Cx) (o:Expr) (m:Str) (apos:Pos) (e f:Expr) (cpos:Pos):Prop where
 base:attributeBase o m X.env (eval o X.env)=eval o X.env
 few:((backTo cpos (starEach [e,f] X.env)).all (fun x=>!x.1) && (backToKw cpos (keywordEach [] X.env)).all (fun x=>x.1.isSome)
  && decide (([e,f]:List Expr).length + ([]:List Keyword).length + (if ([]:List Keyword).isEmpty then 0 else 1) < 30))=true
 line:(apos.endLine == cpos.line)=true
 trees:backTo cpos (starEach [e,f] X.env)=[(false,eval e X.env),(false,eval f X.env)]
noncomputable def IsD (H:Hp) (a:Addr):Prop:=(∃ kvs,Rd H a (.dK kvs))∨∃ kvs,Rd H a (.dT kvs)
theorem ybW {X:Cx} {pins:List (Addr×Obj)} {σ:St} {H:Hp} {s:Shared} {a:Addr} (I:Inv X pins σ H s) (d:IsD H a) :
  s.TypeIs (.ref a) "dict" ∧ (∀ b,Value.ref a=.ref b→∃ ob,s.heap.get? b=some ob∧ob.dict=none)∧(a == sysModules)=false:=by
 rcases d with ⟨kvs,e⟩ | ⟨kvs,e⟩
 ·obtain ⟨_,hd,vs,_,dd⟩:=zbt I.hok e
  refine ⟨dd.typeIs,fun b q=>?_,hd⟩
  cases q
  obtain ⟨ob,_,_,h1,h2,_⟩:=dd
  exact ⟨ob,h1,h2.2.1⟩
 ·obtain ⟨_,hd,xs,_,dd⟩:=ybt I.hok e
  refine ⟨dd.typeIs,fun b q=>?_,hd⟩
  cases q
  obtain ⟨ob,_,_,h1,h2,_⟩:=dd
  exact ⟨ob,h1,h2.2.1⟩
section
variable {X:Cx} {pins:List (Addr×Obj)} {σ:St} {H:Hp} {s:Shared} {a:Addr} {y d:V} {u r:Value} {o:Option V} {A:Around} {E:Value→Shared→Prop}
theorem d_get2 {Q:Value→Shared→Prop} (hu:A.units + 1 < cLine) (I:Inv X pins σ H s) (g:DGet H a y o) (ry:RelV y u) (rd:RelV d r) (h:∀ w' s',Inv X pins σ H s'→RelV (o.getD d) w'→Q w' s') :
  wpAny (model X.prog X.w) A (call (.builtin "dict.get") [.ref a,u,r]) Q E s:=by
 rcases g with ⟨kvs,k,e,ey,l⟩ | ⟨kvs,k,b,e,ey,eb,l⟩
 ·subst ey
  obtain ⟨z,hd,vs,rel,dd⟩:=zbt I.hok e
  refine call_meetsIn PySem.F.slot_dict_get dd.typeIs PySem.F.entry_dict_get (PySem.F.args_dict_get_3 _ _ _) (meets_dict_get_default (mixKind X.prog X.w) a (Xbs ry) hd r) ⟨_,dd.mapOf,h _ _ (I.tok _) ?_⟩
  rw [l]
  exact (rel.val k).getD rd
 ·subst ey
  cases (show u=Value.ref b from ry)
  obtain ⟨z,hd,xs,rel,dd⟩:=ybt I.hok e
  refine call_meetsIn PySem.F.slot_dict_get dd.typeIs PySem.F.entry_dict_get (PySem.F.args_dict_get_3 _ _ _) (meetsH_dict_get_default (tupleKind (mixKind X.prog X.w)) a b hd r) ⟨tupleKind_room_in1 hu,k,xs,yaL I.hok eb,dd,h _ _ (I.tok _) ?_⟩
  rw [l]
  exact (rel.val k).getD rd
end
noncomputable def tDGet2 (td ty tx:TE):TE:=fun σ H Q=>td σ H fun x H1=>∃ a,x=.ref a∧IsD H1 a∧ty σ H1 fun y H2=>tx σ H2 fun z H3=>∃ o,DGet H3 a y o∧Q (o.getD z) H3
section
variable {X:Cx} {o e f:Expr} {apos cpos:Pos} {td ty tx:TE}
theorem zbn (hu:X.A.units + 1 < cLine) (ho:PE X o td) (he:PE X e ty) (hf:PE X f tx) (m:M2 X o "get" apos e f cpos):PE X (.Call (.Attribute o "get" apos) [e,f] [] cpos) (tDGet2 td ty tx):=by
 intro pins s σ H Q I h
 refine wpAny_Call_method m.base m.few m.line PySem.F.plainAttrs_dict PySem.F.slot_dict_get PySem.F.type_dict_get (thn (ho pins s σ H _ I h) fun u s1 ⟨x,H1,I1,rx,a,ex,d,q1⟩=>?_)
 subst ex
 obtain rfl:u=Value.ref a:=rx
 obtain ⟨t1,t2,_⟩:=ybW I1 d
 refine ⟨t1,t2,?_⟩
 rw [m.trees]
 refine Calls.callWith_builtin rfl (Calls.evalArgs_plain (Calls.spliced_cons (thn (he pins s1 σ H1 _ I1 q1) fun iv s2 ⟨y,H2,I2,ry,q2⟩ =>
  Calls.spliced_cons (thn (hf pins s2 σ H2 _ I2 q2) fun fv s3 ⟨z,H3,I3,rz,ov,g,q3⟩=>Calls.spliced_nil ?_))))
 exact d_get2 hu I3 g ry rz fun w' s4 I4 rw'=>⟨_,H3,I4,rw',q3⟩
end
section
variable {X:Cx} {pins:List (Addr×Obj)} {σ:St} {H:Hp} {s:Shared} {a:Addr} {kvs:List (Key×V)} {A:Around} {E:Value→Shared→Prop}
end
section
variable {X:Cx} {pins:List (Addr×Obj)} {σ:St} {H:Hp} {s:Shared} {a:Addr} {y:V} {u:Value} {A:Around} {E:Value→Shared→Prop}
end
end L2
namespace Att
open PySem PySem.W PySem.Calls PyProof.Rows
theorem ZaZ {P:Params} {h:Heap}:∀ (ns:List Int) (vs:List Value),WellAll P h vs (ns.map WData.int)→IntsAre vs ns:=by
 intro ns
 induction ns with
 | nil =>
  intro vs w
  rw [List.map_nil] at w
  cases w
  exact .nil
 | cons n ns ih =>
  intro vs w
  rw [List.map_cons] at w
  cases w with
  | cons a b =>
   cases a
   exact .cons _ _ (ih _ b)
theorem ybA {l:OpenLaw} {n:Nat} (hn:l.most=some n) {P:Params} {h:Heap} {args:List WData} {vals:List Value}
  (hpre:l.row.toRowW.claim.pre args=true) (hwl:WellAll P h vals args) :
  ∃ a vs ns,vals=[Value.ref a]∧args=[WData.list (ns.map WData.int)]∧h.get? a=some { cls:=.type "list",data:=.seq vs.toArray }∧IntsAre vs ns∧ns.length≤n:=by
 have hsh:WShape.hasAll [] args [.list .int]=true:=(pre_splitW hpre).1
 have hc:l.pre.holds [] { args:=args }=true:=(pre_splitW hpre).2
 obtain ⟨d,r,rfl,h1,h2⟩:=hasAllW_cons hsh
 obtain rfl:=hasAllW_nil h2
 obtain ⟨xs,rfl,h3⟩:=hasW_list h1
 obtain ⟨ns,rfl⟩:=items_int h3
 have hlen:ns.length≤n:=by
  unfold OpenLaw.pre at hc
  have h4:(WTm.not (.lt (.lit (.int (n:Int))) (.len (.arg 0)))).holds [] { args:=[.list (ns.map .int)] }=true:=by
   have h4:=(holds_andW hc).1
   rw [hn] at h4
   exact h4
  have h5:=condW_of h4 (w_not (w_lt w_lit (w_len_list (w_arg rfl))))
  rw [List.length_map] at h5
  refine Nat.le_of_not_lt fun q=>?_
  have q':(n:Int) < ((ns.length:Nat):Int):=by omega
  first
   | (rw [decide_eq_true q'] at h5;exact absurd h5 (by decide))
   | (simp at h5;omega)
 cases hwl with
 | cons w1 w2 =>
  cases w2
  cases w1 with
  | list ho hall=>exact ⟨_,_,ns,rfl,rfl,ho,ZaZ ns _ hall,hlen⟩
theorem ZbA (l:OpenLaw) (args:List WData):l.row.toRowW.claim.post args (.bool true) args=true :=
 postW_of (r:=l.row.toRowW) (X:=(true == true))
  (show WShape.has [] (.bool true) .bool=true by first | rfl | decide | simp [WShape.has,WShape.arms,WShape.armsAll])
  (show (WTm.eq .res (.lit (.bool true))).value [] { args:=args,res:=some (.bool true),after:=args }=some (.bool (true == true)) from w_eq_bool (w_res rfl) w_lit) rfl
theorem zbi {l:OpenLaw} {n:Nat} {q:Program} {loose:List Str} {XP:(Str→Option Value)→Heap→Prop} {YP:World→Heap→Prop} {d:DefRec}
  (hn:l.most=some n) (hdf:d.params.defaults=[])
  (call:∀ (w:World) (s₀ s₁:Shared) (mg mb:Str→Option Value) (fa:Addr) (o:Obj) (pm cd doc:Value) (a:Addr) (vs:List Value) (ns:List Int),
   Ground q loose [] XP w s₀ mg mb s₁.heap→YP w s₁.heap →
   s₁.heap.get? fa=some o→o.data=.func (docDef d.name d.params d.body d.scope pm cd doc)→s₁.heap.CodeRec cd d.name→mg d.name=some (.ref fa) →
   s₁.heap.get? a=some { cls:=.type "list",data:=.seq vs.toArray }→IntsAre vs ns→ns.length≤n→s₁.gens=#[] →
   codeAny (model l.prog w) callerA (.call (.ref fa) ⟨[.ref a],[]⟩) (fun r s'=>r=.ok (.ret (.bool true))∧OldK s₁.heap s'.heap∧s'.os=s₁.os∧AllBare s'.gens) s₁) :
  WalkO q loose XP YP l.row.toRowW d [] (fun f vs=>PySem.call f vs):=by
 intro w s₀ s₁ mg mb G Y fa o pm cd doc dV kV ho hd hcd hD hmg hg args vals as hpre hlay hrd hwl hlo
 obtain rfl:dV=.none:=Dflts.none hD hdf
 obtain rfl:kV=.none:=Dflts.noKw hD
 obtain ⟨a,vs,ns,rfl,rfl,hobj,hints,hlen⟩:=ybA hn hpre hwl
 refine enter_call (codeAny_mono (call w s₀ s₁ mg mb fa o pm cd doc a vs ns G Y ho (fd_plain hd) hcd hmg hobj hints hlen hg) fun r s' hq=>?_)
 obtain ⟨rfl,h2,h3,h4⟩:=hq
 exact ⟨.inl ⟨.bool true,.bool true,[],rfl,fun _=>rfl,.bool true,ZbA l _,fun _=>⟨List.Pairwise.nil,fun _ hm=>(nomatch hm)⟩⟩,h2,h3,h4⟩
section
variable {prog:Program} {w:World} {A:Around} {E:Value→Shared→Prop} {s:Shared} {K:Frag}
end
end Att
namespace L2
open PySem PySem.Spec PyProof.Rows
theorem zbe:∀ {vs:List Value} {ns:List Int},IntsAre vs ns→Vals (ns.map V.int) vs
 | _,_,.nil=>.nil
 | _,_,.cons n t h=>.cons ⟨t,rfl⟩ (zbe h)
noncomputable def Only (H:Hp):Prop:=∀ b,H b=none∨∃ o xs,H b=some (.frz o (.lst xs))
theorem ZbN {P:Program} {w:World} {K:PySem.W.Frag} {mg mb:Str→Option Value} {CX:CXT} {k:Nat} {fa a:Addr} {fd:FuncData} {x:Str} {sp:Sp} {s₁:Shared} {vs:List Value} {ns:List Int}
  (KX:K.In s₁.heap) (hns:s₁.heap.Ns mainGlobals mg) (hb:s₁.heap.Ns builtinsNs mb) (hbb:∀ x:Str,x≠"__name__" → mb x=bootBuiltins x) (hlim:s₁.heap.NoLimit) (hg:s₁.gens=#[])
  (ha:s₁.heap.get? a=some { cls:=.type "list",data:=.seq vs.toArray }) (hi:IntsAre vs ns) (hl:ns.length≤sizeLine) (hr:Room k callerA)
  (F:∀ base:Heap,K.In base→base.Ns mainGlobals mg→FnOk P w K mg base CX k fa fd [x] sp) (hbind:∀ (s:Shared) (u:Value),BindsTo s fd ⟨[u],[]⟩ [(x,u)])
  (hsp:∀ H:Hp,Only H→SqL K H a (ns.map V.int)→sp [.ref a] H (fun v _=>v=.bl true) fun _ _ _=>False)
  (hCX:∀ H e s',CX [] H s₁ (fun _ _ _=>False) e s'→False) :
  codeAny (model P w) callerA (.call (.ref fa) ⟨[.ref a],[]⟩) (fun r s'=>r=.ok (.ret (.bool true))∧OldK s₁.heap s'.heap∧s'.os=s₁.os∧AllBare s'.gens) s₁:=by
 have rv:=zbe hi
 have lenV:=hi.length
 have core:∀ H:Hp,Only H→SqL K H a (ns.map V.int)→HOk P w H s₁.heap→(∀ b,H b≠none→b=a)→(H a≠none→K.lookup a=none) →
   codeAny (model P w) callerA (.call (.ref fa) ⟨[.ref a],[]⟩) (fun r s'=>r=.ok (.ret (.bool true))∧OldK s₁.heap s'.heap∧s'.os=s₁.os∧AllBare s'.gens) s₁:=by
  intro H hO hS hok hA hK
  have base_of:∀ {b:Addr} {o:Obj},s₁.heap.get? b=some o→H b=none→(hidT s₁.heap H).get? b=some o:=fun e n=>YbM e n
  have noA:∀ {b:Addr} {o:Obj} {es:Array DictEntry} {ep:Nat},s₁.heap.get? b=some o→o.data=.dict es ep→H b=none:=fun {b o es ep} e d=>by
   cases q:H b with
   | none=>rfl
   | some u =>
    have e':b=a:=hA b (by rw [q];simp)
    subst e'
    rw [ha] at e;cases e
    have d':Data.seq vs.toArray _=Data.dict es ep:=d
    cases d'
  have nsK:∀ {b:Addr} {m:Str→Option Value},s₁.heap.Ns b m→(hidT s₁.heap H).Ns b m:=fun {b m} ⟨o,es,ep,e,d,r⟩=>⟨o,es,ep,base_of e (noA e d),d,r⟩
  have hKb:K.In (hidT s₁.heap H):=fun b o e=>base_of (KX b o e) (by
   cases q:H b with
   | none=>rfl
   | some u =>
    have e':b=a:=hA b (by rw [q];simp)
    subst e'
    rw [hK (by rw [q];simp)] at e;cases e)
  have hM:Mod K mg (hidT s₁.heap H):=⟨hKb,nsK hns,⟨mb,nsK hb,hbb⟩,let ⟨mc,h1,h2⟩:=hlim;⟨mc,nsK h1,h2⟩⟩
  have e0:Env0 P w K mg (hidT s₁.heap H) callerA [] s₁ H:=⟨rfl,hM,fun b o e=>Zb0 e,Nat.le_of_eq (xbw _ _),trivial,fun b hb=>absurd (show b∈([]:List Addr) from hb) (by simp),hok,.of_eq hg⟩
  refine codeAny_mono ((F _ hKb (nsK hns)).run callerA [] s₁ H ⟨[.ref a],[]⟩ [.ref a] [.ref a] _ _ hr e0 (hbind s₁ (.ref a)) (.cons rfl .nil) (hsp H hO hS)) fun r s' h=>?_
  cases r with
  | error e=>exact (hCX H e s' h).elim
  | ok fl =>
   cases fl with
   | next=>exact False.elim h
   | brk=>exact False.elim h
   | cont=>exact False.elim h
   | ret u =>
    obtain ⟨v,H',os,bare,un,hok',r',q⟩:=h
    have q':v=.bl true:=q
    subst q'
    obtain rfl:u=Value.bool true:=r'
    refine ⟨rfl,OldK.of_keep fun b o e=>?_,os,bare⟩
    cases q:H b with
    | none=>exact un.keep b o e q (by intro z;exact absurd (show b∈([]:List Addr) from z) (by simp)) (by simp)
    | some u =>
     rcases hO b with z | ⟨ob,xs,z⟩
     ·rw [q] at z;cases z
     ·have z2:=un.frzs b ob _ z
      obtain ⟨e1,_⟩:=hok b _ z
      obtain ⟨e2,_⟩:=hok' b _ z2
      rw [e] at e1;cases e1
      exact e2
 cases hk:K.lookup a with
 | some o =>
  have e:=KX a o hk
  rw [ha] at e
  cases e
  refine core (fun _=>none) (fun _=>.inl rfl) (.inr ⟨_,vs.toArray,_,hk,rfl,rfl,rfl,by rw [List.size_toArray,lenV];exact hl,by simpa using rv⟩) (fun b u z=>by have z':(none:Option HO)=some u:=z;cases z') (fun b z=>absurd rfl z) fun z=>absurd rfl z
 | none =>
  refine core (fun b=>if b=a then some (.frz { cls:=.type "list",data:=.seq vs.toArray } (.lst (ns.map V.int))) else none) (fun b=>?_) (.inl (.inr ⟨{ cls:=.type "list",data:=.seq vs.toArray },if_pos rfl⟩)) (fun b u z=>?_) (fun b z=>?_) fun _=>hk
  ·by_cases hb:b=a
   ·exact .inr ⟨_,_,if_pos hb⟩
   ·exact .inl (if_neg hb)
  ·by_cases hb:b=a
   ·have z':=(if_pos hb).symm.trans z
    cases z'
    subst hb
    exact ⟨ha,by rw [List.length_map];exact hl,vs,_,rv,ha⟩
   ·have z':=(if_neg hb).symm.trans z
    cases z'
  ·by_cases hb:b=a
   ·exact hb
   ·exact absurd (if_neg hb) z
end L2
namespace L2
open PySem PySem.Spec PyProof.Rows
abbrev KOf {K:PySem.W.Frag} {h:Heap} (_:K.In h):PySem.W.Frag:=K
theorem xb1 {l:PySem.W.OpenLaw} {n k:Nat} {q:Program} {loose:List Str} {XP:(Str→Option Value)→Heap→Prop} {YP:World→Heap→Prop} {d:DefRec} {K:Params→PySem.W.Frag} {CX:World→CXT} {sp:World→Sp} {x:Str}
  (hn:l.most=some n) (hn2:n≤sizeLine) (hdf:d.params.defaults=[]) (hr:Room k callerA)
  (hY:∀ (w:World) (h:Heap),YP w h→(K w.params).In h)
  (F:∀ (w:World) (mg:Str→Option Value) (fa:Addr) (h:Heap),(K w.params).In h→h.Ns mainGlobals mg→mg d.name=some (.ref fa) →
   ∃ fd:FuncData,(∀ (s:Shared) (u:Value),BindsTo s fd ⟨[u],[]⟩ [(x,u)]) ∧
    ∀ base:Heap,(K w.params).In base→base.Ns mainGlobals mg→FnOk l.prog w (K w.params) mg base (CX w) k fa fd [x] (sp w))
  (hsp:∀ (w:World) (H:Hp) (a:Addr) (ns:List Int),ns.length≤n→Only H→SqL (K w.params) H a (ns.map V.int)→sp w [.ref a] H (fun v _=>v=.bl true) fun _ _ _=>False)
  (hCX:∀ (w:World) (H:Hp) (s:Shared) (e:Value) (s':Shared),CX w [] H s (fun _ _ _=>False) e s'→False) :
  PySem.W.WalkO q loose XP YP l.row.toRowW d [] (fun f vs=>PySem.call f vs):=by
 refine Att.zbi hn hdf fun w s₀ s₁ mg mb fa o pm cd doc a vs ns G Y ho hd hcd hmg hobj hints hlen hg=>?_
 have KX:=hY w _ Y
 obtain ⟨fd,hb,hF⟩:=F w mg fa _ KX G.T.g hmg
 exact ZbN KX G.T.g G.T.b G.T.builtins G.T.nolimit hg hobj hints (Nat.le_trans hlen hn2) hr hF hb (fun H hO hS=>hsp w H a ns hlen hO hS) fun H e s'=>hCX w H s₁ e s'
theorem YbN {l:PySem.W.OpenLaw} {n k:Nat} {q:Program} {loose:List Str} {XP:(Str→Option Value)→Heap→Prop} {YP:World→Heap→Prop} {d:DefRec} {K:Params→PySem.W.Frag} {CX:CXT} {sp:PySem.W.Frag→Sp} {x:Str}
  (hn:l.most=some n) (hn2:n≤sizeLine) (hdf:d.params.defaults=[]) (hr:Room k callerA)
  (hY:∀ (w:World) (h:Heap),YP w h→(K w.params).In h)
  (F:∀ (w:World) (mg:Str→Option Value) (fa:Addr) (h:Heap),(K w.params).In h→h.Ns mainGlobals mg→mg d.name=some (.ref fa) →
   ∃ fd:FuncData,(∀ (s:Shared) (u:Value),BindsTo s fd ⟨[u],[]⟩ [(x,u)]) ∧
    ∀ base:Heap,(K w.params).In base→base.Ns mainGlobals mg→FnOk l.prog w (K w.params) mg base CX k fa fd [x] (sp (K w.params)))
  (hsp:∀ (K:PySem.W.Frag) (H:Hp) (a:Addr) (ns:List Int),ns.length≤n→Only H→SqL K H a (ns.map V.int)→sp K [.ref a] H (fun v _=>v=.bl true) fun _ _ _=>False)
  (hCX:∀ (H:Hp) (s:Shared) (e:Value) (s':Shared),CX [] H s (fun _ _ _=>False) e s'→False) :
  PySem.W.WalkO q loose XP YP l.row.toRowW d [] (fun f vs=>PySem.call f vs) :=
 xb1 (K:=K) (CX:=fun _=>CX) (sp:=fun w=>sp (K w.params)) hn hn2 hdf hr hY F (fun w H a ns h1 h2 h3=>hsp (K w.params) H a ns h1 h2 h3) fun _ H s e s'=>hCX H s e s'
end L2
namespace L2
open PySem PySem.Spec PyProof.Rows
noncomputable def defArgs (s:Stmt):Arguments:=match s with
 | .FunctionDef _ a _ _ _ _ _ _ _ _=>a
 | _=>{ posonlyargs:=[],args:=[],vararg:=none,kwonlyargs:=[],kw_defaults:=[],kwarg:=none,defaults:=[] }
noncomputable def defBody (s:Stmt):List Stmt:=match s with
 | .FunctionDef _ _ b _ _ _ _ _ _ _=>b
 | _=>[]
noncomputable def defScope (s:Stmt):Scope:=match s with
 | .FunctionDef _ _ _ _ _ _ sc _ _ _=>sc
 | _=>{ kind:=.function,names:=[],isGenerator:=false,isCoroutine:=false }
abbrev CX0:CXT:=fun _ _ _ _ _ _=>False
abbrev E0:XK:=fun _ _ _=>False
theorem pass0 {X:Cx}:Passes CX0 X E0:=fun _ _ _ _ _ _ _ h=>h.elim
structure Fun (K:PySem.W.Frag) (x qual:Str) (st:Stmt) (f:Addr) (fd:FuncData):Prop where
 ex:∃ (oc:Value) (od:Option Addr) (kV doc pm:Value) (an:Option Addr) (cdv ct:Value) (osl:Array (Option Value)),
  fd=PySem.W.fnOf x qual (defArgs st) (defBody st) (defScope st) .none kV doc pm an cdv ct∧K.lookup f=some ⟨oc,od,.func fd,osl⟩∧PySem.W.codeIn K cdv qual=true
 kp:PySem.W.keepIn K (.ref f)=true
section
variable {P:Program} {w:World} {K:PySem.W.Frag} {mg:Str→Option Value} {base:Heap}
theorem Fun.ok {x qual:Str} {st:Stmt} {f:Addr} {fd:FuncData} {N ps:List Str} {k:Nat} {sp:Sp} (F:Fun K x qual st f fd) (S:FnScope N ps (defScope st)) (len:∀ vs H Q E,sp vs H Q E→vs.length=ps.length)
  (hbody:∀ (cdv:Value) (A:Around) (outer:List Env) (s:Shared) (H:Hp) (vs:List V) (Q:VK) (E:XK),Room k (A.deeper (envOfC qual (defScope st) s.heap.objs.size f cdv))→sp vs H Q E →
   ∃ t,PSs (cxOf CX0 P w K mg base N qual (defScope st) f cdv A outer s H E).nox (defBody st) t∧t { nx:=fun _ H'=>Q .non H',rt:=Q } (start N vs) H):FnOk P w K mg base CX0 (k + 1) f fd ps sp:=by
 obtain ⟨oc,od,kV,doc,pm,an,cdv,ct,osl,rfl,lk,hcd⟩:=F.ex
 refine fn_of lk hcd S len fun A outer s H vs Q E hr hsp=>?_
 obtain ⟨t,h,q⟩:=hbody cdv A outer s H vs Q E hr hsp
 exact ⟨t,h.nox,q⟩
theorem fun_mk {x qual:Str} {st:Stmt} {f:Addr} {oc:Value} {od an:Option Addr} {osl:Array (Option Value)} {kV doc pm cdv ct:Value} (l:K.lookup f=some ⟨oc,od,.func (PySem.W.fnOf x qual (defArgs st) (defBody st) (defScope st) .none kV doc pm an cdv ct),osl⟩)
  (c:PySem.W.codeIn K cdv qual=true) (k:PySem.W.keepIn K (.ref f)=true):Fun K x qual st f (PySem.W.fnOf x qual (defArgs st) (defBody st) (defScope st) .none kV doc pm an cdv ct):=⟨⟨oc,od,kV,doc,pm,an,cdv,ct,osl,rfl,l,c⟩,k⟩
end
theorem Xay {A:Around} {k:Nat} (hr:Room k A):A.units + 1 < cLine:=Nat.lt_of_le_of_lt (Nat.add_le_add_left (by decide:1≤64) _) hr.units
section
variable {X:Cx}
theorem pv (i:Nat) {x:Str} {pos:Pos} (hN:X.N[i]?=some x:=by rfl) (hv:Vis X.env.scope x:=by first | exact Or.inl rfl | exact Or.inr (Or.inl rfl) | exact Or.inr (Or.inr rfl)) (hd:(x == ("__debug__" : Str))=false:=by decide)
  (hcd:(x == ("__classdict__" : Str))=false:=by decide):PE X (.Name x pos) (tVar i):=pe_var hN hv hd hcd
end
theorem iteF {A B:Prop} (h:B):if false=true then A else B:=by
 rw [if_neg Bool.false_ne_true]
 exact h
theorem iteT {A B:Prop} (h:A):if true=true then A else B:=by
 rw [if_pos rfl]
 exact h
noncomputable def Same (H H':Hp):Prop:=∀ b o,H b=some o→H' b=some o
theorem Same.refl (H:Hp):Same H H:=fun _ _ h=>h
section
variable {X:Cx}
end
section
variable {κ:Type} [DecidableEq κ]
end
end L2
namespace L2
open PySem PySem.Spec PyProof.Rows
theorem xan:bootBuiltins "len" = some (.builtin "len"):=by decide +kernel
theorem ZbW:bootBuiltins "int" = some (.type "int"):=by decide +kernel
theorem YbA:bootBuiltins "bool" = some (.type "bool"):=by decide +kernel
theorem YbW:bootBuiltins "str" = some (.type "str"):=by decide +kernel
theorem xau:bootBuiltins "list" = some (.type "list"):=by decide +kernel
theorem zal:bootBuiltins "tuple" = some (.type "tuple"):=by decide +kernel
theorem xaB:bootBuiltins "range" = some (.type "range"):=by decide +kernel
theorem xai:bootBuiltins "isinstance" = some (.builtin "isinstance"):=by decide +kernel
theorem bt_max:bootBuiltins "max" = some (.builtin "max"):=by decide +kernel
theorem bt_min:bootBuiltins "min" = some (.builtin "min"):=by decide +kernel
theorem xbW:bootBuiltins "all" = some (.builtin "all"):=by decide +kernel
theorem bt_zip:bootBuiltins "zip" = some (.type "zip"):=by decide +kernel
structure Kp (ch:List Addr) (H H':Hp):Prop where
 keep:∀ b o,H b=some o→b ∉ ch→H' b=some o
 tup:∀ b xs,H b=some (.tup xs)→H' b=some (.tup xs)
 frz:∀ b o u,H b=some (.frz o u)→H' b=some (.frz o u)
section
variable {ch:List Addr} {H H1 H2:Hp} {a l p:Addr} {o:HO} {xs ys:List V} {K:PySem.W.Frag}
theorem Kp.refl:Kp ch H H:=⟨fun _ _ h _=>h,fun _ _ h=>h,fun _ _ _ h=>h⟩
theorem Kp.of_same (h:Same H H1):Kp ch H H1:=⟨fun b o e _=>h b o e,fun b xs e=>h b _ e,fun b o u e=>h b _ e⟩
theorem Kp.put (h:Kp ch H H1) (ha:a∈ch) (e:H1 a=some (.lst xs)):Kp ch H (upd H1 a o) :=
 ⟨fun b u q n=>by rw [Zai (fun z=>n (by rw [z];exact ha))];exact h.keep b u q n,
   fun b u q=>by
  have r:=h.tup b u q
  rw [Zai (yb0 r e (by intro z;cases z))];exact r,
   fun b u v q=>by
  have r:=h.frz b u v q
  rw [Zai (yb0 r e (by intro z;cases z))];exact r⟩
theorem Kp.sqT (h:Kp ch H H1) (q:SqT K H a xs):SqT K H1 a xs:=by
 rcases q with (q | ⟨o,q⟩) | q
 ·exact .inl (.inl (h.tup a xs q))
 ·exact .inl (.inr ⟨o,h.frz a o _ q⟩)
 ·exact .inr q
noncomputable def SqF (K:PySem.W.Frag) (H:Hp) (a:Addr) (xs:List V):Prop :=
 (∃ o,H a=some (.frz o (.lst xs))) ∨
  ∃ (o:Obj) (its:Array Value) (n:Nat),K.lookup a=some o∧o.cls=.type "list" ∧ o.dict=none∧o.data=.seq its n∧its.size≤sizeLine∧Vals xs its.toList
theorem SqF.sq (h:SqF K H a xs):SqL K H a xs:=h.elim (fun ⟨o,e⟩=>.inl (.inr ⟨o,e⟩)) .inr
theorem SqL.script (hO:Only H) (q:SqL K H a xs):SqF K H a xs:=by
 rcases q with (q | ⟨o,q⟩) | q
 ·rcases hO a with e | ⟨o,ys,e⟩
  ·rw [e] at q;cases q
  ·rw [e] at q;cases q
 ·exact .inl ⟨o,q⟩
 ·exact .inr q
theorem Same.up (h:H p=none):Same H (upd H p o):=fun b u e=>by rw [Zai (xaC e h)];exact e
end
noncomputable def GotT (K:PySem.W.Frag) (H:Hp) (xs:List V) (Q:VK):Prop:=∀ p H',SqT K H' p xs→Same H H'→Q (.ref p) H'
section
variable {X:Cx}
theorem GotT.new {K:PySem.W.Frag} {H:Hp} {xs:List V} {Q:VK} (h:GotT K H xs Q):∀ p,H p=none→Q (.ref p) (upd H p (.tup xs)):=fun p hp=>h p _ (SqT.of Xaj) (Same.up hp)
theorem GotT.it {K:PySem.W.Frag} {H:Hp} {xs:List V} {Q:VK} {a:Addr} (h:GotT K H xs Q) (q:SqT K H a xs):Q (.ref a) H:=h a H q (Same.refl H)
noncomputable def rCatTA (K:PySem.W.Frag):R2:=fun x y H Q=>∃ a b xs ys,x=.ref a∧y=.ref b∧SqT K H a xs∧SqT K H b ys∧xs.length + ys.length≤sizeLine∧GotT K H (xs ++ ys) Q
theorem Za7:OpR X (binaryOp .Add) (rCatTA X.K):=by
 intro pins s σ H x y v u Q I rx ry h
 obtain ⟨a,b,xs,ys,rfl,rfl,ha,hb,hz,q⟩:=h
 by_cases hx:xs=[]
 ·subst hx
  cases rx
  cases ry
  obtain ⟨its,r1,p1,_⟩:=I.tuple ha
  obtain ⟨its2,r2,p2,_⟩:=I.tuple hb
  have e:its=[]:=r1.nil_iff.mpr rfl
  subst e
  obtain ⟨⟨cls,dd,data,sl⟩,ho,hc,n,hd⟩:=id p1
  obtain ⟨⟨cls2,dd2,data2,sl2⟩,ho2,hc2,n2,hd2⟩:=id p2
  simp only at hc hd hc2 hd2
  subst hc hd hc2 hd2
  exact concat_meets ⟨_,ho,rfl⟩ ⟨_,ho2,rfl⟩ noFill_tuple_add seq_tuple_add PySem.F.slot_tuple_add PySem.F.entry_tuple_add (PySem.F.args_tuple_add_2 _ _)
   (tuple_addW0 a b #[] its2.toArray n n2 dd dd2 sl sl2 (by simp)) ⟨ho,ho2,⟨.ref b,H,I,rfl,q.it (by simpa using hb)⟩⟩
 ·exact xb0 pins s σ H _ _ v u Q I rx ry ⟨a,b,xs,ys,rfl,rfl,ha,hb,hx,hz,fun e=>q.it (by subst e;simpa using ha),fun _=>q.new⟩
theorem ybi {prog:Program} {w:World} {A:Around} {E:Value→Shared→Prop} {s:Shared} {t sl:Addr} {items:Array Value} {vl vu:Value} {lo hi:Option Int} {Q:Value→Shared→Prop} (ht:IsTup s.heap t items) (hs:s.heap.IsSliceOf sl vl vu .none) (pl:IsPart vl lo) (pu:IsPart vu hi)
  (hw:HT.sIx items.size 0 lo=0∧HT.sIx items.size items.size hi=items.size) (h:Q (.ref t) s):wpAny (model prog w) A (getItem (.ref t) (.ref sl)) Q E s:=by
 obtain ⟨os,hos,hcs,hds⟩:=id hs
 have hTs:s.TypeIs (.ref sl) "slice" := ⟨os,hos,hcs⟩
 unfold getItem
 try with_reducible refine wpAny_holding ?_
 first | refine wpAny_bind (wpAny_pure ?_) | skip
 refine wpAny_bind (wpAny_sequenceKey ht.typeIs (by decide) ?_)
 refine wpAny_bind (wpAny_callSpecial?_slot (name:=Str.ofString "__getitem__") ht.typeIs PyProof.Rows.slot_tuple_getitem
  (wpAny_call_entry PyProof.Rows.slot_tuple_getitem ht.typeIs entry_tuple_getitem ?_ (args_tuple_getitem _ _)))
 show wpAny _ _ (Builtin.Tuple.tupleItemsOf (.ref t) >>= _) _ _ s
 refine wpAny_bind (tupleItemsOf_ ht ?_)
 refine wpAny_bind (wpAny_typeOf hTs ?_)
 rw [if_pos (by decide)]
 refine wpAny_bind (HT.ZaK hs pl pu ?_)
 have hyes:((((HT.sIx items.size 0 lo:Nat):Int) == 0 && (1:Int) == 1 && (HT.sIx items.size items.size hi - HT.sIx items.size 0 lo) == items.size)=true):=by
  rw [hw.1,hw.2];simp
 show wpAny _ _ (if (((HT.sIx items.size 0 lo:Nat):Int) == 0 && (1:Int) == 1 && (HT.sIx items.size items.size hi - HT.sIx items.size 0 lo) == items.size)=true then _ else _) _ _ s
 rw [if_pos hyes]
 obtain ⟨o,ho,hc,n,hd⟩:=id ht
 unfold Builtin.Tuple.tupleIsExact
 first
  | exact wpAny_bind (wpAny_bind (wpAny_typeOf (T:="tuple") ⟨o,ho,hc⟩ (wpAny_pure (wpAny_bind (wpAny_rule (wpAny_pure ⟨_,rfl,wpAny_pure h⟩))))))
  | exact wpAny_bind (wpAny_bind (wpAny_typeOf (T:="tuple") ⟨o,ho,hc⟩ (wpAny_pure (wpAny_bind (wpAny_rule (wpAny_bind (wpAny_pure ⟨_,rfl,wpAny_pure h⟩)))))))
  | trace_state
noncomputable def rSlTA (K:PySem.W.Frag):V→Option Int→Option Int→Hp→VK→Prop:=fun x lo hi H Q=>∃ a xs,x=.ref a∧SqT K H a xs∧GotT K H (cutV xs lo hi) Q
theorem Zbt {xs:List V} {lo hi:Option Int} (h:HT.sIx xs.length 0 lo=0∧HT.sIx xs.length xs.length hi=xs.length):cutV xs lo hi=xs:=by
 unfold cutV;rw [h.1,h.2];simp
theorem xbA:SlR X (rSlTA X.K):=by
 intro pins s σ H x v vl vu lo hi sl Q I rx hs pl pu h
 obtain ⟨a,xs,rfl,hx,q⟩:=h
 by_cases hw:HT.sIx xs.length 0 lo=0∧HT.sIx xs.length xs.length hi=xs.length
 ·cases rx
  obtain ⟨its,r,ht,hz⟩:=I.tuple hx
  have hlen:its.toArray.size=xs.length:=by rw [List.size_toArray];exact r.length.symm
  refine ⟨"tuple",_,PyProof.Rows.slot_tuple_getitem.lookup,ht.typeIs,?_⟩
  exact ybi ht hs pl pu (by rw [hlen];exact hw) ⟨.ref a,H,I,rfl,q.it (by rw [Zbt hw];exact hx)⟩
 ·exact sl_tup pins s σ H _ v vl vu lo hi sl Q I rx hs pl pu ⟨a,xs,rfl,hx,hw,q.new⟩
noncomputable def rangeV (lo:Int) (n:Nat):List V:=(List.range n).map fun (k:Nat)=>V.int (lo + k)
theorem Ya7 (lo:Int) (n:Nat):(rangeV lo n).length=n:=by simp [rangeV]
theorem XaO:CallR X (.type "range") (fun xs H Q=>∃ j:Int,xs=[.int j]∧∀ p,H p=none→Q (.ref p) (upd H p (.rng 0 j))):=by
 intro pins s σ H xs us Q I r h
 obtain ⟨j,rfl,q⟩:=h
 obtain ⟨u,rfl,t,rfl⟩:=vals1 r
 refine call_range_1 ⟨.ref s.heap.objs.size,_,I.laid (o:=.rng 0 j) (fun b o e=>Heap.get?_push_of_some _ e) (Nat.le_refl _) ?_,rfl,q _ (I.hok.fresh (Nat.le_refl _))⟩
 exact ⟨_,_,_,Heap.get?_push_size _ rfl⟩
theorem Zax:CallR X (.type "range") (fun xs H Q=>∃ i j:Int,xs=[.int i,.int j]∧∀ p,H p=none→Q (.ref p) (upd H p (.rng i j))):=by
 intro pins s σ H xs us Q I r h
 obtain ⟨i,j,rfl,q⟩:=h
 obtain ⟨u,u',rfl,⟨t,rfl⟩,t',rfl⟩:=vals2 r
 refine call_range_2 ⟨.ref s.heap.objs.size,_,I.laid (o:=.rng i j) (fun b o e=>Heap.get?_push_of_some _ e) (Nat.le_refl _) ?_,rfl,q _ (I.hok.fresh (Nat.le_refl _))⟩
 exact ⟨_,_,_,Heap.get?_push_size _ rfl⟩
theorem xa3:∀ (n:Nat) (lo:Int) (us:List Value),us.length=n→(∀ (j:Nat) (v:Value),us[j]?=some v→∃ t,v=.int (lo + j * 1) t)→Vals (rangeV lo n) us
 | 0,lo,[],_,_=>.nil
 | 0,lo,_ :: _,h,_=>by simp at h
 | n + 1,lo,[],h,_=>by simp at h
 | n + 1,lo,u :: us,h,hv=>by
  have e:rangeV lo (n + 1)=V.int lo :: rangeV (lo + 1) n:=by
   unfold rangeV
   rw [List.range_succ_eq_map,List.map_cons,List.map_map]
   congr 1
   ·simp
   ·apply List.map_congr_left
    intro i _
    simp only [Function.comp]
    congr 1
    push_cast
    omega
  rw [e]
  obtain ⟨t,ht⟩:=hv 0 u rfl
  refine .cons ⟨t,by rw [ht];simp⟩ (xa3 n (lo + 1) us (by simpa using h) fun j v hj=>?_)
  obtain ⟨t',ht'⟩:=hv (j + 1) v hj
  refine ⟨t',ht'.trans ?_⟩
  congr 1
  omega
theorem Xai (hc:X.calm=true):CallR X (.type "list") (fun xs H Q=>∃ p lo hi,xs=[.ref p]∧H p=some (.rng lo hi)∧(-(2 ^ 62)≤lo∧lo < 2 ^ 62∧-(2 ^ 62)≤hi∧hi < 2 ^ 62)∧(hi - lo).toNat≤2 ^ 24 ∧
  ∀ l,H l=none→Q (.ref l) (upd H l (.lst (rangeV lo (hi - lo).toNat)))):=by
 intro pins s σ H xs us Q I r h
 obtain ⟨p,lo,hi,rfl,hp,⟨b1,b2,b3,b4⟩,hz,q⟩:=h
 obtain ⟨u,rfl,ru⟩:=vals1 r
 cases ru
 obtain ⟨t,t',t'',e⟩:=(show ObjOk X.prog X.w H s.heap p (.rng lo hi) from I.hok p _ hp)
 refine call_list_range (a:=lo) (b:=hi) (c:=1) (n:=(hi - lo).toNat) (I.ok.hd hc) (show IsRange s.heap p lo hi 1 t t' t'' from e) (small_one b1 b2 b3 b4) (by rw [rangeSize_one];split <;> omega) hz fun h' tk acc c kp hD hI=>?_
 refine ⟨.ref s.heap.objs.size,_,I.laid (t':=tk) (o:=.lst (rangeV lo (hi - lo).toNat)) kp (Nat.le_refl _) ?_,rfl,q _ (I.hok.fresh (Nat.le_refl _))⟩
 refine ⟨by rw [Ya7];exact Nat.le_trans hz (by decide),acc.toList,c,xa3 _ _ _ (by rw [Array.length_toList];exact hI.1) fun j v hj=>hI.2 j v (by rw [← hj,Array.getElem?_toList]),by simpa using hD⟩
end
mutual
inductive Rep (K:PySem.W.Frag) (H:Hp):V→PyData→Prop
 | non:Rep K H .non .none
 | bl (b:Bool):Rep K H (.bl b) (.bool b)
 | int (i:Int):Rep K H (.int i) (.int i)
 | str (x:Str):Rep K H (.str x) (.str x)
 | tup {a:Addr} {xs:List V} {ds:List PyData}:SqT K H a xs→Reps K H xs ds→Rep K H (.ref a) (.tuple ds)
 | lst {a:Addr} {xs:List V} {ds:List PyData}:SqL K H a xs→Reps K H xs ds→Rep K H (.ref a) (.list ds)
inductive Reps (K:PySem.W.Frag) (H:Hp):List V→List PyData→Prop
 | nil:Reps K H [] []
 | cons {v:V} {vs:List V} {d:PyData} {ds:List PyData}:Rep K H v d→Reps K H vs ds→Reps K H (v :: vs) (d :: ds)
end
section
variable {X:Cx} {pins:List (Addr×Obj)} {σ:St} {H:Hp} {s:Shared}
mutual
theorem Rep.reads (I:Inv X pins σ H s):∀ {v:V} {d:PyData} {u:Value},Rep X.K H v d→RelV v u→∃ as,Reads s.heap u d as
 | _,_,_,.non,r=>by cases r;exact ⟨_,.none⟩
 | _,_,_,.bl b,r=>by cases r;exact ⟨_,.bool b⟩
 | _,_,_,.int i,r=>by obtain ⟨t,rfl⟩:=r;exact ⟨_,.int i t⟩
 | _,_,_,.str x,r=>by obtain ⟨t,rfl⟩:=r;exact ⟨_,.str x t⟩
 | _,_,_,.tup q rs,r=>by
  cases r
  obtain ⟨its,rv,⟨o,e,c,n,hd⟩,_⟩:=I.tuple q
  obtain ⟨as,ra⟩:=Reps.reads I rs rv
  exact ⟨_,.tuple e c hd (by simpa using ra)⟩
 | _,_,_,.lst q rs,r=>by
  cases r
  obtain ⟨its,rv,pl,_⟩:=I.list q
  obtain ⟨o,e,c,n,hd⟩:=pl.isList
  obtain ⟨as,ra⟩:=Reps.reads I rs rv
  exact ⟨_,.list e c hd (by simpa using ra)⟩
theorem Reps.reads (I:Inv X pins σ H s):∀ {vs:List V} {ds:List PyData} {us:List Value},Reps X.K H vs ds→Vals vs us→∃ as,ReadsAll s.heap us ds as
 | _,_,_,.nil,r=>by cases r;exact ⟨_,.nil⟩
 | _,_,_,.cons h t,r=>by
  cases r with
  | cons r1 r2 =>
   obtain ⟨as,h1⟩:=Rep.reads I h r1
   obtain ⟨bs,h2⟩:=Reps.reads I t r2
   exact ⟨_,.cons h1 h2⟩
end
noncomputable def rEqD (K:PySem.W.Frag) (neg:Bool):R2:=fun x y H Q=>∃ d e,Rep K H x d∧Rep K H y e∧PyData.canLay0 d=true∧PyData.canLay0 e=true∧min d.depth e.depth≤60∧Q (.bl (if neg then !PyData.eqv d e else PyData.eqv d e)) H
theorem op_eqD (hu:X.A.units + 64 < cLine):OpR X (compareOp .Eq) (rEqD X.K false):=by
 intro pins s σ H x y v u Q I rx ry h
 obtain ⟨d,e,hd,he,c1,c2,dp,q⟩:=h
 obtain ⟨as,ra⟩:=hd.reads I rx
 obtain ⟨bs,rb⟩:=he.reads I ry
 exact SeqAt.eqOverData X.prog X.w X.A X.xe s v u d e as bs _ ra rb c1 c2 (by omega) ⟨.bl _,H,I,rfl,q⟩
theorem XbW (hu:X.A.units + 64 < cLine):OpR X (compareOp .NotEq) (rEqD X.K true):=by
 intro pins s σ H x y v u Q I rx ry h
 obtain ⟨d,e,hd,he,c1,c2,dp,q⟩:=h
 obtain ⟨as,ra⟩:=hd.reads I rx
 obtain ⟨bs,rb⟩:=he.reads I ry
 exact SeqAt.neOverData X.prog X.w X.A X.xe s v u d e as bs _ ra rb c1 c2 (by omega) ⟨.bl _,H,I,rfl,q⟩
end
section
variable {K:PySem.W.Frag} {H:Hp}
noncomputable def intsD (ns:List Int):List PyData:=ns.map PyData.int
theorem Reps.ints:∀ (ns:List Int),Reps K H (ns.map V.int) (intsD ns)
 | []=>.nil
 | n :: r=>.cons (.int n) (Reps.ints r)
theorem zaP:∀ (ns:List Int),PyData.canLayAll0 (intsD ns)=true
 | []=>rfl
 | n :: r=>by show (true && PyData.canLayAll0 (intsD r))=true;rw [zaP r];rfl
theorem Xa3:∀ (ns:List Int),PyData.depthAll (intsD ns)=0
 | []=>rfl
 | n :: r=>by show max 0 (PyData.depthAll (intsD r))=0;rw [Xa3 r];rfl
theorem xa7:∀ (ns ms:List Int),PyData.eqvAll (intsD ns) (intsD ms)=decide (ns=ms)
 | [],[]=>rfl
 | [],_ :: _=>rfl
 | _ :: _,[]=>rfl
 | n :: ns,m :: ms=>by
  show ((n == m) && PyData.eqvAll (intsD ns) (intsD ms))=decide (n :: ns=m :: ms)
  rw [xa7 ns ms]
  by_cases h:n=m
  ·subst h;simp
  ·simp [h]
end
end L2
namespace L2
open PySem PySem.Spec PyProof.Rows
structure Def (K:PySem.W.Frag) (mg:Str→Option Value) (x:Str) (st:Stmt) (ps:List Str) (f:Addr) (fd:FuncData):Prop where
 F:Fun K x x st f fd
 be:∀ us:List Value,us.length=ps.length→bindArgs fd ⟨us,[]⟩=pure (ps.zip us)
 m:mg x=some (.ref f)
theorem Def.b {K:PySem.W.Frag} {mg:Str→Option Value} {x:Str} {st:Stmt} {ps:List Str} {f:Addr} {fd:FuncData} (D:Def K mg x st ps f fd):Binds K fd ps []:=.all D.be
theorem Xam {K:PySem.W.Frag} {h:Heap} {mg:Str→Option Value} (X:K.In h) (G:h.Ns mainGlobals mg) {x:Str} {st:Stmt} {ps:List Str} {f:Addr} {oc:Value} {od an:Option Addr} {osl:Array (Option Value)} {kV doc pm cdv ct:Value}
  (hb:∀ (kV doc pm:Value) (an:Option Addr) (cdv ct:Value) (us:List Value),us.length=ps.length→bindArgs (PySem.W.fnOf x x (defArgs st) (defBody st) (defScope st) .none kV doc pm an cdv ct) ⟨us,[]⟩=pure (ps.zip us))
  (a:PySem.W.nsIn K mainGlobals x=some (some (.ref f))) (l:K.lookup f=some ⟨oc,od,.func (PySem.W.fnOf x x (defArgs st) (defBody st) (defScope st) .none kV doc pm an cdv ct),osl⟩)
  (c:PySem.W.codeIn K cdv x=true) (k:PySem.W.keepIn K (.ref f)=true):∃ f fd,Def K mg x st ps f fd :=
 ⟨f,_,fun_mk l c k,hb kV doc pm an cdv ct,PySem.W.mg_of X G a⟩
theorem Def.bindsTo {K:PySem.W.Frag} {mg:Str→Option Value} {x p:Str} {st:Stmt} {f:Addr} {fd:FuncData} (D:Def K mg x st [p] f fd) (s:Shared) (u:Value):BindsTo s fd ⟨[u],[]⟩ [(p,u)]:=.of_eq (D.be [u] rfl)
theorem Yax {K:PySem.W.Frag} {h:Heap} {mg:Str→Option Value} (X:K.In h) (G:h.Ns mainGlobals mg) {x:Str} (z:PySem.W.nsIn K mainGlobals x=some none):mg x=none:=PySem.W.mg_none_of X G z
theorem ZaL {n j:Nat} (h:j < n):ixN n (j:Int)=some j:=by
 unfold ixN
 rw [if_pos (by omega),if_pos (by omega)]
 simp
theorem atI_lt {α:Type} {xs:List α} {i:Int} (h0:0≤i) (h1:i < xs.length):∃ v,atI xs i=some v∧v∈xs:=by
 have hi:i.toNat < xs.length:=by omega
 refine ⟨xs[i.toNat],?_,List.getElem_mem hi⟩
 have:=ZaT (xs:=xs) (j:=i.toNat) (v:=xs[i.toNat]) (by simp [hi])
 rwa [Int.toNat_of_nonneg h0] at this
theorem dT {c:Prop} [Decidable c] (h:decide c=true):c:=of_decide_eq_true h
end L2
namespace L2
open PySem PySem.Spec PyProof.Rows
section
variable {prog:Program} {w:World} {A:Around} {E:Value→Shared→Prop} {s:Shared}
end
section
variable {X:Cx} {e:Expr} {te:TE} {pos p0 p1 p2:Pos} {j:Nat}
end
end L2
namespace L2
open PySem PySem.Spec PyProof.Rows
section
variable {K:PySem.W.Frag} {f:Addr} {H0:Hp} {σ:St} {i:Nat} {t u ta tb:TE} {R R':V→Hp→Prop} {P P' P2:Int→Prop} {L M:Nat}
end
end L2
namespace L2
open PySem PySem.Spec PyProof.Rows
theorem Yav:∀ (names:List (Str×NameKind)) (n:Nat) (acc:List (Str×Addr)),cellsFrom n names acc=cellsFrom n names [] ++ acc
 | [],_,_=>rfl
 | (x,k) :: r,n,acc=>by
  show (if k == .cell then cellsFrom (n + 1) r ((x,n) :: acc) else cellsFrom n r acc)=(if k == .cell then cellsFrom (n + 1) r [(x,n)] else cellsFrom n r []) ++ acc
  by_cases hk:(k == NameKind.cell)=true
  ·rw [if_pos hk,if_pos hk,Yav r (n + 1) ((x,n) :: acc),Yav r (n + 1) [(x,n)],List.append_assoc];rfl
  ·rw [if_neg hk,if_neg hk];exact Yav r n acc
theorem YaI {x:Str} {c:Addr}:∀ (names:List (Str×NameKind)) (n:Nat),(x,c)∈cellsFrom n names []→(x,NameKind.cell)∈names∧n≤c
 | [],_,h=>nomatch h
 | (y,k) :: r,n,h=>by
  have h':(x,c)∈(if k == .cell then cellsFrom (n + 1) r [(y,n)] else cellsFrom n r []):=h
  by_cases hk:(k == NameKind.cell)=true
  ·rw [if_pos hk,Yav] at h'
   rcases List.mem_append.mp h' with h' | h'
   ·obtain ⟨h1,h2⟩:=YaI r (n + 1) h'
    exact ⟨List.mem_cons_of_mem _ h1,by omega⟩
   ·have e:(x,c)=(y,n):=by simpa using h'
    cases e
    have e2:k=NameKind.cell:=by simpa using hk
    subst e2
    exact ⟨List.mem_cons_self,Nat.le_refl _⟩
  ·rw [if_neg hk] at h'
   obtain ⟨h1,h2⟩:=YaI r n h'
   exact ⟨List.mem_cons_of_mem _ h1,h2⟩
theorem YaL {env:Env} (f:Str×NameKind→List (Str×Addr)→Sem (ForInStep (List (Str×Addr))))
  (hf:∀ name kind cs,f (name,kind) cs=if kind == .free then (do let c ← cellOf env name;pure (.yield ((name,c) :: cs))) else pure (.yield cs)) :
  ∀ (names:List (Str×NameKind)) (acc:List (Str×Addr)),(∀ y∈names,y.2=NameKind.free→∃ c,env.cells.lookup y.1=some c) →
   ∃ cl,(forIn names acc f:Sem (List (Str×Addr)))=pure cl∧(∀ n c,(n,c)∈cl→(n,c)∈acc∨(env.cells.lookup n=some c∧(n,NameKind.free)∈names))∧(∀ p∈acc,p∈cl)∧∀ n,(n,NameKind.free)∈names→∃ c,(n,c)∈cl
 | [],acc,_=>⟨acc,by rw [List.forIn_nil],fun n c h=>.inl h,fun p h=>h,fun n h=>nomatch h⟩
 | (x,k) :: r,acc,h=>by
  have hr:∀ y∈r,y.2=NameKind.free→∃ c,env.cells.lookup y.1=some c:=fun y hy=>h y (List.mem_cons_of_mem _ hy)
  by_cases hk:k=NameKind.free
  ·subst hk
   obtain ⟨c,hc⟩:=h (x,.free) List.mem_cons_self rfl
   have e:cellOf env x=pure c:=by unfold cellOf;rw [hc]
   obtain ⟨cl,e1,h1,h2,h3⟩:=YaL f hf r ((x,c) :: acc) hr
   refine ⟨cl,?_,fun n d hd=>?_,fun p hp=>h2 p (List.mem_cons_of_mem _ hp),fun n hn=>?_⟩
   ·rw [List.forIn_cons,hf,if_pos (by rfl),e]
    exact e1
   ·rcases h1 n d hd with q | ⟨q,q'⟩
    ·rcases List.mem_cons.mp q with q | q
     ·cases q;exact .inr ⟨hc,List.mem_cons_self⟩
     ·exact .inl q
    ·exact .inr ⟨q,List.mem_cons_of_mem _ q'⟩
   ·rcases List.mem_cons.mp hn with q | q
    ·cases q;exact ⟨c,h2 _ List.mem_cons_self⟩
    ·exact h3 n q
  ·obtain ⟨cl,e1,h1,h2,h3⟩:=YaL f hf r acc hr
   have hb:¬ ((k == NameKind.free)=true):=by simpa using hk
   refine ⟨cl,?_,fun n d hd=>?_,h2,fun n hn=>?_⟩
   ·rw [List.forIn_cons,hf,if_neg hb]
    exact e1
   ·rcases h1 n d hd with q | ⟨q,q'⟩
    ·exact .inl q
    ·exact .inr ⟨q,List.mem_cons_of_mem _ q'⟩
   ·rcases List.mem_cons.mp hn with q | q
    ·cases q;exact absurd rfl hk
    ·exact h3 n q
theorem za4 {scope:Scope} {env:Env} (h:∀ y∈scope.names,y.2=NameKind.free→∃ c,env.cells.lookup y.1=some c) :
  ∃ cl,closureFor scope env=pure cl∧(∀ n c,(n,c)∈cl→env.cells.lookup n=some c∧(n,NameKind.free)∈scope.names)∧∀ n,(n,NameKind.free)∈scope.names→∃ c,(n,c)∈cl:=by
 have key:∀ (f:Str×NameKind→List (Str×Addr)→Sem (ForInStep (List (Str×Addr)))),(∀ name kind cs,f (name,kind) cs=if kind == .free then (do let c ← cellOf env name;pure (.yield ((name,c) :: cs))) else pure (.yield cs)) →
   ∃ cl,((forIn scope.names [] f:Sem (List (Str×Addr))) >>= fun r=>pure r)=pure cl∧(∀ n c,(n,c)∈cl→env.cells.lookup n=some c∧(n,NameKind.free)∈scope.names)∧∀ n,(n,NameKind.free)∈scope.names→∃ c,(n,c)∈cl:=fun f hf=>by
  obtain ⟨cl,e,h1,_,h3⟩:=YaL f hf scope.names [] h
  refine ⟨cl,?_,fun n c hc=>(h1 n c hc).elim (fun z=>nomatch z) id,h3⟩
  rw [e]
  rfl
 simp only [closureFor]
 exact key _ fun name kind cs=>by cases hk:kind == NameKind.free <;> simp [hk]
theorem ltN {a b:Addr} (h:a < b):@LT.lt Nat _ a b:=h
theorem neL {a b:Addr} (h:@LT.lt Nat _ a b):a≠b:=Nat.ne_of_lt h
theorem neG {a b:Addr} (h:@LT.lt Nat _ b a):a≠b:=Nat.ne_of_gt h
theorem Zbi {M:Model} {A:Around} {E:Value→Shared→Prop} {s:Shared} {scope:Scope} {g:Addr} {cl:List (Str×Addr)} {q:Str} {env:Env} {Q:Env→Shared→Prop}
  (h:∀ h',h'.Ns s.heap.objs.size (fun _=>none)→(∀ b o,s.heap.get? b=some o→h'.get? b=some o)→CellsOk h' (s.heap.objs.size + 1) (cellsFrom (s.heap.objs.size + 1) scope.names []) →
   Q { scope:=scope,locals:=s.heap.objs.size,globals:=g,cells:=cellsFrom (s.heap.objs.size + 1) scope.names cl,qual:=q,func:=none,code:=env.code,frame:=env.frame,builtins:=env.builtins } { s with heap:=h' }) :
  wpAny M A (newFunctionEnv scope g cl [] q none .none (some env)) Q E s:=by
 simp only [newFunctionEnv,Option.isSome_some,if_true]
 refine wpAny_bind (wpAny_alloc ?_)
 refine wpAny_bind (wpAny_layCells _ (fun name kind cells=>by cases hkc:kind == NameKind.cell <;> simp [hkc]) _ _ _ _ ?_)
 have ok:=cellsFrom_ok scope.names (s.heap.push { cls:=.type "dict",data:=.dict #[] }) (s.heap.objs.size + 1) [] ⟨fun _ _ hm=>(nomatch hm),List.Pairwise.nil⟩ (by rw [Heap.size_push];exact Nat.le_refl _)
 rw [Heap.size_push] at ok
 rw [show ({ s with heap:=s.heap.push { cls:=.type "dict",data:=.dict #[] } }:Shared).heap.objs.size=s.heap.objs.size + 1 from Heap.size_push ..]
 refine wpAny_bind ?_
 rw [List.forIn_nil]
 refine wpAny_pure (wpAny_pure ?_)
 exact h _ ((Heap.Ns.new s.heap (.type "dict")).keeps (pushCells_keeps _ _)) (fun b o e=>pushCells_keeps _ _ b o (Heap.get?_push_of_some _ e)) ok
noncomputable def cxComp (X:Cx) (N:List Str) (scope:Scope) (cells:List (Str×Addr)) (C:Addr) (fp:List Addr) (s:Shared) (H:Hp):Cx where
 prog:=X.prog
 w:=X.w
 K:=X.K
 mg:=X.mg
 base:=X.base
 A:=X.A
 N:=N
 s₀:=s
 H₀:=H
 env:=compEnvC scope cells C X.env
 outer:=X.stack
 stack:=X.stack
 ex:=fp
 fn:=fun x=>decide (scope.names.lookup x=some .cell)
 calm:=X.calm
 pn:=[]
 xe:=fun _ _=>False
noncomputable def relabelS (scope sc:Scope):Scope :=
 { scope with names:=scope.names.map fun (n,k)=>if (k == .free && sc.kind == .function && sc.names.lookup n == some .cell) then (n,.cell) else (n,k) }
structure CompS (sc scope:Scope) (own fr:List Str):Prop where
 kind:scope.kind=.function
 nd:(own ++ fr).Nodup
 ndn:(scope.names.map (·.1)).Nodup
 free:∀ y∈scope.names,y.2=.free→sc.names.lookup y.1=some .cell∨sc.names.lookup y.1=some .free
 frl:∀ x∈fr,scope.names.lookup x=some .free
structure CompSc (X:Cx) (scope:Scope) (own fr:List Str) (js:List Nat):Prop where
 c:CompS X.env.scope scope own fr
 ix:js.map (fun j=>X.N[j]?)=fr.map some
theorem CompSc.kind {X:Cx} {scope:Scope} {own fr:List Str} {js:List Nat} (S:CompSc X scope own fr js):scope.kind=.function:=S.c.kind
theorem CompSc.ndn {X:Cx} {scope:Scope} {own fr:List Str} {js:List Nat} (S:CompSc X scope own fr js):(scope.names.map (·.1)).Nodup:=S.c.ndn
theorem CompSc.frl {X:Cx} {scope:Scope} {own fr:List Str} {js:List Nat} (S:CompSc X scope own fr js):∀ x∈fr,scope.names.lookup x=some .free:=S.c.frl
theorem CompSc.free {X:Cx} {scope:Scope} {own fr:List Str} {js:List Nat} (S:CompSc X scope own fr js):∀ y∈scope.names,y.2=.free→X.env.kindOf y.1=some .cell∨X.env.kindOf y.1=some .free:=S.c.free
theorem xav {α:Type}:∀ {l:List (Str×α)} {n:Str} {c:α},(l.map (·.1)).Nodup→(n,c)∈l→l.lookup n=some c
 | (k,v) :: r,n,c,nd,h=>by
  obtain ⟨h1,h2⟩:=List.nodup_cons.mp nd
  rw [List.lookup_cons]
  rcases List.mem_cons.mp h with e | h
  ·cases e;simp
  ·have:(n == k)=false:=beq_eq_false_iff_ne.mpr fun e=>h1 (by rw [← e];exact List.mem_map.mpr ⟨(n,c),h,rfl⟩)
   rw [this]
   exact xav h2 h
theorem yaV (scope:Scope) (env:Env) (x:Str):(relabel scope env).names.lookup x=none∧scope.names.lookup x=none ∨
  ∃ k,scope.names.lookup x=some k∧(relabel scope env).names.lookup x=some (if (k == .free && env.scope.kind == .function && env.kindOf x == some .cell) then .cell else k):=by
 have key:∀ names:List (Str×NameKind),(names.map fun (n,k)=>if (k == NameKind.free && env.scope.kind == .function && env.kindOf n == some .cell) then (n,NameKind.cell) else (n,k)).lookup x=none∧names.lookup x=none ∨
   ∃ k,names.lookup x=some k∧(names.map fun (n,k)=>if (k == NameKind.free && env.scope.kind == .function && env.kindOf n == some .cell) then (n,NameKind.cell) else (n,k)).lookup x=some (if (k == .free && env.scope.kind == .function && env.kindOf x == some .cell) then .cell else k):=by
  intro names
  induction names with
  | nil=>exact .inl ⟨rfl,rfl⟩
  | cons p r ih =>
   obtain ⟨n,k⟩:=p
   rw [List.map_cons]
   cases hx:x == n with
   | true =>
    have e:x=n:=by simpa using hx
    subst e
    refine .inr ⟨k,by simp [List.lookup_cons],?_⟩
    by_cases hc:(k == NameKind.free && env.scope.kind == .function && env.kindOf x == some .cell)=true
    ·simp only [if_pos hc];simp [List.lookup_cons]
    ·simp only [if_neg hc];simp [List.lookup_cons]
   | false =>
    have e1:∀ q:NameKind,(((n,q) :: (r.map fun (n,k)=>if (k == NameKind.free && env.scope.kind == .function && env.kindOf n == some .cell) then (n,NameKind.cell) else (n,k))).lookup x)=((r.map fun (n,k)=>if (k == NameKind.free && env.scope.kind == .function && env.kindOf n == some .cell) then (n,NameKind.cell) else (n,k)).lookup x):=fun q=>by rw [List.lookup_cons,hx]
    have e2:((n,k) :: r).lookup x=r.lookup x:=by rw [List.lookup_cons,hx]
    rw [e2]
    by_cases hc:(k == NameKind.free && env.scope.kind == .function && env.kindOf n == some .cell)=true
    ·simp only [if_pos hc];rw [e1];exact ih
    ·simp only [if_neg hc];rw [e1];exact ih
 exact key scope.names
noncomputable def compSt (n:Nat) (js:List Nat) (σ:St):St:=List.replicate n none ++ js.map fun j=>σ.getD j none
theorem Inv.track {X:Cx} {pins:List (Addr×Obj)} {σ:St} {H:Hp} {s:Shared} {a:Addr} {o:HO} (I:Inv X pins σ H s) (f:FpOk X pins H a) (new:ObjOk X.prog X.w (upd H a o) s.heap a o):Inv X pins σ (upd H a o) s:=by
 obtain ⟨f0,f1,f2,f3,f4,f5⟩:=f
 have ne:∀ b u,H b=some u→b≠a:=fun b u e z=>by rw [z,f0] at e;cases e
 refine I.step (h':=s.heap) (H':=upd H a o) (g':=s.gens) (d':=s.drawn) (t':=s.toks) (ch:=[a]) (fun b hb=>?_) (fun b u _ _ _ e _=>e) (fun b u _ _ _ e _=>⟨u.slots,e⟩) (fun b u hb e n=>?_) (fun b u _ e=>⟨u,e⟩)
  (fun b xs e=>by rw [Zai (ne b _ e)];exact e) (fun b u xs e=>by rw [Zai (ne b _ e)];exact e) (fun b ps e=>⟨#[],by rw [Zai (ne b _ e),e];simp⟩) (fun m hm=>hm) (fun b u e=>?_) I.bare
 ·have e:b=a:=by simpa using hb
  subst e
  exact ⟨f3,f1,f4,f5⟩
 ·rw [Zai (fun z=>hb (by simp [z]))];exact n
 ·by_cases hb:b=a
  ·subst hb;rw [Xaj] at e;cases e;exact new
  ·rw [Zai hb] at e
   exact (I.hok b u e).stay (fun c v _ q=>q) (fun c q=>by rw [Zai (ne c _ q)];exact q) fun c xs q=>by rw [Zai (ne c _ q)];exact q
noncomputable def PF (X:Cx) (ifs:List Expr) (t:TT):Prop :=
 ∀ (pins:List (Addr×Obj)) (s:Shared) (σ:St) (H:Hp) (Q:Bool→Hp→Prop),Inv X pins σ H s→t σ H Q →
  wpAny (model X.prog X.w) X.A (forIn ifs true fun c r=>if r=true then do let ok ← isTrue c X.env (eval c X.env);pure (ForInStep.yield ok) else pure (ForInStep.yield r)) (TP X pins σ Q) X.xe s
theorem ZaV {X:Cx}:PF X [] (fun _ H Q=>Q true H):=fun _ _ _ H _ I h=>wpAny_tests_nil ⟨H,I,h⟩
theorem XbA {X:Cx} {c:Expr} {t:TT} (h:PT X c t):PF X [c] t:=fun pins s σ H Q I hw=>wpAny_tests_one (h pins s σ H Q I hw)
theorem Ybi {prog:Program} {w:World} {A:Around} {R:Result→Shared→Prop} {s:Shared} {elt target iter:Expr} {ifs:List Expr} {scope:Scope} {pos:Pos} {it acc:Value} {env:Env} (I:Nat→Shared→Prop)
  (turn:∀ n s,I n s→wpAny (model prog w) A (pyNext it) (fun r s₁=>match r with
   | none=>R (.ok .next) s₁
   | some v=>wpAny (model prog w) A (letOwnedTupleGo target it v) (fun _ s₁'=>wpAny (model prog w) A (assign target env v) (fun _ s₂ =>
     wpAny (model prog w) A (forIn ifs true fun c r=>if r=true then do let ok ← isTrue c env (eval c env);pure (ForInStep.yield ok) else pure (ForInStep.yield r)) (fun ok s₃ =>
      if ok=true then wpAny (model prog w) A (eval elt env) (fun x s₄ =>
       wpAny (model prog w) A (call (.builtin "list.append") [acc,x]) (fun _ s₅=>∃ m,m < n∧I m s₅) (fun _ _=>False) s₄) (fun _ _=>False) s₃
      else ∃ m,m < n∧I m s₃) (fun _ _=>False) s₂) (fun _ _=>False) s₁') (fun _ _=>False) s₁) (fun _ _=>False) s)
  (n:Nat) (h:I n s) :
  codeAny (model prog w) A (.compLoop (.ListComp elt [⟨target,iter,ifs,0⟩] scope pos) 0 it acc env) R s:=by
 refine codeAny_loop rfl I (fun n s hI=>?_) n h
 show wpAny _ A ((compTurn (.ListComp elt [⟨target,iter,ifs,0⟩] scope pos) 0 it acc env).onRaise (fun x=>do noteFrame x env;theTreesLotGoes x)) _ _ s
 refine wpAny_noted ?_
 rw [compTurn_list]
 refine wpAny_bind (wpAny_standAt (wpAny_bind (wpAny_mono (turn n s hI) (fun r s₁ h₁=>?_) fun _ _ h'=>h'.elim)))
 cases r with
 | none=>exact wpAny_pure h₁
 | some v =>
  refine wpAny_bind (wpAny_mono h₁ (fun _ s₁' h₁'=>?_) fun _ _ h'=>h'.elim)
  refine wpAny_bind (wpAny_mono h₁' (fun _ s₂ h₂=>wpAny_bind (wpAny_mono h₂ (fun ok s₃ h₃=>?_) fun _ _ h'=>h'.elim)) fun _ _ h'=>h'.elim)
  cases ok with
  | false=>exact wpAny_pure ⟨rfl,h₃⟩
  | true =>
   exact wpAny_bind (wpAny_bind (wpAny_mono h₃ (fun x s₄ h₄=>wpAny_bind (wpAny_mono h₄ (fun _ s₅ h₅=>wpAny_pure (wpAny_pure ⟨rfl,h₅⟩)) fun _ _ h'=>h'.elim)) fun _ _ h'=>h'.elim))
noncomputable def CompGo (J:It) (n:Nat) (js:List Nat) (g:TG) (tc:TT) (te:TE) (σ:St) (H1:Hp) (Q:VK):Prop :=
 ∃ W:Nat→Nat→List V→St→Hp→Prop,(∃ m,W 0 m [] (compSt n js σ) H1)∧∀ i m ys σ' H',W i m ys σ' H' →
  ys.length < sizeLine∧((J.stop i H'∧∀ p,H' p=none→Q (.ref p) (upd H' p (.lst ys))) ∨
   (J.go i H'∧∀ x H2,J.yld i H' x H2→g x σ' H2 fun σ2 H3=>tc σ2 H3 fun b H4=>if b=true then te σ2 H4 fun y H5=>∃ m',m' < m∧W (i + 1) m' (ys ++ [y]) σ2 H5 else ∃ m',m' < m∧W (i + 1) m' ys σ2 H4))
noncomputable def tComp (wi:TI) (n:Nat) (js:List Nat) (g:TG) (tc:TT) (te:TE):TE:=fun σ H Q=>wi σ H fun J H1=>CompGo J n js g tc te σ H1 Q
section
variable {X:Cx} {pins:List (Addr×Obj)} {σ:St} {tg iter elt:Expr} {ifs:List Expr} {scope:Scope} {pos:Pos} {own fr:List Str} {js:List Nat} {g:TG} {tc:TT} {te:TE} {wi:TI}
theorem ya4 {H2:Hp} {s2:Shared} {it:Addr} {fp:List Addr} {tn:Nat→Heap→Prop} {J:It} {Q:VK} {E:Value→Shared→Prop} {cl:List (Str×Addr)} {RR:Value→Addr→Result→Shared→Prop}
  (hc:X.calm=true) (S:CompSc X scope own fr js) (hg:∀ cells C fp s H,PG (cxComp X (own ++ fr) scope cells C fp s H) tg g) (hf:∀ cells C fp s H,PF (cxComp X (own ++ fr) scope cells C fp s H) ifs tc) (he:∀ cells C fp s H,PE (cxComp X (own ++ fr) scope cells C fp s H) elt te)
  (I2:Inv X pins σ H2 s2) (T:Turn X.prog X.w X.K tg J fp it tn) (st2:tn 0 s2.heap) (f2:∀ b∈fp,FpOk X pins H2 b)
  (hcl1:∀ n c,(n,c)∈cl→X.env.cells.lookup n=some c∧(n,NameKind.free)∈scope.names) (hcl2:∀ n,(n,NameKind.free)∈scope.names→∃ c,(n,c)∈cl)
  (W:Nat→Nat→List V→St→Hp→Prop) (m0:Nat) (w0:W 0 m0 [] (compSt own.length js σ) H2)
  (turn:∀ i m ys σ' H',W i m ys σ' H'→ys.length < sizeLine∧((J.stop i H'∧∀ p,H' p=none→Q (.ref p) (upd H' p (.lst ys))) ∨
   (J.go i H'∧∀ x H2,J.yld i H' x H2→g x σ' H2 fun σ2 H3=>tc σ2 H3 fun b H4=>if b=true then te σ2 H4 fun y H5=>∃ m',m' < m∧W (i + 1) m' (ys ++ [y]) σ2 H5 else ∃ m',m' < m∧W (i + 1) m' ys σ2 H4)))
  (fin:∀ (acc C:Addr) (H':Hp) (s':Shared) (v:V),v=.ref acc→Inv X pins σ H' s'→FpOk X pins H' C→(∃ m,s'.heap.Ns C m)→Q v H'→RR (.ref acc) C (.ok .next) s') :
  wpAny (model X.prog X.w) X.A (newList []) (fun acc s3=>wpAny (model X.prog X.w) X.A (newFunctionEnv scope X.env.globals cl [] X.env.qual none .none (some X.env)) (fun cenv s4 =>
   codeAny (model X.prog X.w) X.A (.compStart (.ListComp elt [⟨tg,iter,ifs,0⟩] scope pos) 0 (.ref it) acc { cenv with scope:=relabel scope X.env }) (RR acc cenv.locals) s4) E s3) E s2:=by
 refine wpAny_newObj_type ?_
 refine Zbi fun h4 hns hk4 hcells=>?_
 have hA:s2.heap.objs.size < (s2.heap.push { cls:=.type "list",data:=.seq ([]:List Value).toArray }).objs.size:=by rw [Heap.size_push];exact Nat.lt_succ_self _
 generalize hC:(s2.heap.push { cls:=.type "list",data:=.seq ([]:List Value).toArray }).objs.size=C at hns hcells hA ⊢
 generalize hac:s2.heap.objs.size=acc at hA ⊢
 have hAC:acc≠C:=Nat.ne_of_lt hA
 have old:∀ b o,s2.heap.get? b=some o→h4.get? b=some o:=fun b o e=>hk4 b o (Heap.get?_push_of_some _ e)
 have hacc:h4.get? acc=some { cls:=.type "list",data:=.seq ([]:List Value).toArray }:=hk4 _ _ (by rw [← hac];exact Heap.get?_push_size _ rfl)
 have inA:∀ x c,(x,c)∈cellsFrom (C + 1) scope.names []→h4.IsCell c none∧C + 1≤c∧scope.names.lookup x=some .cell:=fun x c h=>⟨(hcells.empty x c h).1,(hcells.empty x c h).2,xav S.ndn (YaI _ _ h).1⟩
 have lk:∀ x c,(cellsFrom (C + 1) scope.names cl).lookup x=some c→(h4.IsCell c none∧C + 1≤c∧(x,c)∈cellsFrom (C + 1) scope.names [])∨(X.env.cells.lookup x=some c∧scope.names.lookup x=some .free):=fun x c h=>by
  rw [Yav] at h
  rcases List.mem_append.mp (PySem.mem_of_lookup h) with q | q
  ·exact .inl ⟨(inA x c q).1,(inA x c q).2.1,q⟩
  ·exact .inr ⟨(hcl1 x c q).1,xav S.ndn (hcl1 x c q).2⟩
 have lt2:∀ x c,X.env.cells.lookup x=some c→c < s2.heap.objs.size:=fun x c h=>by
  obtain ⟨v,z⟩:=I2.cell x c h
  exact z.lt
 have cellC:∀ x c,(cellsFrom (C + 1) scope.names cl).lookup x=some c→c≠C∧c≠acc∧H2 c=none∧∀ b∈fp,c≠b:=fun x c h=>by
  rcases lk x c h with ⟨_,h1,_⟩ | ⟨h1,_⟩
  ·refine ⟨neG (by omega),neG (by omega),I2.hok.fresh (by omega),fun b hb z=>?_⟩
   obtain ⟨o,e,_⟩:=T.obj 0 _ st2 b hb
   have:=ltN (Heap.lt_size e)
   rw [← z] at this
   omega
  ·have:=ltN (lt2 x c h1)
   exact ⟨neL (by omega),neL (by omega),I2.freeC x c h1,fun b hb=>(f2 b hb).2.2.2.2.1 x c h1⟩
 have frlk:∀ x,scope.names.lookup x=some .free→∃ c,X.env.cells.lookup x=some c∧(cellsFrom (C + 1) scope.names cl).lookup x=some c:=fun x h=>by
  obtain ⟨c,hcm⟩:=hcl2 x (PySem.mem_of_lookup h)
  have hc1:=(hcl1 x c hcm).1
  have hs:((cellsFrom (C + 1) scope.names cl).lookup x).isSome=true:=by
   refine PySem.W.cellsFrom_some scope.names (C + 1) cl (.inr ?_)
   cases q:cl.lookup x with
   | some d=>rfl
   | none =>
    exfalso
    have:∀ {l:List (Str×Addr)},(x,c)∈l→l.lookup x≠none:=by
     intro l
     induction l with
     | nil=>intro h;exact nomatch h
     | cons p r ih =>
      intro h z
      obtain ⟨k,v⟩:=p
      rw [List.lookup_cons] at z
      cases hb:x == k with
      | true=>rw [hb] at z;cases z
      | false =>
       rw [hb] at z
       rcases List.mem_cons.mp h with e | h
       ·cases e;simp at hb
       ·exact ih h z
    exact this hcm q
  obtain ⟨d,hd⟩:=Option.isSome_iff_exists.mp hs
  rcases lk x d hd with ⟨_,_,h2⟩ | ⟨h1,_⟩
  ·have:=(inA x d h2).2.2
   rw [h] at this;cases this
  ·rw [hc1] at h1;cases h1
   exact ⟨c,hc1,hd⟩
 have fpd:∀ b∈fp,b≠C∧b≠acc:=fun b hb=>by
  obtain ⟨o,e,_⟩:=T.obj 0 _ st2 b hb
  have:=ltN (Heap.lt_size e)
  exact ⟨neL (by omega),neL (by omega)⟩
 have kfn:(relabel scope X.env).kind=.function:=S.kind
 have ok:(cxComp X (own ++ fr) scope (cellsFrom (C + 1) scope.names cl) C fp s2 H2).Ok:=by
  refine ⟨I2.ok.mod,kfn,I2.ok.glob,I2.ok.blt,?_,fun x y c h1 h2=>?_,fun x hx=>?_,fun x c hx h=>?_,I2.ok.hd,I2.ok.frames,.inl rfl,fun b hb=>⟨(fpd b hb).1,fun x c h=>(cellC x c h).2.2.2 b hb⟩,I2.bs,Nat.le_trans I2.ok.bsz I2.sz,fun b o e hb=>?_,fun b hb z=>?_,I2.stack,I2.stkFree⟩
  ·show s2.heap.objs.size≤C
   omega
  ·rcases lk x c h1 with ⟨_,q1,q2⟩ | ⟨q1,_⟩
   ·rcases lk y c h2 with ⟨_,r1,r2⟩ | ⟨r1,_⟩
    ·exact name_of_addr hcells.apart q2 r2
    ·have:=ltN (lt2 y c r1);omega
   ·rcases lk y c h2 with ⟨_,r1,r2⟩ | ⟨r1,_⟩
    ·have:=ltN (lt2 x c q1);omega
    ·exact I2.ok.inj x y c q1 r1
  ·have hx':(relabel scope X.env).names.lookup x=some .cell∨(relabel scope X.env).names.lookup x=some .free:=hx
   rcases yaV scope X.env x with ⟨e,_⟩ | ⟨k,e1,e2⟩
   ·rcases hx' with z | z <;> (rw [e] at z;cases z)
   ·by_cases hk:k=.free
    ·subst hk
     obtain ⟨c,_,h⟩:=frlk x e1
     exact ⟨c,h⟩
    ·have hk':k=.cell:=by
      have hb:(k == NameKind.free)=false:=beq_eq_false_iff_ne.mpr hk
      rw [hb] at e2
      simp only [Bool.false_and,Bool.false_eq_true,if_false] at e2
      rcases hx' with z | z
      ·rw [e2] at z;exact Option.some.inj z
      ·rw [e2] at z;exact absurd (Option.some.inj z) hk
     subst hk'
     exact Option.isSome_iff_exists.mp (PySem.W.cellsFrom_some scope.names (C + 1) cl (.inl e1))
  ·have hx':scope.names.lookup x=some .cell:=of_decide_eq_true hx
   show s2.heap.objs.size≤c
   rcases lk x c h with ⟨_,q,_⟩ | ⟨_,q⟩
   ·omega
   ·rw [hx'] at q;cases q
  ·rcases (f2 b hb).2.2.2.1 with z | z
   ·exact I2.ok.noex b o e z
   ·have h1:@LT.lt Nat _ b X.base.objs.size:=Heap.lt_size e
    have h2:=I2.ok.bsz
    omega
  ·rcases List.mem_cons.mp (I2.stkSub b z) with e | e
   ·exact (f2 b hb).2.1 e
   ·exact (f2 b hb).2.2.1 e
 have I4:Inv (cxComp X (own ++ fr) scope (cellsFrom (C + 1) scope.names cl) C fp s2 H2) [(acc,{ cls:=.type "list",data:=.seq ([]:List Value).toArray })] (compSt own.length js σ) H2 { s2 with heap:=h4 }:=by
  refine ⟨ok,rfl,I2.bare,Un.kept old,⟨_,hns,fun i x v e1 e2 e3=>?_⟩,fun x c h=>?_,I2.hok.fresh (by show s2.heap.objs.size≤C;omega),fun x c h=>(cellC x c h).2.2.1,fun p hp=>?_,I2.hok.kept old,?_⟩
  ·have e1':(own ++ fr)[i]?=some x:=e1
   unfold compSt at e2
   by_cases hi:i < own.length
   ·rw [List.getElem?_append_left (by simpa using hi),List.getElem?_replicate] at e2
    split at e2 <;> cases e2
   ·rw [List.getElem?_append_right (by simpa using hi),List.length_replicate,List.getElem?_map] at e2
    rw [List.getElem?_append_right (by omega)] at e1'
    cases hj:js[i - own.length]? with
    | none=>rw [hj] at e2;cases e2
    | some j =>
     rw [hj] at e2
     have e2':σ.getD j none=some v:=Option.some.inj e2
     have hN:X.N[j]?=some x:=by
      have q:=congrArg (fun l=>l[i - own.length]?) S.ix
      simp only [List.getElem?_map,hj,e1',Option.map_some] at q
      exact Option.some.inj q
     have hσ:σ[j]?=some (some v):=by
      rw [List.getD_eq_getElem?_getD] at e2'
      cases q:σ[j]? with
      | none=>rw [q] at e2';cases e2'
      | some o=>rw [q] at e2';exact congrArg some e2'
     have hfr:scope.names.lookup x=some .free:=S.frl x (List.mem_of_getElem? e1')
     have hk:=S.free _ (PySem.mem_of_lookup hfr) rfl
     obtain ⟨m,_,hl⟩:=I2.loc
     obtain ⟨u,ru,lo⟩:=hl j x v hN hσ (by rcases hk with k | k;exact .inr (.inl k);exact .inr (.inr k))
     refine ⟨u,ru,.inr ⟨?_,?_⟩⟩
     ·rcases yaV scope X.env x with ⟨_,e⟩ | ⟨k,q1,q2⟩
      ·rw [hfr] at e;cases e
      ·rw [hfr] at q1;cases q1
       have q2':(compEnvC scope (cellsFrom (C + 1) scope.names cl) C X.env).kindOf x=some (if (NameKind.free == .free && X.env.scope.kind == .function && X.env.kindOf x == some .cell)=true then .cell else .free):=q2
       rw [show (cxComp X (own ++ fr) scope (cellsFrom (C + 1) scope.names cl) C fp s2 H2).env.kindOf x=_ from q2']
       split
       ·exact .inl rfl
       ·exact .inr rfl
     ·rcases lo with ⟨k,_⟩ | ⟨_,c,hc1,hc2⟩
      ·rcases hk with k' | k' <;> (rw [k] at k';cases k')
      ·obtain ⟨d,hd1,hd2⟩:=frlk x hfr
       rw [hc1] at hd1;cases hd1
       exact ⟨c,hd2,hc2.keeps old⟩
  ·rcases lk x c h with ⟨q,_,_⟩ | ⟨q,_⟩
   ·exact ⟨_,q⟩
   ·obtain ⟨v,z⟩:=I2.cell x c q
    exact ⟨v,z.keeps old⟩
  ·have e:p=(acc,{ cls:=.type "list",data:=.seq ([]:List Value).toArray }):=by simpa [cxComp] using hp
   subst e
   refine ⟨hacc,I2.hok.fresh (by omega),hAC,fun z=>?_,fun v z=>nomatch z⟩
   rcases List.mem_cons.mp (I2.stkSub acc z) with e | e
   ·have:=ltN I2.lt
    rw [← e] at this
    omega
   ·exact I2.nofs (by omega) e
  ·show (compSt own.length js σ).length=(own ++ fr).length
   have q:=congrArg List.length S.ix
   simp only [List.length_map] at q
   unfold compSt
   rw [List.length_append,List.length_replicate,List.length_map,List.length_append,q]
 have fpC:∀ {H':Hp} {ob:Obj},(∀ b∈fp,H' b=none)→∀ b∈fp,FpOk (cxComp X (own ++ fr) scope (cellsFrom (C + 1) scope.names cl) C fp s2 H2) [(acc,ob)] H' b:=fun {H' ob} hn b hb =>
  ⟨hn b hb,(fpd b hb).1,fun z=>by
   rcases List.mem_cons.mp (I2.stkSub b z) with e | e
   ·exact (f2 b hb).2.1 e
   ·exact (f2 b hb).2.2.1 e,.inl hb,fun x c h=>(cellC x c h).2.2.2 b hb,fun p hp=>by
   have e:p=(acc,ob):=by simpa [cxComp] using hp
   subst e
   exact fun z=>(fpd b hb).2 z.symm⟩
 have loop:codeAny (model X.prog X.w) X.A (.compLoop (.ListComp elt [⟨tg,iter,ifs,0⟩] scope pos) 0 (.ref it) (.ref acc) (compEnvC scope (cellsFrom (C + 1) scope.names cl) C X.env)) (RR (.ref acc) C) { s2 with heap:=h4 }:=by
  refine Ybi (fun m s'=>∃ (i:Nat) (ys:List V) (its:List Value) (n:Nat) (σ':St) (H':Hp),Inv (cxComp X (own ++ fr) scope (cellsFrom (C + 1) scope.names cl) C fp s2 H2) [(acc,{ cls:=.type "list",data:=.seq its.toArray n })] σ' H' s'∧Vals ys its∧tn i s'.heap∧(∀ b∈fp,H' b=none)∧W i m ys σ' H') ?_ m0
   ⟨0,[],[],0,_,H2,I4,.nil,T.keep _ _ _ st2 fun b _ o e=>old b o e,fun b hb=>(f2 b hb).1,w0⟩
  rintro n s5 ⟨i,ys,its,en,σ5,H5,I5,rv,st5,fr5,w5⟩
  obtain ⟨hz,alt⟩:=turn i n ys σ5 H5 w5
  rcases alt with ⟨stop,qn⟩ | ⟨go,step⟩
  ·refine thn (T.done (cxComp X (own ++ fr) scope (cellsFrom (C + 1) scope.names cl) C fp s2 H2) rfl rfl rfl hc i _ s5 σ5 H5 _ I5 (fpC fr5) st5 stop) fun r s6 ⟨hr,I6⟩=>?_
   subst hr
   show RR (.ref acc) C (.ok .next) s6
   have u:Un (frs X.stack) fp H2 H5 s2.heap s6.heap:=I6.base
   have J6:Inv X pins σ H5 s6:=I2.call' I6.os u I6.hok I6.bare fun b hb=>⟨(f2 b hb).2.2.2.1,(f2 b hb).2.1,(f2 b hb).2.2.2.2.1,(f2 b hb).2.2.2.2.2⟩
   have pacc:=I6.pin (acc,_) (List.mem_append_right _ List.mem_cons_self)
   have facc:FpOk X pins H5 acc:=I2.fpOk (by omega) pacc.2.1
   have fC:FpOk X pins H5 C:=I2.fpOk (by omega) I6.free
   have K6:Inv X pins σ (upd H5 acc (.lst ys)) s6:=J6.track facc ⟨Nat.le_of_lt hz,its,en,rv,pacc.1⟩
   obtain ⟨m,hm,_⟩:=I6.loc
   exact fin acc C _ s6 (.ref acc) rfl K6 ⟨by rw [Zai hAC.symm];exact fC.1,fC.2⟩ ⟨m,hm⟩ (qn acc pacc.2.1)
  ·refine thn (T.item (cxComp X (own ++ fr) scope (cellsFrom (C + 1) scope.names cl) C fp s2 H2) rfl rfl rfl hc i _ s5 σ5 H5 _ I5 (fpC fr5) st5 go) fun r s6 ⟨u,hr,h6⟩=>?_
   subst hr
   refine thn h6 fun _ s7 ⟨x,H7,I7,r7,y7,st7,fr7⟩=>?_
   have I7':=I7.pinned (fpC fr7) (T.obj _ _ st7)
   refine thn (hg _ _ _ _ _ _ s7 σ5 H7 x u _ I7' r7 (step x H7 y7)) fun _ s8 ⟨σ8,H8,I8,q8⟩=>?_
   refine thn (hf _ _ _ _ _ _ s8 σ8 H8 _ I8 q8) fun b s9 ⟨H9,I9,q9⟩=>?_
   have tnk:∀ {s':Shared} {σ':St} {H':Hp},Inv (cxComp X (own ++ fr) scope (cellsFrom (C + 1) scope.names cl) C fp s2 H2) ([(acc,{ cls:=.type "list",data:=.seq its.toArray en })] ++ pinsAt fp s7.heap) σ' H' s'→tn (i + 1) s'.heap∧∀ b∈fp,H' b=none:=fun {s' σ' H'} I' =>
    ⟨T.keep _ _ _ st7 fun b hb o e=>(I'.pin (b,o) (List.mem_append_right _ (List.mem_append_right _ (YaM hb e)))).1,fun b hb=>by
     obtain ⟨o,e,d⟩:=T.obj _ _ st7 b hb
     exact (I'.pin (b,o) (List.mem_append_right _ (List.mem_append_right _ (YaM hb e)))).2.1⟩
   cases b with
   | false =>
    obtain ⟨m',hm,w9⟩:=q9
    exact ⟨m',hm,i + 1,ys,its,en,σ8,H9,I9.unpinned,rv,(tnk I9).1,(tnk I9).2,w9⟩
   | true =>
    refine thn (he _ _ _ _ _ _ s9 σ8 H9 _ I9 q9) fun y s10 ⟨yv,H10,I10,r10,m',hm,w10⟩=>?_
    have pacc:=I10.pin (acc,_) (List.mem_append_right _ (List.mem_append_left _ List.mem_cons_self))
    have hlen:=rv.length
    refine wpAny_list_append_plain (items:=its.toArray) ⟨en,pacc.1⟩ (fun h11 ⟨en',hl11⟩ hs11=>?_) (by simp only [List.size_toArray];omega)
    have cA:∀ x c,(cellsFrom (C + 1) scope.names cl).lookup x=some c→c≠acc:=fun x c h=>(cellC x c h).2.1
    have Ia:Inv (cxComp X (own ++ fr) scope (cellsFrom (C + 1) scope.names cl) C fp s2 H2) [] σ8 H10 s10:=I10.pins_of fun p hp=>nomatch hp
    have Ib:Inv (cxComp X (own ++ fr) scope (cellsFrom (C + 1) scope.names cl) C fp s2 H2) [] σ8 H10 { s10 with heap:=h11 }:=Ia.turned (it:=acc) (t':=s10.toks) (fun b o hb e=>(hs11.2 b hb).trans e) pacc.2.1 hAC (.inr (by show s2.heap.objs.size≤acc;omega)) cA fun p hp=>nomatch (show p∈([]:List (Addr×Obj)) from by simpa [cxComp] using hp)
    refine ⟨m',hm,i + 1,ys ++ [yv],its ++ [y],en',σ8,H10,Ib.pins_of fun p hp=>?_,rv.append (.cons r10 .nil),T.keep _ _ _ (tnk I10).1 fun b hb o e=>(hs11.2 b (fpd b hb).2).trans e,(tnk I10).2,w10⟩
    have e:p=(acc,{ cls:=.type "list",data:=.seq (its ++ [y]).toArray en' }):=by simpa using hp
    subst e
    exact ⟨by simpa using hl11,pacc.2.1,pacc.2.2.1,pacc.2.2.2.1,fun v z=>nomatch z⟩
 exact codeAny_compStart_list loop (T.self X.A 0 _ _ _ (T.keep _ _ _ st2 fun b _ o e=>old b o e) loop)
theorem yaP (hc:X.calm=true) (S:CompSc X scope own fr js) (hi:PI X tg iter wi) (hg:∀ cells C fp s H,PG (cxComp X (own ++ fr) scope cells C fp s H) tg g) (hf:∀ cells C fp s H,PF (cxComp X (own ++ fr) scope cells C fp s H) ifs tc) (he:∀ cells C fp s H,PE (cxComp X (own ++ fr) scope cells C fp s H) elt te)
  (hs:∀ x,foldedSetIterable iter X.env x=pure x:=by intro _;rfl):PE X (.ListComp elt [⟨tg,iter,ifs,0⟩] scope pos) (tComp wi own.length js g tc te):=by
 intro pins s σ H Q I h
 obtain ⟨cl,hcl,hcl1,hcl2⟩:=za4 (scope:=scope) (env:=X.env) fun y hy hk=>I.ok.has y.1 (S.free y hy hk)
 rw [eval_ListComp]
 refine wpAny_comprehension_free (use:=none) rfl hs hcl S.kind (fun y hy hk=>by rw [← hk];exact xav S.ndn hy) (thn (hi pins s σ H _ I h) fun v s1 h1=>thn h1 fun itv s2 h2=>?_)
 obtain ⟨it,fp,tn,J,H2,e,I2,T,st2,f2,W,⟨m0,w0⟩,turn⟩:=h2
 subst e
 refine ya4 (RR:=fun acc C=>compPost (model X.prog X.w) X.A X.xe none (EP X pins σ Q) acc C) hc S hg hf he I2 T st2 f2 hcl1 hcl2 W m0 w0 turn ?_
 intro acc C H' s' v hv I' fC ⟨m,hm⟩ q
 subst hv
 obtain ⟨f0,f1,f2',f3,f4,f5⟩:=fC
 exact ⟨m,hm,fun h'' hs''=>⟨.ref acc,H',I'.turned (it:=C) (t':=s'.toks) (fun b o hb e=>(hs''.2 b hb).trans e) f0 f1 f3 f4 f5,rfl,q⟩⟩
theorem Xa7 {i:Nat} {x:Str} {pos' spos:Pos} (hc:X.calm=true) (hN:X.N.Nodup) (hx:X.N[i]?=some x) (hl:X.env.scope.names.lookup x=some .local) (S:CompSc X scope own fr js) (hi:PI X tg iter wi) (hg:∀ cells C fp s H,PG (cxComp X (own ++ fr) scope cells C fp s H) tg g) (hf:∀ cells C fp s H,PF (cxComp X (own ++ fr) scope cells C fp s H) ifs tc) (he:∀ cells C fp s H,PE (cxComp X (own ++ fr) scope cells C fp s H) elt te)
  (hsw:swapsWith (.ListComp elt [⟨tg,iter,ifs,0⟩] scope pos) (some (.Name x pos')) spos.line X.env=pure true:=by rfl)
  (hs:∀ x,foldedSetIterable iter X.env x=pure x:=by intro _;rfl):PS X (.Assign [.Name x pos'] (.ListComp elt [⟨tg,iter,ifs,0⟩] scope pos) spos) (tAsg (tComp wi own.length js g tc te) (gName i)):=by
 intro pins s σ H D I h
 obtain ⟨cl,hcl,hcl1,hcl2⟩:=za4 (scope:=scope) (env:=X.env) fun y hy hk=>I.ok.has y.1 (S.free y hy hk)
 rw [exec_Assign_Name_used _ _ _ _ hsw]
 refine wpAny_bind (wpAny_standAt (wpAny_bind ?_))
 show wpAny _ X.A (do let _ ← comprehension (.ListComp elt [⟨tg,iter,ifs,0⟩] scope pos) scope X.env _ (newList []) false (eval iter X.env) (some (assign (.Name x pos') X.env))) _ _ s
 refine wpAny_bind (wpAny_mono (wpAny_comprehension_free (use:=some (assign (.Name x pos') X.env)) (Q:=fun _ s'=>SP X pins D .next s') rfl hs hcl S.kind (fun y hy hk=>by rw [← hk];exact xav S.ndn hy)
  (thn (hi pins s σ H _ I h) fun v s1 h1=>thn h1 fun itv s2 h2=>?_)) (fun _ s' hq=>wpAny_pure (wpAny_pure hq)) fun _ _ e=>e)
 obtain ⟨it,fp,tn,J,H2,e,I2,T,st2,f2,W,⟨m0,w0⟩,turn⟩:=h2
 subst e
 refine ya4 (Q:=fun v H'=>gName i v σ H' D.nx) (RR:=fun acc C=>compPost (model X.prog X.w) X.A X.xe (some (assign (.Name x pos') X.env)) (fun _ s'=>SP X pins D .next s') acc C) hc S hg hf he I2 T st2 f2 hcl1 hcl2 W m0 w0 turn ?_
 intro acc C H' s' v hv I' fC ⟨m,hm⟩ q
 subst hv
 obtain ⟨f0,f1,f2',f3,f4,f5⟩:=fC
 show wpAny _ X.A (assign (.Name x pos') X.env (.ref acc)) _ _ _
 refine wpAny_assign_Name (zbc I' hN hx (.inl hl) (show RelV (.ref acc) (.ref acc) from rfl) (fun s'' I'' ⟨a,hs1,ha⟩=>?_) (.inr hl))
 have haC:a≠C:=by
  rcases ha with e | e
  ·rw [e];exact f1.symm
  ·exact f4 _ _ e
 exact ⟨m,hm.sameBut hs1 haC.symm,fun h'' hs''=>⟨_,H',I''.turned (it:=C) (t':=s''.toks) (fun b o hb e=>(hs''.2 b hb).trans e) f0 f1 f3 f4 f5,q⟩⟩
end
end L2
namespace L2
open PySem PySem.Spec PyProof.Rows
section
variable {X:Cx}
theorem ybn:∀ {bs:List Bool} {us:List Value} {i:Nat} {v:Value},Vals (bs.map V.bl) us→us[i]?=some v→∃ b,bs[i]?=some b∧v=.bool b
 | [],_,i,v,r,h=>by cases r;simp at h
 | b :: bs,_,0,v,r,h=>by
  cases r with
  | cons r1 r2 =>
   cases (show _=Value.bool b from r1)
   simp at h
   exact ⟨b,rfl,h.symm⟩
 | b :: bs,_,i + 1,v,r,h=>by
  cases r with
  | cons r1 r2 =>
   obtain ⟨c,e1,e2⟩:=ybn (i:=i) r2 (by simpa using h)
   exact ⟨c,by simpa using e1,e2⟩
theorem ybe (hc:X.calm=true):CallR X (.builtin "all") (fun xs H Q=>∃ (p:Addr) (bs:List Bool),xs=[.ref p]∧SqL X.K H p (bs.map V.bl)∧Q (.bl (bs.all id)) H):=by
 intro pins s σ H xs us Q I r h
 obtain ⟨p,bs,rfl,hq,q⟩:=h
 obtain ⟨u,rfl,ru⟩:=vals1 r
 cases ru
 obtain ⟨its,rv,pl,_⟩:=I.list hq
 have hl:=pl.isList
 have hlt:p < s.heap.objs.size:=by obtain ⟨_,e,_⟩:=hl;exact Heap.lt_size e
 have hlen:=rv.length
 rw [List.length_map] at hlen
 have hh:X.A.in1.handled=none:=I.ok.hd hc
 refine call_all_walk (wpAny_pyIter_list hl ?_)
 refine ⟨s.heap.objs.size,[s.heap.objs.size,p],[s.heap.objs.size],its.toArray.size,_,_,fun i=>(bs[i]?).getD true,rfl,Walks.list (A:=X.A.in1) hh _ p (Nat.ne_of_lt hlt) its.toArray,
  ⟨⟨_,Heap.get?_push_size _ rfl,rfl,rfl⟩,hl.push _⟩,fun i v s' Q' E' hP hQ=>?_,fun h' tk hk=>?_⟩
 ·obtain ⟨b,e,rfl⟩:=ybn rv (by simpa using hP)
  simp only [e,Option.getD_some] at hQ
  exact wpAny_truthy_bool hQ
 ·have e:((List.range its.toArray.size).all fun i=>(bs[i]?).getD true)=bs.all id:=by
   rw [List.size_toArray,← hlen];exact PyProof.Rows.LSm.range_all bs
  rw [e]
  exact ⟨.bl _,H,I.kept (PyProof.Rows.LSm.kept_iter hk),rfl,q⟩
end
section
variable {prog:Program} {w:World} {A:Around} {E:Value→Shared→Prop} {s:Shared}
end
section
variable {X:Cx}
end
section
variable {K:PySem.W.Frag} {ch:List Addr} {H H':Hp}
end
end L2
namespace L2
open PySem PySem.Spec PyProof.Rows
section
variable {X:Cx} {K:PySem.W.Frag}
theorem Xb1 (hK:X.K=K):IxR X (rIxT K):=by subst hK;exact Xaf
theorem YaQ (hK:X.K=K):OpR X (compareOp .NotIn) (rIn K true):=by subst hK;exact XaU
end
end L2
namespace L2
open PySem PySem.Spec PyProof.Rows
section
variable {prog:Program} {w:World} {A:Around} {E:Value→Shared→Prop} {s:Shared}
theorem Ybt {j t:Addr} {i:Nat} {ys:Array Value} {y:Value} {Q:Value→Shared→Prop} (hj:s.heap.IsTupleIter j t i) (ht:s.heap.IsTuple t ys) (hy:ys[i]?=some y)
  (hQ:∀ h',h'.IsTupleIter j t (i + 1)→Heap.SameBut j s.heap h'→Q y { s with heap:=h' }):wpAny (model prog w) A (Builtin.SmallTypes.nextOf (.ref j)) Q E s:=by
 obtain ⟨r,hr,rc,rd⟩:=id hj
 obtain ⟨q,hq,_,nq,dq⟩:=ht
 unfold Builtin.SmallTypes.nextOf
 refine wpAny_bind (wpAny_callSpecial?_slot (name:=Str.ofString "__next__") hj.typeIs F.slot_tuple_iterator_next (wpAny_call_entry F.slot_tuple_iterator_next hj.typeIs F.entry_tuple_iterator_next ?_ (F.args_tuple_iterator_next_1 _)))
 show wpAny _ _ (PySem.field (.ref j) 0 >>= _) _ _ s
 refine wpAny_bind (wpAny_field hr rd (x:=.ref t) rfl ?_);show wpAny _ _ (if (Value.ref t == Value.none)=true then _ else _) _ _ s
 rw [if_neg (fun z:(Value.ref t == Value.none)=true=>Bool.false_ne_true z)];show wpAny _ _ (PySem.field (.ref j) 1 >>= _) _ _ s
 refine wpAny_bind (wpAny_field hr rd (x:=.int i 0) rfl ?_);show wpAny _ _ (seqItems? (.ref t) >>= _) _ _ s
 refine wpAny_bind (wpAny_seqItems hq dq ?_);simp only [Int.toNat_natCast,hy]
 refine wpAny_bind (wpAny_setField hr rd (by simp) (wpAny_pure ⟨y,rfl,wpAny_pure (hQ _ ⟨_,Heap.get?_update_self _ hr (Obj.isFreed_of_fields (Obj.data_mapFields rd _)),(Obj.cls_mapFields ..).trans rc,by rw [Obj.data_mapFields rd];simp [rawInt]⟩ (Heap.SameBut.update ..))⟩))
theorem zbB {j t:Addr} {i:Nat} {ys:Array Value} {Q:Value→Shared→Prop} (hh:A.handled=none) (hj:s.heap.IsTupleIter j t i) (ht:s.heap.IsTuple t ys) (hy:ys[i]?=none)
  (hE:∀ h' e,Heap.ExtBut j s.heap h'→(∃ o,h'.get? e=some o∧o.cls=.type "StopIteration")→E (.ref e) { s with heap:=h' }):wpAny (model prog w) A (Builtin.SmallTypes.nextOf (.ref j)) Q E s:=by
 obtain ⟨r,hr,rc,rd⟩:=id hj
 obtain ⟨q,hq,_,nq,dq⟩:=ht
 unfold Builtin.SmallTypes.nextOf
 refine wpAny_bind (wpAny_callSpecial?_slot (name:=Str.ofString "__next__") hj.typeIs F.slot_tuple_iterator_next (wpAny_call_entry F.slot_tuple_iterator_next hj.typeIs F.entry_tuple_iterator_next ?_ (F.args_tuple_iterator_next_1 _)))
 show wpAny _ _ (PySem.field (.ref j) 0 >>= _) _ _ s
 refine wpAny_bind (wpAny_field hr rd (x:=.ref t) rfl ?_);show wpAny _ _ (if (Value.ref t == Value.none)=true then _ else _) _ _ s
 rw [if_neg (fun z:(Value.ref t == Value.none)=true=>Bool.false_ne_true z)];show wpAny _ _ (PySem.field (.ref j) 1 >>= _) _ _ s
 refine wpAny_bind (wpAny_field hr rd (x:=.int i 0) rfl ?_);show wpAny _ _ (seqItems? (.ref t) >>= _) _ _ s
 refine wpAny_bind (wpAny_seqItems hq dq ?_);simp only [Int.toNat_natCast,hy]
 refine wpAny_bind (wpAny_rule (wpAny_bind (wpAny_setField hr rd (by simp) ?_)));show wpAny _ _ (newExc (.type "StopIteration") [] >>= _) _ _ _
 refine wpAny_bind ?_;simp only [newExc,newTuple]
 refine wpAny_bind (wpAny_newObj_type ?_ (by size_fits));refine wpAny_bind (m:=firstArgMember _ _) (wpAny_of_eq (a:=Value.none) (by first | rfl | (simp only [firstArgMember];rfl)) ?_)
 refine wpAny_newObj_type ?_ (by size_fits);simp only [raiseNew]
 refine wpAny_bind (wpAny_handled ?_);first | rw [show A.in1.handled=none from hh] | rw [hh]
 exact wpAny_bind (wpAny_pure (wpAny_throw (hE _ _ (((Heap.SameBut.update ..).extBut.push _).push _) ⟨_,Heap.get?_push_size _ rfl,rfl⟩)))
end
theorem drawsT {prog:Program} {w:World} {A:Around} (hh:A.handled=none) (j t:Addr) (hne:t≠j) (ys:Array Value) :
  Draws prog w A j [j,t] ys.size (fun i v=>ys[i]?=some v) (fun i h=>h.IsTupleIter j t i∧h.IsTuple t ys) where
 live:=fun _ _ st=>let ⟨o,ho,_⟩:=st.1;⟨o,ho⟩
 frame:=fun _ _ _ st k=>⟨st.1.at fun o e=>k j (by simp) o e,let ⟨o,e,r⟩:=st.2;⟨o,k t (by simp) o e,r⟩⟩
 item:=fun i s Q E hi st hQ=>Ybt st.1 st.2 (y:=ys[i]) (by simp [hi]) fun h' a b=>hQ _ h' s.toks (by simp [hi]) ⟨a,st.2.extBut b.extBut hne⟩ b
 done:=fun s Q E st hE=>zbB hh st.1 st.2 (by simp) hE
theorem ybB (l:Addr) (items:Array Value) (n:Nat) (dct:Option Addr) (sl:Array (Option Value)) :
  Meets (Builtin.«enumerate.__new__» ⟨[.type "enumerate",.ref l],[]⟩) (fun _ R s=>s.heap.get? l=some { cls:=.type "tuple",dict:=dct,data:=.seq items n,slots:=sl } ∧
   R (.ok (.ret (.ref (s.heap.push { cls:=.type "tuple_iterator",data:=.fields #[.ref l,.int 0 0] }).objs.size)))
    { s with heap:=(s.heap.push { cls:=.type "tuple_iterator",data:=.fields #[.ref l,.int 0 0] }).push { cls:=.type "enumerate",data:=.fields #[.none,.bool false,.ref s.heap.objs.size,rawInt 0,.none,.none] } }) :=
 .of_wp fun prog w A R s h=>by
  obtain ⟨hp,g,d,tk,os⟩:=s;obtain ⟨hl,h⟩:=h
  have hsub:=sub_enumerate
  have hL:Heap.IsTuple (Shared.heap ⟨hp,g,d,tk,os⟩) l items:=⟨_,hl,rfl,n,rfl⟩
  wp_walk using AutoSeq1.wpAny_loadPart' hl
  refine wpAny_stack_any fun st=>wpAny_pure ?_
  split
  ·rename_i c _ _ _ _ _
   cases (c == Value.type "enumerate") <;> (wp_walk using AutoSeq1.wpAny_loadPart' hl,wpAny_pyIter_tuple hL;exact ⟨_,rfl,h⟩)
  ·wp_walk using AutoSeq1.wpAny_loadPart' hl,wpAny_pyIter_tuple hL
   exact ⟨_,rfl,h⟩
section
variable {prog:Program} {w:World} {A:Around} {E:Value→Shared→Prop} {s:Shared}
theorem Za4 {l:Addr} {ys:Array Value} {Q:Value→Shared→Prop} (ht:s.heap.IsTuple l ys)
  (h:∀ h',IsEnum h' (s.heap.objs.size + 1) s.heap.objs.size 0 .none→h'.IsTupleIter s.heap.objs.size l 0→h'.objs.size=s.heap.objs.size + 2 →
   (∀ b o,s.heap.get? b=some o→h'.get? b=some o)→Q (.ref (s.heap.objs.size + 1)) { s with heap:=h' }):wpAny (model prog w) A (call (.type "enumerate") [.ref l]) Q E s:=by
 obtain ⟨⟨c,dct,dt,sl⟩,hl,hc,n,hd⟩:=ht
 cases (show c=.type "tuple" from hc)
 cases (show dt=.seq ys n from hd)
 refine callType_new F.called_enumerate (by decide) (F.typeCall_enumerate_1 _) (F.newCall_enumerate_1 _) (fun obj=>F.args_object_init_2 obj _) F.entry_enumerate_new (ybB l ys n dct sl) ⟨hl,?_⟩
 have z:(s.heap.push { cls:=.type "tuple_iterator",data:=.fields #[.ref l,.int 0 0] }).objs.size=s.heap.objs.size + 1:=Heap.size_push ..
 show _∧_;rw [z]
 have en:IsEnum ((s.heap.push { cls:=.type "tuple_iterator",data:=.fields #[.ref l,.int 0 0] }).push { cls:=.type "enumerate",data:=.fields #[.none,.bool false,.ref s.heap.objs.size,rawInt 0,.none,.none] }) (s.heap.objs.size + 1) s.heap.objs.size 0 .none:=by
  have g:=Heap.get?_push_size (s.heap.push { cls:=.type "tuple_iterator",data:=.fields #[.ref l,.int 0 0] }) (o:={ cls:=.type "enumerate",data:=.fields #[.none,.bool false,.ref s.heap.objs.size,rawInt 0,.none,.none] }) rfl
  rw [z] at g
  exact g
 exact ⟨⟨_,en,rfl⟩,h _ en ⟨_,Heap.get?_push_of_some _ (Heap.get?_push_size _ rfl),rfl,rfl⟩ (by rw [Heap.size_push,z]) fun b o e=>Heap.get?_push_of_some _ (Heap.get?_push_of_some _ e)⟩
end
section
variable {X:Cx} {pins:List (Addr×Obj)} {σ:St} {H:Hp} {s:Shared} {h':Heap}
theorem Inv.turnedL {t':Nat} {ch:List Addr} (I:Inv X pins σ H s) (k:∀ b o,b ∉ ch→s.heap.get? b=some o→h'.get? b=some o) (f:∀ b∈ch,FpOk X pins H b):Inv X pins σ H { s with heap:=h',toks:=t' }:=by
 have nit:∀ b u,H b=some u→b ∉ ch:=fun b u e z=>by rw [(f b z).1] at e;cases e
 refine I.step (g':=s.gens) (d':=s.drawn) (ch:=ch) (fun b hb=>⟨(f b hb).2.2.2.1,(f b hb).2.1,(f b hb).2.2.2.2.1,(f b hb).2.2.2.2.2⟩) (fun b o _ _ hc e _=>k b o hc e) (fun b o _ _ hc e _=>⟨o.slots,k b o hc e⟩) (fun _ _ _ _ n=>n)
  (fun b o hc e=>⟨o,k b o hc e⟩) (fun _ _ e=>e) (fun _ _ _ e=>e) (fun b ps e=>⟨#[],by rw [e];simp⟩) (fun m hm=>?_) (fun b u e=>?_) I.bare
 ·obtain ⟨o,es,ep,ho,r⟩:=hm
  exact ⟨o,es,ep,k _ o (fun z=>(f _ z).2.1 rfl) ho,r⟩
 ·refine (I.hok b u e).stay (fun c v hc q=>k c v ?_ q) (fun _ q=>q) fun _ _ q=>q
  rcases hc with z | z
  ·rw [z];exact nit b u e
  ·exact nit c _ z
end
noncomputable def Ite (K:PySem.W.Frag) (a:Addr):It :=
 ⟨fun i H=>∃ xs x,SqT K H a xs∧xs[i]?=some x,fun i H x H'=>∃ p y,x=.ref p∧H p=none∧H'=upd H p (.tup [.int i,y])∧∀ xs,SqT K H a xs→xs[i]?=some y,fun i H=>∃ xs,SqT K H a xs∧xs.length=i⟩
theorem Zbe {P:Program} {w:World} {K:PySem.W.Frag} {es:List Expr} {x1} {pos:Pos} (a e it:Addr) (hne:e≠it) :
  Turn P w K (.Tuple es x1 pos) (Ite K a) [e,it] e (fun i h=>(∃ old,IsEnum h e it i old)∧h.IsTupleIter it a i) where
 mem:=by simp
 obj:=fun i h st b hb=>by
  obtain ⟨⟨old,he⟩,o,e2,c,d⟩:=st
  rcases List.mem_cons.mp hb with rfl | hb
  ·exact ⟨_,he,fun v z=>by
    have z':Data.fields _=Data.cell v:=z
    cases z'⟩
  ·have q:b=it:=by simpa using hb
   subst q
   exact ⟨o,e2,fun v z=>by rw [d] at z;cases z⟩
 keep:=fun i h h' st k=>⟨let ⟨old,he⟩:=st.1;⟨old,k e (by simp) _ he⟩,st.2.at fun o q=>k it (by simp) o q⟩
 item:=by
  intro X hP hw hK hc i pins s σ H E I hf st hg
  subst hP hw hK
  obtain ⟨xs,x,hq,hx⟩:=hg
  obtain ⟨its,rv,p,hz⟩:=I.tuple hq
  obtain ⟨u,hu,ru⟩:=rv.get hx
  obtain ⟨⟨old,he⟩,hit⟩:=st
  have ht:s.heap.IsTuple a its.toArray:=p
  have nai:a≠it:=fun z=>by
   obtain ⟨o,e1,c1,_⟩:=hit
   obtain ⟨o2,e2,c2,_⟩:=ht
   rw [z,e1] at e2;cases e2
   exact absurd (c1.symm.trans c2) (by simp)
  have nae:e≠a:=fun z=>by
   obtain ⟨o2,e2,c2,_⟩:=ht
   rw [← z,he] at e2;cases e2
   exact absurd c2 (by simp)
  have hl:=rv.length
  have hi:i < its.toArray.size:=by
   have:=List.getElem?_eq_some_iff.mp hu
   obtain ⟨q,_⟩:=this
   simpa using q
  refine wpAny_pyNext_enum_itemD (drawsT (A:=X.A.in1) (I.ok.hd hc) it a nai its.toArray) he ⟨hit,ht⟩ hi hne (by simp [hne,nae]) fun y h1 tk hy ho hst hT hsz kk=>?_
  have ey:y=u:=by
   have:its.toArray[i]?=some u:=by simpa using hu
   exact Option.some.inj (hy.symm.trans this)
  subst ey
  refine ⟨_,rfl,wpAny_letOwnedTupleGo_enum ho fun h2 he2 sb=>?_⟩
  have hel:@LT.lt Nat _ e s.heap.objs.size:=Heap.lt_size he
  have hil:@LT.lt Nat _ it s.heap.objs.size:=by obtain ⟨o,e1,_⟩:=hit;exact Heap.lt_size e1
  have hf0:H s.heap.objs.size=none:=I.hok.fresh (Nat.le_refl _)
  have sb':Heap.SameBut e h1 h2:=sb
  have I1:Inv X pins σ (upd H s.heap.objs.size (.tup [.int i,x])) { s with heap:=s.heap.push { cls:=.type "tuple",data:=.seq #[.int i tk,y] },toks:=s.toks } :=
   I.laid (fun b u e=>Heap.get?_push_of_some _ e) (Nat.le_refl _) ⟨(by decide:2≤sizeLine),[.int i tk,y],.cons ⟨tk,rfl⟩ (.cons ru .nil),⟨_,Heap.get?_push_size _ rfl,rfl,rfl,_,rfl⟩⟩
  have nn:∀ b∈[e,it],@LT.lt Nat _ b s.heap.objs.size:=fun b hb=>by
   rcases List.mem_cons.mp hb with rfl | hb
   ·exact hel
   ·have q:b=it:=by simpa using hb
    rw [q];exact hil
  have hn:∀ b∈[e,it],upd H s.heap.objs.size (.tup [.int i,x]) b=none:=fun b hb=>by
   unfold upd
   rw [if_neg (Nat.ne_of_lt (nn b hb))]
   exact (hf b hb).1
  have I2:Inv X pins σ (upd H s.heap.objs.size (.tup [.int i,x])) { s with heap:=h2,toks:=tk + 1 }:=by
   refine Inv.turnedL (s:={ s with heap:=s.heap.push { cls:=.type "tuple",data:=.seq #[.int i tk,y] },toks:=s.toks }) (h':=h2) I1 (ch:=[e,it]) (t':=tk + 1) (fun b o hb q=>?_) fun b hb=>⟨hn b hb,(hf b hb).2⟩
   have nb:b≠e∧b≠it:=by simpa using hb
   refine (sb'.2 b nb.1).trans ?_
   rcases Heap.get?_push_cases q with ⟨rfl,rfl⟩ | q
   ·exact hT
   ·exact kk b o nb.1 nb.2 q
  refine ⟨.ref s.heap.objs.size,_,I2,rfl,⟨_,x,rfl,hf0,rfl,fun ys hy2=>by rw [I.tuple_inj hy2 hq];exact hx⟩,⟨⟨y,?_⟩,?_⟩,hn⟩
  ·have:((i + 1:Nat):Int)=(i:Int) + 1:=by omega
   rw [this];exact he2
  ·exact hst.1.extBut sb'.extBut (Ne.symm hne)
 done:=by
  intro X hP hw hK hc i pins s σ H E I hf st hg
  subst hP hw hK
  obtain ⟨xs,hq,hx⟩:=hg
  obtain ⟨its,rv,p,hz⟩:=I.tuple hq
  obtain ⟨⟨old,he⟩,hit⟩:=st
  have ht:s.heap.IsTuple a its.toArray:=p
  have nai:a≠it:=fun z=>by
   obtain ⟨o,e1,c1,_⟩:=hit
   obtain ⟨o2,e2,c2,_⟩:=ht
   rw [z,e1] at e2;cases e2
   exact absurd (c1.symm.trans c2) (by simp)
  have hl:=rv.length
  have ei:its.toArray.size=i:=by simp;omega
  refine wpAny_pyNext_enum_endD (drawsT (A:=X.A.in1) (I.ok.hd hc) it a nai its.toArray) he (by rw [ei];exact ⟨hit,ht⟩) fun h1 eb=>⟨rfl,?_⟩
  obtain ⟨f0,f1,f2,f3,f4,f5⟩:=hf it (by simp)
  exact I.turned (t':=s.toks) (fun b o hb q=>eb b o hb q) f0 f1 f3 f4 f5
 self:=fun _ _ _ _ _ st h=>let ⟨_,he⟩:=st.1;wpAny_pyIter_enum he h
noncomputable def iEnum (K:PySem.W.Frag) (ta:TA):TI:=fun σ H R=>ta σ H fun vs H1=>∃ a,vs=[.ref a]∧(∃ xs,SqT K H1 a xs)∧R (Ite K a) H1
theorem ZbB {X:Cx} {es:List Expr} {x1} {p0:Pos} {l:Expr} {ta:TA} {p pos:Pos} (hg:Gl X "enumerate") (hm:X.mg "enumerate" = none) (ha:PA X [l] ta) (hs:starEach [l] X.env=[(false,eval l X.env)]:=by rfl) :
  PI X (.Tuple es x1 p0) (.Call (.Name "enumerate" p) [l] [] pos) (iEnum X.K ta):=by
 intro pins s σ H R I h
 refine Call_ (ZaY I hg hm boot_enumerate (PyProof.Rows.callWith_type1 (thn (ha pos pins s σ H _ I h) fun us s1 ⟨vs,H1,I1,r1,q1⟩=>?_) hs rfl))
 obtain ⟨a,e,⟨xs,hq⟩,q⟩:=q1
 subst e
 cases r1 with
 | cons r rr =>
  cases rr
  cases r
  obtain ⟨its,rv,p,hz⟩:=I1.tuple hq
  refine Za4 (show s1.heap.IsTuple a its.toArray from p) fun h1 he hi hsz kk=>?_
  refine wpAny_pyIter_enum he ?_
  refine ⟨s1.heap.objs.size + 1,[s1.heap.objs.size + 1,s1.heap.objs.size],_,_,H1,rfl,I1.kept (t':=s1.toks) kk,Zbe a _ _ (Nat.succ_ne_self _),⟨⟨_,he⟩,hi⟩,fun b hb=>?_,q⟩
  have hb':@LE.le Nat _ s1.heap.objs.size b:=by
   rcases List.mem_cons.mp hb with rfl | hb
   ·exact Nat.le_succ _
   ·have e:b=s1.heap.objs.size:=by simpa using hb
    rw [e];exact Nat.le_refl _
  exact I1.fpOk hb' (I1.hok.fresh hb')
end L2
namespace L2
open PySem PySem.Spec PyProof.Rows
section
open Sem (wp)
open PySem.AutoSeq1 (wpAny_loadPart')
open PySem.MeetsSeq PySem.MeetsSeq2 PySem.MeetsSeq3
theorem IntsAre.get {vs:List Value} {ns:List Int} (h:IntsAre vs ns):∀ {i:Nat} {n:Int},ns[i]?=some n→∃ t,vs[i]?=some (.int n t):=by
 induction h with
 | nil=>intro i n e;simp at e
 | cons a t h ih =>
  intro i n e
  cases i with
  | zero=>exact ⟨t,by simpa using e⟩
  | succ i=>simpa using ih (by simpa using e)
theorem tupIndex (l:Addr) (items:Array Value) (n:Nat) (dd:Option Addr) (sl:Array (Option Value)) (ns:List Int) (hi:IntsAre items.toList ns) (v:Int) (t:Tok) (j:Nat) (hj:ns[j]?=some v) (hb:∀ i,i < j→ns[i]?≠some v) :
  Meets (Builtin.«tuple.index» ⟨[.ref l,.int v t],[]⟩)
   (fun _ R s=>s.heap.get? l=some { cls:=.type "tuple",dict:=dd,data:=.seq items n,slots:=sl }∧R (.ok (.ret (.int (j:Int) s.toks))) { s with toks:=s.toks + 1 }) :=
 .of_wp fun prog w A R s h=>by
  obtain ⟨hp,g,d,tk,os⟩:=s;obtain ⟨hl,h⟩:=h
  have z1:items.size=ns.length:=by rw [← hi.length];simp
  have hjl:j < ns.length:=(List.getElem?_eq_some_iff.mp hj).1
  wp_walk using wpAny_loadPart' hl
  have key:wpAny (model prog w) A.in1 (forIn (m:=Sem) [:min items.size items.size] ((none,()):Option Fin×Unit) (fun (i:Nat) _ =>
    match items[i]? with
    | some y=>do
     let b ← eqBool y (Value.int v t)
     if b=true then do
      let r ← retInt (i:Int)
      pure (ForInStep.done (some r,()))
     else pure (ForInStep.yield (none,()))
    | _=>pure (ForInStep.yield (none,()))))
   (fun a s'=>a.1=some (.done (.ret (.int (j:Int) tk)))∧s'=⟨hp,g,d,tk + 1,os⟩) (fun e s'=>R (Except.error e) s') ⟨hp,g,d,tk,os⟩:=by
   rw [Std.Legacy.Range.forIn_eq_forIn_range']
   have ez:([:min items.size items.size]:Std.Legacy.Range).size=ns.length:=by
    simp [Std.Legacy.Range.size,z1]
   rw [ez]
   refine wpAny_forIn_list _ (fun rest b s'=>b.1=none∧s'=⟨hp,g,d,tk,os⟩∧∃ k,k≤j∧rest=List.range' k (ns.length - k) 1) _ ?_ ?_ _ _ ⟨rfl,rfl,0,Nat.zero_le _,by simp⟩
   ·rintro x rest b s' ⟨hb',rfl,k,hk,e⟩
    have el:ns.length - k=(ns.length - (k + 1)) + 1:=by omega
    rw [el,List.range'_succ] at e
    injection e with e1 e2
    subst e1
    have hkl:x < ns.length:=by omega
    obtain ⟨t',ht'⟩:=IntsAre.get hi (List.getElem?_eq_getElem hkl)
    have ht2:items[x]?=some (.int ns[x] t'):=by rw [← ht',Array.getElem?_toList]
    simp only [ht2]
    obtain ⟨e,he,hiff⟩:=HT.XbM A.in1 ⟨hp,g,d,tk,os⟩ ns[x] t' v t
    refine wpAny_bind (he prog w _ _ ?_)
    cases e with
    | true =>
     have ev:ns[x]=v:=hiff.mp rfl
     have exj:x=j:=by
      rcases Nat.lt_or_ge x j with h' | h'
      ·exact absurd (by rw [List.getElem?_eq_getElem hkl,ev]) (hb x h')
      ·omega
     subst exj
     wp_walk
     first | exact ⟨rfl,rfl⟩ | trivial
    | false =>
     have ev:ns[x]≠v:=fun q=>absurd (hiff.mpr q) Bool.false_ne_true
     have:x≠j:=fun z=>ev (by subst z;rw [List.getElem?_eq_getElem hkl] at hj;exact Option.some.inj hj)
     wp_walk
     exact ⟨rfl,rfl,x + 1,by omega,e2⟩
   ·rintro b s' ⟨hb',rfl,k,hk,e⟩
    have:(List.range' k (ns.length - k) 1).length=0:=by rw [← e];rfl
    rw [List.length_range'] at this
    omega
  refine wpAny_mono key (fun a s' ha=>?_) (fun _ _ z=>z)
  obtain ⟨ha,rfl⟩:=ha
  obtain ⟨a1,a2⟩:=a
  cases (show a1=_ from ha)
  exact wpAny_pure ⟨_,rfl,h⟩
end
section
variable {X:Cx} {K:PySem.W.Frag}
noncomputable def rIndex (K:PySem.W.Frag):V→List V→Hp→VK→Prop:=fun x vs H Q=>∃ (a:Addr) (ns:List Int) (v:Int) (j:Nat),x=.ref a∧vs=[.int v]∧SqT K H a (ns.map V.int)∧ns[j]?=some v∧(∀ i,i < j→ns[i]?≠some v)∧Q (.int (j:Int)) H
theorem xbN:MtR X "tuple.index" (rIndex X.K):=by
 intro pins s σ H x xs v us Q I rx rv h
 obtain ⟨a,ns,y,j,rfl,rfl,hq,hj,hb,q⟩:=h
 cases rx
 obtain ⟨u,rfl,t,rfl⟩:=vals1 rv
 obtain ⟨its,r,⟨⟨c,dd,dt,sl⟩,e,hc,hd,n,hdt⟩,hz⟩:=I.tupleP hq
 cases (show c=.type "tuple" from hc)
 cases (show dt=.seq its.toArray n from hdt)
 refine call_meets F.slot_tuple_index ⟨_,e,rfl⟩ F.entry_tuple_index (F.args_tuple_index_2 _ _) (tupIndex a its.toArray n dd sl ns (by simpa using Zbs r) y t j hj hb) ⟨e,?_⟩
 exact ⟨.int j,H,I.tok _,⟨_,rfl⟩,q⟩
theorem YbB {es:List Expr} {k:Nat} {t:TGs} {n:Nat} {pos:Pos} (hK:X.K=K) (hc:X.calm=true) (h:PGs X es t)
  (hn:(assignEach es X.env).length=n:=by rfl) (hst:(assignEach es X.env).findIdx? (·.1)=none:=by rfl):PG X (.Tuple es k pos) (gTup K n t):=by subst hK;exact xaU hc h hn hst
end
end L2
namespace L2
open PySem PySem.Spec PyProof.Rows
open Builtin.Str
section
variable {X:Cx} {K:PySem.W.Frag}
end
noncomputable def Its (x:Str):It:=⟨fun i _=>i < x.cps.size,fun i H y H'=>H'=H∧∃ c,x.cps[i]?=some c∧y=.str ⟨#[c]⟩,fun i _=>x.cps.size≤i⟩
theorem xbt {P:Program} {w:World} {K:PySem.W.Frag} {tg:Expr} (it:Addr) (x:Str) (t:Tok):Turn P w K tg (Its x) [it] it (fun i h=>h.IsStrIter it "str_ascii_iterator" x t i) where
 mem:=by simp
 obj:=fun i h st b hb=>by
  have e:b=it:=by simpa using hb
  subst e
  obtain ⟨o,e,c,d⟩:=st
  exact ⟨o,e,fun v z=>by rw [d] at z;cases z⟩
 keep:=fun i h h' st k=>let ⟨o,ho,r⟩:=st;⟨o,k it (by simp) o ho,r⟩
 item:=by
  intro X hP hw hK hc i pins s σ H E I hf st hg
  subst hP hw hK
  have hg:i < x.cps.size:=hg
  obtain ⟨f0,f1,f2,f3,f4,f5⟩:=hf it (by simp)
  refine wpAny_pyNext_ascii_item st (c:=x.cps[i]) (by simp [hg]) fun h' st' sb=>?_
  have I1:Inv X pins σ H { s with heap:=h',toks:=s.toks + 1 }:=I.turned (fun b o hb e=>(sb.2 b hb).trans e) f0 f1 f3 f4 f5
  obtain ⟨o,e,c,d⟩:=id st'
  exact ⟨_,rfl,xbg (s:={ s with heap:=h',toks:=s.toks + 1 }) e c d (by decide) ⟨.str ⟨#[x.cps[i]]⟩,H,I1,⟨_,rfl⟩,⟨rfl,_,by simp [hg],rfl⟩,st',fun b hb=>(hf b hb).1⟩⟩
 done:=by
  intro X hP hw hK hc i pins s σ H E I hf st hg
  subst hP hw hK
  have hg:x.cps.size≤i:=hg
  obtain ⟨f0,f1,f2,f3,f4,f5⟩:=hf it (by simp)
  exact wpAny_pyNext_ascii_end (I.ok.hd hc) st (by simp [hg]) fun h' eb=>⟨rfl,I.turned (t':=s.toks) (fun b o hb e=>eb b o hb e) f0 f1 f3 f4 f5⟩
 self:=fun _ _ _ _ _ st h=>wpAny_pyIter_striter_ascii st h
theorem xbB {P:Program} {w:World} {K:PySem.W.Frag} {tg:Expr} (it:Addr) (x:Str) (t:Tok):Turn P w K tg (Its x) [it] it (fun i h=>h.IsStrIter it "str_iterator" x t i) where
 mem:=by simp
 obj:=fun i h st b hb=>by
  have e:b=it:=by simpa using hb
  subst e
  obtain ⟨o,e,c,d⟩:=st
  exact ⟨o,e,fun v z=>by rw [d] at z;cases z⟩
 keep:=fun i h h' st k=>let ⟨o,ho,r⟩:=st;⟨o,k it (by simp) o ho,r⟩
 item:=by
  intro X hP hw hK hc i pins s σ H E I hf st hg
  subst hP hw hK
  have hg:i < x.cps.size:=hg
  obtain ⟨f0,f1,f2,f3,f4,f5⟩:=hf it (by simp)
  refine wpAny_pyNext_wide_item st (c:=x.cps[i]) (by simp [hg]) fun h' st' sb=>?_
  have I1:Inv X pins σ H { s with heap:=h',toks:=s.toks + 1 }:=I.turned (fun b o hb e=>(sb.2 b hb).trans e) f0 f1 f3 f4 f5
  obtain ⟨o,e,c,d⟩:=id st'
  exact ⟨_,rfl,xbg (s:={ s with heap:=h',toks:=s.toks + 1 }) e c d (by decide) ⟨.str ⟨#[x.cps[i]]⟩,H,I1,⟨_,rfl⟩,⟨rfl,_,by simp [hg],rfl⟩,st',fun b hb=>(hf b hb).1⟩⟩
 done:=by
  intro X hP hw hK hc i pins s σ H E I hf st hg
  subst hP hw hK
  have hg:x.cps.size≤i:=hg
  obtain ⟨f0,f1,f2,f3,f4,f5⟩:=hf it (by simp)
  exact wpAny_pyNext_wide_end (I.ok.hd hc) st (by simp [hg]) fun h' eb=>⟨rfl,I.turned (t':=s.toks) (fun b o hb e=>eb b o hb e) f0 f1 f3 f4 f5⟩
 self:=fun _ _ _ _ _ st h=>wpAny_pyIter_striter_wide st h
section
variable {X:Cx} {tg:Expr}
noncomputable def iStr (tl:TE):TI:=fun σ H R=>tl σ H fun x H1=>∃ z,x=.str z∧R (Its z) H1
theorem zbX {l:Expr} {tl:TE} (hl:PE X l tl):PI X tg l (iStr tl):=by
 intro pins s σ H R I h
 refine thn (hl pins s σ H _ I h) fun v s1 ⟨x,H1,I1,r1,q1⟩=>?_
 obtain ⟨z,e,q⟩:=q1
 subst e
 obtain ⟨t,rfl⟩:=r1
 have fp:∀ b∈[s1.heap.objs.size],FpOk X pins H1 b:=fun b hb=>by
  have e:b=s1.heap.objs.size:=by simpa using hb
  subst e
  exact I1.fpOk (Nat.le_refl _) (I1.hok.fresh (Nat.le_refl _))
 cases ha:z.cps.all (· < 128)
 ·refine wpAny_pyIter_wide ha ?_
  exact ⟨s1.heap.objs.size,[s1.heap.objs.size],_,_,H1,rfl,I1.kept (t':=s1.toks) fun b o e=>Heap.get?_push_of_some _ e,xbB _ z t,⟨_,Heap.get?_push_size _ rfl,rfl,rfl⟩,fp,q⟩
 ·refine wpAny_pyIter_ascii ha ?_
  exact ⟨s1.heap.objs.size,[s1.heap.objs.size],_,_,H1,rfl,I1.kept (t':=s1.toks) fun b o e=>Heap.get?_push_of_some _ e,xbt _ z t,⟨_,Heap.get?_push_size _ rfl,rfl,rfl⟩,fp,q⟩
end
end L2
namespace L2
open PySem PySem.Spec PyProof.Rows
open Builtin.Str
section
variable {prog:Program} {w:World} {A:Around} {E:Value→Shared→Prop} {s:Shared}
structure ZApart (z TI TO i1 i2:Addr) (fp1 fp2:List Addr):Prop where
 TIz:TI≠z
 TOz:TO≠z
 i1z:i1≠z
 i2z:i2≠z
 TITO:TI≠TO
 TOi1:TO≠i1
 TOi2:TO≠i2
 i12:i1≠i2
 m1:i1∈fp1
 m2:i2∈fp2
 z1:∀ b∈fp1,b≠z∧b≠TO∧b≠i2
 z2:∀ b∈fp2,b≠z∧b≠TO∧b≠i1
theorem za2 {z TI TO i1 i2:Addr} {fp1 fp2:List Addr} {n1 n2 k:Nat} {P1 P2:Nat→Value→Prop} {St1 St2:Nat→Heap→Prop} {a b:Value} {Q:Value→Shared→Prop} (D:ZApart z TI TO i1 i2 fp1 fp2)
  (D1:Draws prog w A i1 fp1 n1 P1 St1) (D2:Draws prog w A i2 fp2 n2 P2 St2)
  (hz:IsZip s.heap z TI TO .none) (hTI:IsPair s.heap TI (.ref i1) (.ref i2)) (hTO:IsPair s.heap TO a b)
  (h1:St1 k s.heap) (h2:St2 k s.heap) (hk1:k < n1) (hk2:k < n2)
  (hQ:∀ x y h' tk,P1 k x→P2 k y→IsZip h' z TI TO (rawInt s.heap.objs.size)→IsPair h' TO x y→St1 (k + 1) h'→St2 (k + 1) h'→IsPair h' s.heap.objs.size x y→h'.objs.size=s.heap.objs.size + 1 →
   (∀ c o,c≠z→c≠TO→c≠i1→c≠i2→s.heap.get? c=some o→h'.get? c=some o)→Q (.ref s.heap.objs.size) { s with heap:=h',toks:=tk }) :
  wpAny (model prog w) A (Builtin.«zip.__next__» ⟨[.ref z],[]⟩) (fun fin s'=>∃ v,fin=.done (.ret v)∧Q v s') E s:=by
 show wpAny _ _ (field (.ref z) 2 >>= _) _ _ _
 refine wpAny_bind (wpAny_field hz rfl (x:=.bool false) rfl ?_)
 show wpAny _ _ (field (.ref z) 3 >>= _) _ _ _
 refine wpAny_bind (wpAny_field hz rfl (x:=.ref TI) rfl ?_)
 refine wpAny_bind (wpAny_seqItems hTI rfl ?_)
 show wpAny _ _ (Builtin.SmallTypes.ownedTupleIsFree (.ref z) >>= _) _ _ _
 refine wpAny_bind ?_
 unfold Builtin.SmallTypes.ownedTupleIsFree
 refine wpAny_bind (wpAny_field hz rfl (x:=.none) rfl (wpAny_pure ?_))
 simp only [if_true]
 refine wpAny_bind (wpAny_rule ?_)
 refine wpAny_bind (wpAny_field hz rfl (x:=.ref TO) rfl ?_)
 refine wpAny_bind (wpAny_setField_rec hz (by simp) fun h₁ hz₁ hs₁=>?_)
 replace hz₁:IsZip h₁ z TI TO .ellipsis:=hz₁
 refine wpAny_bind ?_
 simp only [List.zipIdx_cons,List.zipIdx_nil,List.forIn_cons,List.forIn_nil]
 refine wpAny_bind (wpAny_bind (wpAny_onRaise ?_))
 show wpAny _ _ (Builtin.SmallTypes.nextOf (.ref i1) >>= _) _ _ _
 refine wpAny_bind (D1.item k { s with heap:=h₁ } _ _ hk1 (D1.frame _ _ _ h1 fun c hc o e=>hs₁.extBut _ _ (D.z1 c hc).1 e) fun x h₂ tk₂ hx h1₂ hs₂=>wpAny_pure ?_)
 replace hs₂:Heap.SameBut i1 h₁ h₂:=hs₂
 have hTO₂:IsPair h₂ TO a b:=hs₂.extBut _ _ D.TOi1 (hs₁.extBut _ _ D.TOz hTO)
 refine wpAny_bind (wpAny_seqItems hTO₂ rfl ?_)
 refine wpAny_bind (wpAny_updateSeq_pair hTO₂ fun h₃ hTO₃ hs₃=>?_)
 replace hs₃:Heap.SameBut TO h₂ h₃:=hs₃
 replace hTO₃:IsPair h₃ TO x b:=hTO₃
 refine wpAny_bind (wpAny_letGo (wpAny_pure ?_))
 refine wpAny_bind (wpAny_bind (wpAny_onRaise ?_))
 show wpAny _ _ (Builtin.SmallTypes.nextOf (.ref i2) >>= _) _ _ _
 have h2₃:St2 k h₃:=D2.frame _ _ _ h2 fun c hc o e=>hs₃.extBut _ _ (D.z2 c hc).2.1 (hs₂.extBut _ _ (D.z2 c hc).2.2 (hs₁.extBut _ _ (D.z2 c hc).1 e))
 refine wpAny_bind (D2.item k { s with heap:=h₃,toks:=tk₂ } _ _ hk2 h2₃ fun y h₄ tk₄ hy h2₄ hs₄=>wpAny_pure ?_)
 replace hs₄:Heap.SameBut i2 h₃ h₄:=hs₄
 have hTO₄:IsPair h₄ TO x b:=hs₄.extBut _ _ D.TOi2 hTO₃
 refine wpAny_bind (wpAny_seqItems hTO₄ rfl ?_)
 refine wpAny_bind (wpAny_updateSeq_pair hTO₄ fun h₅ hTO₅ hs₅=>?_)
 replace hs₅:Heap.SameBut TO h₄ h₅:=hs₅
 replace hTO₅:IsPair h₅ TO x y:=hTO₅
 refine wpAny_bind (wpAny_letGo (wpAny_pure (wpAny_pure ?_)))
 refine wpAny_bind (wpAny_seqItems hTO₅ rfl ?_)
 refine wpAny_bind (wpAny_newTuple ?_)
 have hsz:h₅.objs.size=s.heap.objs.size:=by rw [hs₅.1,hs₄.1,hs₃.1,hs₂.1,hs₁.1]
 have hz₅:IsZip h₅ z TI TO .ellipsis:=hs₅.extBut _ _ D.TOz.symm (hs₄.extBut _ _ D.i2z.symm (hs₃.extBut _ _ D.TOz.symm (hs₂.extBut _ _ D.i1z.symm hz₁)))
 have hk₅:∀ c o,c≠z→c≠TO→c≠i1→c≠i2→s.heap.get? c=some o→h₅.get? c=some o:=fun c o c1 c2 c3 c4 e =>
  hs₅.extBut _ _ c2 (hs₄.extBut _ _ c4 (hs₃.extBut _ _ c2 (hs₂.extBut _ _ c3 (hs₁.extBut _ _ c1 e))))
 have h1₅:St1 (k + 1) h₅:=D1.frame _ _ _ h1₂ fun c hc o e=>hs₅.extBut _ _ (D.z1 c hc).2.1 (hs₄.extBut _ _ (D.z1 c hc).2.2 (hs₃.extBut _ _ (D.z1 c hc).2.1 e))
 have h2₅:St2 (k + 1) h₅:=D2.frame _ _ _ h2₄ fun c hc o e=>hs₅.extBut _ _ (D.z2 c hc).2.1 e
 have hzlt:z < h₅.objs.size:=Heap.lt_size hz₅
 show wpAny _ _ (Builtin.SmallTypes.ownedTupleHandOut (.ref z) (.ref h₅.objs.size) >>= _) _ _ _
 refine wpAny_bind ?_
 unfold Builtin.SmallTypes.ownedTupleHandOut
 have hz₆:IsZip (h₅.push { cls:=.type "tuple",data:=.seq #[x,y] }) z TI TO .ellipsis:=Heap.get?_push_of_some _ hz₅
 refine wpAny_bind (wpAny_setField_rec hz₆ (by simp) fun h₇ hz₇ hs₇=>?_)
 replace hz₇:IsZip h₇ z TI TO (rawInt h₅.objs.size):=hz₇
 refine wpAny_setField_rec hz₇ (by simp) fun h₈ hz₈ hs₈=>?_
 replace hz₈:IsZip h₈ z TI TO (rawInt h₅.objs.size):=hz₈
 replace hs₇:Heap.SameBut z (h₅.push { cls:=.type "tuple",data:=.seq #[x,y] }) h₇:=hs₇
 replace hs₈:Heap.SameBut z h₇ h₈:=hs₈
 have up:∀ c o,c≠z→h₅.get? c=some o→h₈.get? c=some o:=fun c o c1 e=>hs₈.extBut _ _ c1 (hs₇.extBut _ _ c1 (Heap.get?_push_of_some _ e))
 have hT₈:IsPair h₈ h₅.objs.size x y:=hs₈.extBut _ _ (Nat.ne_of_gt hzlt) (hs₇.extBut _ _ (Nat.ne_of_gt hzlt) (Heap.get?_push_size _ rfl))
 have hz8:h₈.objs.size=h₅.objs.size + 1:=by rw [hs₈.1,hs₇.1,Heap.size_push]
 rw [hsz] at hz₈ hT₈ hz8
 refine wpAny_pure ⟨_,rfl,?_⟩
 show Q (.ref h₅.objs.size) _
 rw [hsz]
 exact hQ x y h₈ tk₄ hx hy hz₈ (up _ _ D.TOz hTO₅) (D1.frame _ _ _ h1₅ fun c hc o e=>up _ o (D.z1 c hc).1 e) (D2.frame _ _ _ h2₅ fun c hc o e=>up _ o (D.z2 c hc).1 e) hT₈ hz8 fun c o c1 c2 c3 c4 e=>up c o c1 (hk₅ c o c1 c2 c3 c4 e)
theorem za8 {z TI TO i1 i2:Addr} {fp1 fp2:List Addr} {n1 n2 k:Nat} {P1 P2:Nat→Value→Prop} {St1 St2:Nat→Heap→Prop} {a b:Value} {Q:Fin→Shared→Prop} (D:ZApart z TI TO i1 i2 fp1 fp2)
  (D1:Draws prog w A i1 fp1 n1 P1 St1) (D2:Draws prog w A i2 fp2 n2 P2 St2)
  (hz:IsZip s.heap z TI TO .none) (hTI:IsPair s.heap TI (.ref i1) (.ref i2)) (hTO:IsPair s.heap TO a b)
  (h1:St1 k s.heap) (h2:St2 k s.heap) (hend:k=n1∨(k < n1∧k=n2))
  (hE:∀ h' tk e,(∀ c o,c≠z→c≠TO→c≠i1→c≠i2→s.heap.get? c=some o→h'.get? c=some o)→(∃ o,h'.get? e=some o∧o.cls=.type "StopIteration")→E (.ref e) { s with heap:=h',toks:=tk }) :
  wpAny (model prog w) A (Builtin.«zip.__next__» ⟨[.ref z],[]⟩) Q E s:=by
 show wpAny _ _ (field (.ref z) 2 >>= _) _ _ _
 refine wpAny_bind (wpAny_field hz rfl (x:=.bool false) rfl ?_)
 show wpAny _ _ (field (.ref z) 3 >>= _) _ _ _
 refine wpAny_bind (wpAny_field hz rfl (x:=.ref TI) rfl ?_)
 refine wpAny_bind (wpAny_seqItems hTI rfl ?_)
 show wpAny _ _ (Builtin.SmallTypes.ownedTupleIsFree (.ref z) >>= _) _ _ _
 refine wpAny_bind ?_
 unfold Builtin.SmallTypes.ownedTupleIsFree
 refine wpAny_bind (wpAny_field hz rfl (x:=.none) rfl (wpAny_pure ?_))
 simp only [if_true]
 refine wpAny_bind (wpAny_rule ?_)
 refine wpAny_bind (wpAny_field hz rfl (x:=.ref TO) rfl ?_)
 refine wpAny_bind (wpAny_setField_rec hz (by simp) fun h₁ hz₁ hs₁=>?_)
 replace hz₁:IsZip h₁ z TI TO .ellipsis:=hz₁
 refine wpAny_bind ?_
 simp only [List.zipIdx_cons,List.zipIdx_nil,List.forIn_cons,List.forIn_nil]
 refine wpAny_bind (wpAny_bind (wpAny_onRaise ?_))
 show wpAny _ _ (Builtin.SmallTypes.nextOf (.ref i1) >>= _) _ _ _
 have h1₁:St1 k h₁:=D1.frame _ _ _ h1 fun c hc o e=>hs₁.extBut _ _ (D.z1 c hc).1 e
 rcases hend with rfl | ⟨hk1,rfl⟩
 ·refine wpAny_bind (D1.done { s with heap:=h₁ } _ _ h1₁ fun h₂ e hs₂ he=>?_)
  obtain ⟨oe,hoe,hce⟩:=he
  replace hs₂:Heap.ExtBut i1 h₁ h₂:=hs₂
  have hz₂:IsZip h₂ z TI TO .ellipsis:=hs₂ _ _ D.i1z.symm hz₁
  have hez:e≠z:=fun x=>by subst x;rw [hz₂] at hoe;cases hoe;simp at hce
  refine wpAny_setField_rec hz₂ (by simp) fun h₃ _ hs₃=>hE h₃ s.toks e (fun c o c1 _ c3 _ x=>hs₃.extBut _ _ c1 (hs₂ _ _ c3 (hs₁.extBut _ _ c1 x))) ⟨oe,hs₃.extBut _ _ hez hoe,hce⟩
 ·refine wpAny_bind (D1.item k { s with heap:=h₁ } _ _ hk1 h1₁ fun x h₂ tk₂ hx h1₂ hs₂=>wpAny_pure ?_)
  replace hs₂:Heap.SameBut i1 h₁ h₂:=hs₂
  have hTO₂:IsPair h₂ TO a b:=hs₂.extBut _ _ D.TOi1 (hs₁.extBut _ _ D.TOz hTO)
  refine wpAny_bind (wpAny_seqItems hTO₂ rfl ?_)
  refine wpAny_bind (wpAny_updateSeq_pair hTO₂ fun h₃ hTO₃ hs₃=>?_)
  replace hs₃:Heap.SameBut TO h₂ h₃:=hs₃
  refine wpAny_bind (wpAny_letGo (wpAny_pure ?_))
  refine wpAny_bind (wpAny_bind (wpAny_onRaise ?_))
  show wpAny _ _ (Builtin.SmallTypes.nextOf (.ref i2) >>= _) _ _ _
  have h2₃:St2 k h₃:=D2.frame _ _ _ h2 fun c hc o e=>hs₃.extBut _ _ (D.z2 c hc).2.1 (hs₂.extBut _ _ (D.z2 c hc).2.2 (hs₁.extBut _ _ (D.z2 c hc).1 e))
  refine wpAny_bind (D2.done { s with heap:=h₃,toks:=tk₂ } _ _ h2₃ fun h₄ e hs₄ he=>?_)
  obtain ⟨oe,hoe,hce⟩:=he
  replace hs₄:Heap.ExtBut i2 h₃ h₄:=hs₄
  have hz₄:IsZip h₄ z TI TO .ellipsis:=hs₄ _ _ D.i2z.symm (hs₃.extBut _ _ D.TOz.symm (hs₂.extBut _ _ D.i1z.symm hz₁))
  have hez:e≠z:=fun x=>by subst x;rw [hz₄] at hoe;cases hoe;simp at hce
  refine wpAny_setField_rec hz₄ (by simp) fun h₅ _ hs₅=>hE h₅ tk₂ e (fun c o c1 c2 c3 c4 x=>hs₅.extBut _ _ c1 (hs₄ _ _ c4 (hs₃.extBut _ _ c2 (hs₂.extBut _ _ c3 (hs₁.extBut _ _ c1 x))))) ⟨oe,hs₅.extBut _ _ hez hoe,hce⟩
theorem xaK {z TI TO i1 i2:Addr} {fp1 fp2:List Addr} {n1 n2 k:Nat} {P1 P2:Nat→Value→Prop} {St1 St2:Nat→Heap→Prop} {a b:Value} {Q:Option Value→Shared→Prop} (D:ZApart z TI TO i1 i2 fp1 fp2)
  (D1:Draws prog w A.in1 i1 fp1 n1 P1 St1) (D2:Draws prog w A.in1 i2 fp2 n2 P2 St2)
  (hz:IsZip s.heap z TI TO .none) (hTI:IsPair s.heap TI (.ref i1) (.ref i2)) (hTO:IsPair s.heap TO a b)
  (h1:St1 k s.heap) (h2:St2 k s.heap) (hk1:k < n1) (hk2:k < n2)
  (hQ:∀ x y h' tk,P1 k x→P2 k y→IsZip h' z TI TO (rawInt s.heap.objs.size)→IsPair h' TO x y→St1 (k + 1) h'→St2 (k + 1) h'→IsPair h' s.heap.objs.size x y→h'.objs.size=s.heap.objs.size + 1 →
   (∀ c o,c≠z→c≠TO→c≠i1→c≠i2→s.heap.get? c=some o→h'.get? c=some o)→Q (some (.ref s.heap.objs.size)) { s with heap:=h',toks:=tk }) :
  wpAny (model prog w) A (pyNext (.ref z)) Q E s:=by
 have hT:s.TypeIs (.ref z) "zip" := ⟨_,hz,rfl⟩
 unfold pyNext
 exact wpAny_bind (wpAny_attempt (wpAny_callSpecial?_slot (name:=Str.ofString "__next__") hT F.slot_zip_next
  (wpAny_call_entry F.slot_zip_next hT F.entry_zip_next
   (za2 D D1 D2 hz hTI hTO h1 h2 hk1 hk2 fun x y h' tk p1 p2 a1 a2 a3 a4 a5 a6 a7=>wpAny_pure (hQ x y h' tk p1 p2 a1 a2 a3 a4 a5 a6 a7)) (F.args_zip_next_1 _))))
theorem Xap {z TI TO i1 i2:Addr} {fp1 fp2:List Addr} {n1 n2 k:Nat} {P1 P2:Nat→Value→Prop} {St1 St2:Nat→Heap→Prop} {a b:Value} {Q:Option Value→Shared→Prop} (D:ZApart z TI TO i1 i2 fp1 fp2)
  (D1:Draws prog w A.in1 i1 fp1 n1 P1 St1) (D2:Draws prog w A.in1 i2 fp2 n2 P2 St2)
  (hz:IsZip s.heap z TI TO .none) (hTI:IsPair s.heap TI (.ref i1) (.ref i2)) (hTO:IsPair s.heap TO a b)
  (h1:St1 k s.heap) (h2:St2 k s.heap) (hend:k=n1∨(k < n1∧k=n2))
  (hQ:∀ h' tk,(∀ c o,c≠z→c≠TO→c≠i1→c≠i2→s.heap.get? c=some o→h'.get? c=some o)→Q none { s with heap:=h',toks:=tk }):wpAny (model prog w) A (pyNext (.ref z)) Q E s:=by
 have hT:s.TypeIs (.ref z) "zip" := ⟨_,hz,rfl⟩
 unfold pyNext
 refine wpAny_bind (wpAny_attempt (wpAny_callSpecial?_slot (name:=Str.ofString "__next__") hT F.slot_zip_next
  (wpAny_call_entry F.slot_zip_next hT F.entry_zip_next (za8 D D1 D2 hz hTI hTO h1 h2 hend fun h' tk e hk he=>?_) (F.args_zip_next_1 _))))
 obtain ⟨o,ho,hc⟩:=he
 refine wpAny_bind (wpAny_isInstance (T:="StopIteration") (b:=true) ⟨o,ho,hc⟩ isSubtype_stop ?_)
 exact wpAny_pure (hQ _ _ hk)
end
set_option genInjectivity false in
inductive ZS where
 | tup (a:Addr) | lst (a:Addr) | str (x:Str)
noncomputable def ZS.it (j:Addr) (i:Nat) (h:Heap):ZS→Prop
 | .tup a=>h.IsTupleIter j a i
 | .lst a=>h.IsListIter j a i
 | .str x=>∃ t,h.IsStrIter j "str_ascii_iterator" x t i∨h.IsStrIter j "str_iterator" x t i
noncomputable def ZS.has (K:PySem.W.Frag) (H:Hp) (i:Nat) (v:V):ZS→Prop
 | .tup a=>∃ xs,SqT K H a xs∧xs[i]?=some v
 | .lst a=>∃ xs,SqL K H a xs∧xs[i]?=some v
 | .str x=>∃ c,x.cps[i]?=some c∧v=.str ⟨#[c]⟩
noncomputable def ZS.fin (K:PySem.W.Frag) (H:Hp) (i:Nat):ZS→Prop
 | .tup a=>∃ xs,SqT K H a xs∧xs.length=i
 | .lst a=>∃ xs,SqL K H a xs∧xs.length=i
 | .str x=>x.cps.size=i
theorem ZS.it.at {j:Addr} {i:Nat} {h h':Heap} {src:ZS} (t:src.it j i h) (k:∀ o,h.get? j=some o→h'.get? j=some o):src.it j i h':=by
 cases src with
 | tup a=>exact Heap.IsTupleIter.at t k
 | lst a=>exact Heap.IsListIter.at t k
 | str x =>
  obtain ⟨tk,t⟩:=t
  refine ⟨tk,?_⟩
  rcases t with ⟨o,ho,r⟩ | ⟨o,ho,r⟩
  ·exact .inl ⟨o,k o ho,r⟩
  ·exact .inr ⟨o,k o ho,r⟩
theorem ZS.it.obj {j:Addr} {i:Nat} {h:Heap} {src:ZS} (t:src.it j i h):∃ o,h.get? j=some o∧(∀ v,o.data≠.cell v)∧(∃ n,o.cls=.type n∧n≠"tuple" ∧ n≠"list" ∧ n≠"zip"):=by
 cases src with
 | tup a=>obtain ⟨o,e,c,d⟩:=t;exact ⟨o,e,(fun v z=>by rw [d] at z;cases z),_,c,by decide,by decide,by decide⟩
 | lst a=>obtain ⟨o,e,c,d⟩:=t;exact ⟨o,e,(fun v z=>by rw [d] at z;cases z),_,c,by decide,by decide,by decide⟩
 | str x =>
  obtain ⟨tk,t⟩:=t
  rcases t with ⟨o,e,c,d⟩ | ⟨o,e,c,d⟩
  ·exact ⟨o,e,(fun v z=>by rw [d] at z;cases z),_,c,by decide,by decide,by decide⟩
  ·exact ⟨o,e,(fun v z=>by rw [d] at z;cases z),_,c,by decide,by decide,by decide⟩
structure ZS.Dr (P:Program) (w:World) (A:Around) (s:Shared) (j:Addr) (i:Nat) (src:ZS) (fp:List Addr) (n:Nat) (R:Value→Prop):Prop where
 ex:∃ (Pv:Nat→Value→Prop) (St:Nat→Heap→Prop),Draws P w A j fp n Pv St∧St i s.heap∧(∀ u,Pv i u→R u)∧∀ h,St (i + 1) h→src.it j (i + 1) h
 mem:j∈fp
section
variable {X:Cx} {pins:List (Addr×Obj)} {σ:St} {H:Hp} {s:Shared}
theorem Inv.sqT_ne {a b:Addr} {xs:List V} (I:Inv X pins σ H s) (h:SqT X.K H a xs) (f:FpOk X pins H b):a≠b:=by
 intro z
 subst z
 rcases h with (h | ⟨o,h⟩) | ⟨o,its,n,hk,_⟩
 ·rw [f.1] at h;cases h
 ·rw [f.1] at h;cases h
 ·have hb:=I.ok.mod.kin a o hk
  rcases f.2.2.2.1 with he | he
  ·exact I.ok.noex a o hb he
  ·have:=Heap.lt_size hb
   have:=I.ok.bsz
   exact absurd (Nat.lt_of_lt_of_le (Nat.lt_of_lt_of_le ‹a < X.base.objs.size› this) he) (Nat.lt_irrefl _)
theorem Inv.sqL_ne {a b:Addr} {xs:List V} (I:Inv X pins σ H s) (h:SqL X.K H a xs) (f:FpOk X pins H b):a≠b:=by
 intro z
 subst z
 rcases h with (h | ⟨o,h⟩) | ⟨o,its,n,hk,_⟩
 ·rw [f.1] at h;cases h
 ·rw [f.1] at h;cases h
 ·have hb:=I.ok.mod.kin a o hk
  rcases f.2.2.2.1 with he | he
  ·exact I.ok.noex a o hb he
  ·have:=Heap.lt_size hb
   have:=I.ok.bsz
   exact absurd (Nat.lt_of_lt_of_le (Nat.lt_of_lt_of_le ‹a < X.base.objs.size› this) he) (Nat.lt_irrefl _)
theorem ZS.drawn {j:Addr} {i:Nat} {src:ZS} {v:V} (I:Inv X pins σ H s) (hc:X.calm=true) (t:src.it j i s.heap) (fj:FpOk X pins H j) (h:src.has X.K H i v):∃ fp n,i < n∧ZS.Dr X.prog X.w X.A.in1 s j i src fp n (RelV v)∧∀ b,FpOk X pins H b→b≠j→b ∉ fp:=by
 cases src with
 | tup a =>
  obtain ⟨xs,hq,hx⟩:=h
  obtain ⟨its,rv,p,hz⟩:=I.tuple hq
  obtain ⟨u,hu,ru⟩:=rv.get hx
  have ht:s.heap.IsTuple a its.toArray:=p
  have hi:i < its.toArray.size:=by
   obtain ⟨q,_⟩:=List.getElem?_eq_some_iff.mp hu
   simpa using q
  refine ⟨[j,a],its.toArray.size,hi,⟨⟨_,_,drawsT (A:=X.A.in1) (I.ok.hd hc) j a (I.sqT_ne hq fj) its.toArray,⟨t,ht⟩,fun u' h'=>?_,fun h hst=>hst.1⟩,by simp⟩,fun b fb hb=>?_⟩
  ·have:its.toArray[i]?=some u:=by simpa using hu
   rw [this] at h'
   cases h'
   exact ru
  ·have:=I.sqT_ne hq fb
   simp only [List.mem_cons,List.not_mem_nil,or_false,not_or]
   exact ⟨hb,fun z=>this z.symm⟩
 | lst a =>
  obtain ⟨xs,hq,hx⟩:=h
  obtain ⟨its,rv,p,hz⟩:=I.list hq
  obtain ⟨u,hu,ru⟩:=rv.get hx
  have ht:s.heap.IsList a its.toArray:=p.isList
  have hi:i < its.toArray.size:=by
   obtain ⟨q,_⟩:=List.getElem?_eq_some_iff.mp hu
   simpa using q
  refine ⟨[j,a],its.toArray.size,hi,⟨⟨_,_,Draws.list (A:=X.A.in1) (I.ok.hd hc) j a (I.sqL_ne hq fj) its.toArray,⟨t,ht⟩,fun u' h'=>?_,fun h hst=>hst.1⟩,by simp⟩,fun b fb hb=>?_⟩
  ·have:its.toArray[i]?=some u:=by simpa using hu
   rw [this] at h'
   cases h'
   exact ru
  ·have:=I.sqL_ne hq fb
   simp only [List.mem_cons,List.not_mem_nil,or_false,not_or]
   exact ⟨hb,fun z=>this z.symm⟩
 | str x =>
  obtain ⟨c,hx,rfl⟩:=h
  have hi:i < x.cps.size:=(Array.getElem?_eq_some_iff.mp hx).1
  obtain ⟨tk,t⟩:=t
  have hR:∀ u,SignAt x i u→RelV (.str ⟨#[c]⟩) u:=fun u hu=>by
   obtain ⟨c',u',h1,rfl⟩:=hu
   rw [hx] at h1
   cases h1
   exact ⟨_,rfl⟩
  rcases t with t | t
  ·exact ⟨[j],x.cps.size,hi,⟨⟨_,_,Draws.strAscii (A:=X.A.in1) (I.ok.hd hc) j x tk,t,hR,fun h hst=>⟨tk,.inl hst⟩⟩,by simp⟩,fun b fb hb=>by simpa using hb⟩
  ·exact ⟨[j],x.cps.size,hi,⟨⟨_,_,Draws.strWide (A:=X.A.in1) (I.ok.hd hc) j x tk,t,hR,fun h hst=>⟨tk,.inr hst⟩⟩,by simp⟩,fun b fb hb=>by simpa using hb⟩
theorem ZS.ended {j:Addr} {i:Nat} {src:ZS} (I:Inv X pins σ H s) (hc:X.calm=true) (t:src.it j i s.heap) (fj:FpOk X pins H j) (h:src.fin X.K H i):∃ fp,ZS.Dr X.prog X.w X.A.in1 s j i src fp i (fun _=>True)∧∀ b,FpOk X pins H b→b≠j→b ∉ fp:=by
 cases src with
 | tup a =>
  obtain ⟨xs,hq,hx⟩:=h
  obtain ⟨its,rv,p,hz⟩:=I.tuple hq
  have ht:s.heap.IsTuple a its.toArray:=p
  have hl:=rv.length
  have ei:its.toArray.size=i:=by simp;omega
  subst ei
  refine ⟨[j,a],⟨⟨_,_,drawsT (A:=X.A.in1) (I.ok.hd hc) j a (I.sqT_ne hq fj) its.toArray,⟨t,ht⟩,fun _ _=>trivial,fun h hst=>hst.1⟩,by simp⟩,fun b fb hb=>?_⟩
  have:=I.sqT_ne hq fb
  simp only [List.mem_cons,List.not_mem_nil,or_false,not_or]
  exact ⟨hb,fun z=>this z.symm⟩
 | lst a =>
  obtain ⟨xs,hq,hx⟩:=h
  obtain ⟨its,rv,p,hz⟩:=I.list hq
  have ht:s.heap.IsList a its.toArray:=p.isList
  have hl:=rv.length
  have ei:its.toArray.size=i:=by simp;omega
  subst ei
  refine ⟨[j,a],⟨⟨_,_,Draws.list (A:=X.A.in1) (I.ok.hd hc) j a (I.sqL_ne hq fj) its.toArray,⟨t,ht⟩,fun _ _=>trivial,fun h hst=>hst.1⟩,by simp⟩,fun b fb hb=>?_⟩
  have:=I.sqL_ne hq fb
  simp only [List.mem_cons,List.not_mem_nil,or_false,not_or]
  exact ⟨hb,fun z=>this z.symm⟩
 | str x =>
  have h:x.cps.size=i:=h
  subst h
  obtain ⟨tk,t⟩:=t
  rcases t with t | t
  ·exact ⟨[j],⟨⟨_,_,Draws.strAscii (A:=X.A.in1) (I.ok.hd hc) j x tk,t,fun _ _=>trivial,fun h hst=>⟨tk,.inl hst⟩⟩,by simp⟩,fun b fb hb=>by simpa using hb⟩
  ·exact ⟨[j],⟨⟨_,_,Draws.strWide (A:=X.A.in1) (I.ok.hd hc) j x tk,t,fun _ _=>trivial,fun h hst=>⟨tk,.inr hst⟩⟩,by simp⟩,fun b fb hb=>by simpa using hb⟩
end
noncomputable def Itz (K:PySem.W.Frag) (s1 s2:ZS):It :=
 ⟨fun i H=>∃ x y,s1.has K H i x∧s2.has K H i y,fun i H v H'=>∃ p x y,v=.ref p∧H p=none∧H'=upd H p (.tup [x,y])∧(∀ z,s1.has K H i z→z=x)∧∀ z,s2.has K H i z→z=y,fun i H=>(s1.fin K H i∧(s2.fin K H i∨∃ y,s2.has K H i y))∨((∃ x,s1.has K H i x)∧s2.fin K H i)⟩
theorem ZS.has_inj {X:Cx} {pins:List (Addr×Obj)} {σ:St} {H:Hp} {s:Shared} {src:ZS} {i:Nat} {x y:V} (I:Inv X pins σ H s) (a:src.has X.K H i x) (b:src.has X.K H i y):y=x:=by
 cases src with
 | tup p =>
  obtain ⟨xs,h1,e1⟩:=a
  obtain ⟨ys,h2,e2⟩:=b
  rw [I.tuple_inj h2 h1] at e2
  rw [e1] at e2
  exact (Option.some.inj e2).symm
 | lst p =>
  obtain ⟨xs,h1,e1⟩:=a
  obtain ⟨ys,h2,e2⟩:=b
  rw [I.list_inj h2 h1] at e2
  rw [e1] at e2
  exact (Option.some.inj e2).symm
 | str z =>
  obtain ⟨c,h1,rfl⟩:=a
  obtain ⟨d,h2,rfl⟩:=b
  rw [h1] at h2
  cases h2
  rfl
theorem XbN {P:Program} {w:World} {K:PySem.W.Frag} {es:List Expr} {x1} {pos:Pos} (s1 s2:ZS) (z TI TO i1 i2:Addr) (hd:TI≠z∧TO≠z∧i1≠z∧i2≠z∧TI≠TO∧TO≠i1∧TO≠i2∧i1≠i2∧TI≠i1∧TI≠i2) :
  Turn P w K (.Tuple es x1 pos) (Itz K s1 s2) [z,TI,TO,i1,i2] z (fun i h=>IsZip h z TI TO .none∧IsPair h TI (.ref i1) (.ref i2)∧(∃ a b,IsPair h TO a b)∧s1.it i1 i h∧s2.it i2 i h) where
 mem:=by simp
 obj:=fun i h st b hb=>by
  obtain ⟨hz,hTI,⟨a,c,hTO⟩,h1,h2⟩:=st
  have cl:∀ {o:Obj} {vs:Array Value},o.data=.fields vs→∀ v,o.data≠.cell v:=fun d v z=>by rw [d] at z;cases z
  have cs:∀ {o:Obj} {vs:Array Value} {n:Nat},o.data=.seq vs n→∀ v,o.data≠.cell v:=fun d v z=>by rw [d] at z;cases z
  simp only [List.mem_cons,List.not_mem_nil,or_false] at hb
  rcases hb with rfl | rfl | rfl | rfl | rfl
  ·exact ⟨_,hz,cl rfl⟩
  ·exact ⟨_,hTI,cs rfl⟩
  ·exact ⟨_,hTO,cs rfl⟩
  ·obtain ⟨o,e,n,_⟩:=h1.obj;exact ⟨o,e,n⟩
  ·obtain ⟨o,e,n,_⟩:=h2.obj;exact ⟨o,e,n⟩
 keep:=fun i h h' st k=>⟨k z (by simp) _ st.1,k TI (by simp) _ st.2.1,let ⟨a,b,e⟩:=st.2.2.1;⟨a,b,k TO (by simp) _ e⟩,st.2.2.2.1.at fun o q=>k i1 (by simp) o q,st.2.2.2.2.at fun o q=>k i2 (by simp) o q⟩
 item:=by
  intro X hP hw hK hc i pins s σ H E I hf st hg
  subst hP hw hK
  obtain ⟨x,y,hx,hy⟩:=hg
  obtain ⟨hz,hTI,⟨a,b,hTO⟩,h1,h2⟩:=st
  have fz:=hf z (by simp)
  have fTO:=hf TO (by simp)
  have f1:=hf i1 (by simp)
  have f2:=hf i2 (by simp)
  obtain ⟨fp1,n1,k1,⟨⟨P1,S1,D1,st1,r1,nx1⟩,mm1⟩,out1⟩:=ZS.drawn I hc h1 f1 hx
  obtain ⟨fp2,n2,k2,⟨⟨P2,S2,D2,st2,r2,nx2⟩,mm2⟩,out2⟩:=ZS.drawn I hc h2 f2 hy
  obtain ⟨d1,d2,d3,d4,d5,d6,d7,d8,d9,d10⟩:=hd
  have ap:ZApart z TI TO i1 i2 fp1 fp2:=⟨d1,d2,d3,d4,d5,d6,d7,d8,mm1,mm2,
   fun c hcm=>⟨fun e=>out1 z fz (Ne.symm d3) (e ▸ hcm),fun e=>out1 TO fTO d6 (e ▸ hcm),fun e=>out1 i2 f2 (Ne.symm d8) (e ▸ hcm)⟩,
   fun c hcm=>⟨fun e=>out2 z fz (Ne.symm d4) (e ▸ hcm),fun e=>out2 TO fTO d7 (e ▸ hcm),fun e=>out2 i1 f1 d8 (e ▸ hcm)⟩⟩
  refine xaK ap D1 D2 hz hTI hTO st1 st2 k1 k2 fun u v h1' tk p1 p2 hz' hTO' g1 g2 hT hsz kk=>?_
  refine ⟨_,rfl,wpAny_letOwnedTupleGo_zip hz' fun h2' hz2 sb=>?_⟩
  replace sb:Heap.SameBut z h1' h2':=sb
  have hf0:H s.heap.objs.size=none:=I.hok.fresh (Nat.le_refl _)
  have ru:=r1 u p1
  have rv:=r2 v p2
  have I1:Inv X pins σ (upd H s.heap.objs.size (.tup [x,y])) { s with heap:=s.heap.push { cls:=.type "tuple",data:=.seq #[u,v] },toks:=s.toks } :=
   I.laid (fun b u e=>Heap.get?_push_of_some _ e) (Nat.le_refl _) ⟨(by decide:2≤sizeLine),[u,v],.cons ru (.cons rv .nil),⟨_,Heap.get?_push_size _ rfl,rfl,rfl,_,rfl⟩⟩
  have hlt:∀ c∈[z,TI,TO,i1,i2],@LT.lt Nat _ c s.heap.objs.size:=fun c hcm=>by
   simp only [List.mem_cons,List.not_mem_nil,or_false] at hcm
   rcases hcm with rfl | rfl | rfl | rfl | rfl
   ·exact Heap.lt_size hz
   ·exact Heap.lt_size hTI
   ·exact Heap.lt_size hTO
   ·obtain ⟨o,e,_⟩:=h1.obj;exact Heap.lt_size e
   ·obtain ⟨o,e,_⟩:=h2.obj;exact Heap.lt_size e
  have hn:∀ c∈[z,TI,TO,i1,i2],upd H s.heap.objs.size (.tup [x,y]) c=none:=fun c hcm=>by
   unfold upd
   rw [if_neg (Nat.ne_of_lt (hlt c hcm))]
   exact (hf c hcm).1
  have I2:Inv X pins σ (upd H s.heap.objs.size (.tup [x,y])) { s with heap:=h2',toks:=tk }:=by
   refine Inv.turnedL (s:={ s with heap:=s.heap.push { cls:=.type "tuple",data:=.seq #[u,v] },toks:=s.toks }) (h':=h2') I1 (ch:=[z,TI,TO,i1,i2]) (t':=tk) (fun c o hcm q=>?_) fun c hcm=>⟨hn c hcm,(hf c hcm).2⟩
   simp only [List.mem_cons,List.not_mem_nil,or_false,not_or] at hcm
   obtain ⟨n1',n2',n3',n4',n5'⟩:=hcm
   refine (sb.2 c n1').trans ?_
   rcases Heap.get?_push_cases q with ⟨rfl,rfl⟩ | q
   ·exact hT
   ·exact kk c o n1' n3' n4' n5' q
  have up:∀ c o,c≠z→h1'.get? c=some o→h2'.get? c=some o:=fun c o n e=>(sb.2 c n).trans e
  refine ⟨.ref s.heap.objs.size,_,I2,rfl,⟨_,x,y,rfl,hf0,rfl,fun w hw=>ZS.has_inj I hx hw,fun w hw=>ZS.has_inj I hy hw⟩,⟨hz2,?_,⟨u,v,up _ _ d2 hTO'⟩,(nx1 _ g1).at fun o q=>up _ o d3 q,(nx2 _ g2).at fun o q=>up _ o d4 q⟩,hn⟩
  exact up _ _ d1 (kk _ _ d1 d5 d9 d10 hTI)
 done:=by
  intro X hP hw hK hc i pins s σ H E I hf st hg
  subst hP hw hK
  obtain ⟨hz,hTI,⟨a,b,hTO⟩,h1,h2⟩:=st
  have fz:=hf z (by simp)
  have fTO:=hf TO (by simp)
  have f1:=hf i1 (by simp)
  have f2:=hf i2 (by simp)
  obtain ⟨d1,d2,d3,d4,d5,d6,d7,d8,d9,d10⟩:=hd
  have fin:∀ h' tk,(∀ c o,c≠z→c≠TO→c≠i1→c≠i2→s.heap.get? c=some o→h'.get? c=some o)→Inv X pins σ H { s with heap:=h',toks:=tk }:=fun h' tk kk=>by
   refine Inv.turnedL I (ch:=[z,TO,i1,i2]) (t':=tk) (fun c o hcm q=>?_) fun c hcm=>hf c ?_
   ·simp only [List.mem_cons,List.not_mem_nil,or_false,not_or] at hcm
    exact kk c o hcm.1 hcm.2.1 hcm.2.2.1 hcm.2.2.2 q
   ·simp only [List.mem_cons,List.not_mem_nil,or_false] at hcm ⊢
    rcases hcm with rfl | rfl | rfl | rfl <;> simp
  have mkap:∀ {fp1 fp2:List Addr},i1∈fp1→i2∈fp2→(∀ b,FpOk X pins H b→b≠i1→b ∉ fp1)→(∀ b,FpOk X pins H b→b≠i2→b ∉ fp2)→ZApart z TI TO i1 i2 fp1 fp2:=fun mm1 mm2 out1 out2=>⟨d1,d2,d3,d4,d5,d6,d7,d8,mm1,mm2,
   fun c hcm=>⟨fun e=>out1 z fz (Ne.symm d3) (e ▸ hcm),fun e=>out1 TO fTO d6 (e ▸ hcm),fun e=>out1 i2 f2 (Ne.symm d8) (e ▸ hcm)⟩,
   fun c hcm=>⟨fun e=>out2 z fz (Ne.symm d4) (e ▸ hcm),fun e=>out2 TO fTO d7 (e ▸ hcm),fun e=>out2 i1 f1 d8 (e ▸ hcm)⟩⟩
  rcases hg with ⟨hx,hy⟩ | ⟨⟨x,hx⟩,hy⟩
  ·obtain ⟨fp1,⟨⟨P1,S1,D1,st1,_,_⟩,mm1⟩,out1⟩:=ZS.ended I hc h1 f1 hx
   rcases hy with hy | ⟨y,hy⟩
   ·obtain ⟨fp2,⟨⟨P2,S2,D2,st2,_,_⟩,mm2⟩,out2⟩:=ZS.ended I hc h2 f2 hy
    exact Xap (mkap mm1 mm2 out1 out2) D1 D2 hz hTI hTO st1 st2 (.inl rfl) fun h' tk kk=>⟨rfl,fin h' tk kk⟩
   ·obtain ⟨fp2,n2,k2,⟨⟨P2,S2,D2,st2,_,_⟩,mm2⟩,out2⟩:=ZS.drawn I hc h2 f2 hy
    exact Xap (mkap mm1 mm2 out1 out2) D1 D2 hz hTI hTO st1 st2 (.inl rfl) fun h' tk kk=>⟨rfl,fin h' tk kk⟩
  ·obtain ⟨fp1,n1,k1,⟨⟨P1,S1,D1,st1,_,_⟩,mm1⟩,out1⟩:=ZS.drawn I hc h1 f1 hx
   obtain ⟨fp2,⟨⟨P2,S2,D2,st2,_,_⟩,mm2⟩,out2⟩:=ZS.ended I hc h2 f2 hy
   exact Xap (mkap mm1 mm2 out1 out2) D1 D2 hz hTI hTO st1 st2 (.inr ⟨k1,rfl⟩) fun h' tk kk=>⟨rfl,fin h' tk kk⟩
 self:=fun _ _ _ _ _ st h=>wpAny_pyIter_zip st.1 h
noncomputable def ZS.val (K:PySem.W.Frag) (H:Hp) (x:V):ZS→Prop
 | .tup a=>x=.ref a∧∃ xs,SqT K H a xs
 | .lst a=>x=.ref a∧∃ xs,SqL K H a xs
 | .str z=>x=.str z
theorem ZS.iter {X:Cx} {pins:List (Addr×Obj)} {σ:St} {H:Hp} {s s':Shared} {src:ZS} {x:V} {u:Value} (I:Inv X pins σ H s) (r:RelV x u) (hv:src.val X.K H x) (up:∀ c o,s.heap.get? c=some o→s'.heap.get? c=some o) :
  ∃ o,src.it s'.heap.objs.size 0 (s'.heap.push o)∧∀ (prog:Program) (w:World) (A:Around) (E:Value→Shared→Prop) (Q:Value→Shared→Prop),Q (.ref s'.heap.objs.size) { s' with heap:=s'.heap.push o }→wpAny (model prog w) A (pyIter u) Q E s':=by
 cases src with
 | tup a =>
  obtain ⟨rfl,xs,hq⟩:=hv
  cases r
  obtain ⟨its,rv,p,hz⟩:=I.tuple hq
  obtain ⟨o,e,c,n,d⟩:=(show s.heap.IsTuple a its.toArray from p)
  exact ⟨_,⟨_,Heap.get?_push_size _ rfl,rfl,rfl⟩,fun prog w A E Q h=>wpAny_pyIter_tuple ⟨o,up _ _ e,c,n,d⟩ h⟩
 | lst a =>
  obtain ⟨rfl,xs,hq⟩:=hv
  cases r
  obtain ⟨its,rv,p,hz⟩:=I.list hq
  obtain ⟨o,e,c,n,d⟩:=p.isList
  exact ⟨_,⟨_,Heap.get?_push_size _ rfl,rfl,rfl⟩,fun prog w A E Q h=>wpAny_pyIter_list ⟨o,up _ _ e,c,n,d⟩ h⟩
 | str z =>
  cases hv
  obtain ⟨t,rfl⟩:=r
  cases ha:z.cps.all (· < 128)
  ·exact ⟨_,⟨t,.inr ⟨_,Heap.get?_push_size _ rfl,rfl,rfl⟩⟩,fun prog w A E Q h=>wpAny_pyIter_wide ha h⟩
  ·exact ⟨_,⟨t,.inl ⟨_,Heap.get?_push_size _ rfl,rfl,rfl⟩⟩,fun prog w A E Q h=>wpAny_pyIter_ascii ha h⟩
abbrev zG3 (h:Heap) (o1 o2:Obj):Heap:=((h.push o1).push o2).push { cls:=.type "tuple",data:=.seq #[.ref h.objs.size,.ref (h.push o1).objs.size] }
abbrev zG4 (h:Heap) (o1 o2:Obj):Heap:=(zG3 h o1 o2).push { cls:=.type "tuple",data:=.seq #[.none,.none] }
abbrev zG5 (h:Heap) (o1 o2:Obj):Heap:=(zG4 h o1 o2).push { cls:=.type "zip",data:=.fields #[.none,.bool false,.bool false,.ref ((h.push o1).push o2).objs.size,.ref (zG3 h o1 o2).objs.size] }
theorem zbO (u1 u2:Value) (o1 o2:Obj) :
  Meets (Builtin.«zip.__new__» ⟨[.type "zip",u1,u2],[]⟩) (fun _ R s =>
   (∀ (prog:Program) (w:World) (A:Around) (E:Value→Shared→Prop) (Q:Value→Shared→Prop),Q (.ref s.heap.objs.size) { s with heap:=s.heap.push o1 }→wpAny (model prog w) A (pyIter u1) Q E s) ∧
   (∀ (prog:Program) (w:World) (A:Around) (E:Value→Shared→Prop) (Q:Value→Shared→Prop),Q (.ref (s.heap.push o1).objs.size) { s with heap:=(s.heap.push o1).push o2 }→wpAny (model prog w) A (pyIter u2) Q E { s with heap:=s.heap.push o1 }) ∧
   R (.ok (.ret (.ref (zG4 s.heap o1 o2).objs.size))) { s with heap:=zG5 s.heap o1 o2 }) :=
 .of_wp fun prog w A R s h=>by
  obtain ⟨hp,g,d,tk,os⟩:=s;obtain ⟨h1,h2,h⟩:=h
  have hsub:=sub_zip
  have hL1:∀ {A:Around} {E:Value→Shared→Prop} {Q:Value→Shared→Prop},Q (.ref hp.objs.size) ⟨hp.push o1,g,d,tk,os⟩→wpAny (model prog w) A (pyIter u1) Q E ⟨hp,g,d,tk,os⟩:=fun q=>h1 prog w _ _ _ q
  have hL2:∀ {A:Around} {E:Value→Shared→Prop} {Q:Value→Shared→Prop},Q (.ref (hp.push o1).objs.size) ⟨(hp.push o1).push o2,g,d,tk,os⟩→wpAny (model prog w) A (pyIter u2) Q E ⟨hp.push o1,g,d,tk,os⟩:=fun q=>h2 prog w _ _ _ q
  wp_walk using hL1,hL2
  exact ⟨_,rfl,h⟩
noncomputable def iZip (K:PySem.W.Frag) (ta:TA):TI:=fun σ H R=>ta σ H fun vs H1=>∃ (x y:V) (s1 s2:ZS),vs=[x,y]∧s1.val K H1 x∧s2.val K H1 y∧R (Itz K s1 s2) H1
theorem XbB {X:Cx} {es:List Expr} {x1} {p0:Pos} {l l':Expr} {ta:TA} {p pos:Pos} (hg:Gl X "zip") (hm:X.mg "zip" = none) (ha:PA X [l,l'] ta) (hs:starEach [l,l'] X.env=[(false,eval l X.env),(false,eval l' X.env)]:=by rfl) (hs2:starEach [l'] X.env=[(false,eval l' X.env)]:=by rfl) :
  PI X (.Tuple es x1 p0) (.Call (.Name "zip" p) [l,l'] [] pos) (iZip X.K ta):=by
 intro pins s σ H R I h
 refine Call_ (ZaY I hg hm bt_zip (PyProof.Rows.callWith_type1 (thn (ha pos pins s σ H _ I h) fun us s1 ⟨vs,H1,I1,r1,q1⟩=>?_) (by rw [hs,hs2]) (by rw [hs2];rfl)))
 obtain ⟨x,y,z1,z2,e,hv1,hv2,q⟩:=q1
 subst e
 cases r1 with
 | cons ru rr =>
  cases rr with
  | cons rv rr =>
   cases rr
   obtain ⟨o1,t1,it1⟩:=ZS.iter (s':=s1) I1 ru hv1 fun _ _ e=>e
   obtain ⟨o2,t2,it2⟩:=ZS.iter (s':={ s1 with heap:=s1.heap.push o1 }) I1 rv hv2 fun _ _ e=>Heap.get?_push_of_some _ e
   refine callType_new F.called_zip (by decide) (F.typeCall_zip_2 _ _) (F.newCall_zip_2 _ _) (fun obj=>F.args_object_init_3 obj _ _) F.entry_zip_new (zbO _ _ o1 o2) ⟨it1,it2,?_⟩
   have w1:(s1.heap.push o1).objs.size=s1.heap.objs.size + 1:=Heap.size_push ..
   have w2:((s1.heap.push o1).push o2).objs.size=s1.heap.objs.size + 2:=by rw [Heap.size_push,w1]
   have w3:(zG3 s1.heap o1 o2).objs.size=s1.heap.objs.size + 3:=by rw [Heap.size_push,w2]
   have w4:(zG4 s1.heap o1 o2).objs.size=s1.heap.objs.size + 4:=by rw [Heap.size_push,w3]
   have up5:∀ c o,s1.heap.get? c=some o→(zG5 s1.heap o1 o2).get? c=some o:=fun c o e=>Heap.get?_push_of_some _ (Heap.get?_push_of_some _ (Heap.get?_push_of_some _ (Heap.get?_push_of_some _ (Heap.get?_push_of_some _ e))))
   have g5:IsZip (zG5 s1.heap o1 o2) (zG4 s1.heap o1 o2).objs.size ((s1.heap.push o1).push o2).objs.size (zG3 s1.heap o1 o2).objs.size .none:=Heap.get?_push_size _ rfl
   have g4:IsPair (zG5 s1.heap o1 o2) (zG3 s1.heap o1 o2).objs.size .none .none:=Heap.get?_push_of_some _ (Heap.get?_push_size _ rfl)
   have g3:IsPair (zG5 s1.heap o1 o2) ((s1.heap.push o1).push o2).objs.size (.ref s1.heap.objs.size) (.ref (s1.heap.push o1).objs.size):=Heap.get?_push_of_some _ (Heap.get?_push_of_some _ (Heap.get?_push_size _ rfl))
   have g2:z2.it (s1.heap.push o1).objs.size 0 (zG5 s1.heap o1 o2):=t2.at fun o e=>Heap.get?_push_of_some _ (Heap.get?_push_of_some _ (Heap.get?_push_of_some _ e))
   have g1:z1.it s1.heap.objs.size 0 (zG5 s1.heap o1 o2):=t1.at fun o e=>Heap.get?_push_of_some _ (Heap.get?_push_of_some _ (Heap.get?_push_of_some _ (Heap.get?_push_of_some _ e)))
   refine ⟨⟨_,g5,rfl⟩,?_⟩
   refine wpAny_pyIter_zip g5 ?_
   rw [w1] at g2 g3
   rw [w2] at g3 g5
   rw [w3] at g4 g5
   rw [w4] at g5
   have tz:Turn X.prog X.w X.K (.Tuple es x1 p0) (Itz X.K z1 z2) [s1.heap.objs.size + 4,s1.heap.objs.size + 2,s1.heap.objs.size + 3,s1.heap.objs.size,s1.heap.objs.size + 1] (s1.heap.objs.size + 4) (fun i h=>IsZip h (s1.heap.objs.size + 4) (s1.heap.objs.size + 2) (s1.heap.objs.size + 3) .none∧IsPair h (s1.heap.objs.size + 2) (.ref s1.heap.objs.size) (.ref (s1.heap.objs.size + 1))∧(∃ a b,IsPair h (s1.heap.objs.size + 3) a b)∧z1.it s1.heap.objs.size i h∧z2.it (s1.heap.objs.size + 1) i h):=by
    refine XbN z1 z2 _ _ _ _ _ ?_
    have ne:∀ {m n:Nat},m≠n→∀ {a:Nat},a + m≠a + n:=fun h a z=>h (Nat.add_left_cancel z)
    exact ⟨ne (m:=2) (n:=4) (by decide),ne (m:=3) (n:=4) (by decide),ne (m:=0) (n:=4) (by decide),ne (m:=1) (n:=4) (by decide),ne (m:=2) (n:=3) (by decide),ne (m:=3) (n:=0) (by decide),ne (m:=3) (n:=1) (by decide),ne (m:=0) (n:=1) (by decide),ne (m:=2) (n:=0) (by decide),ne (m:=2) (n:=1) (by decide)⟩
   refine ⟨_,_,_,_,H1,by rw [w4],I1.kept (t':=s1.toks) up5,tz,⟨g5,g3,⟨_,_,g4⟩,g1,g2⟩,fun b hb=>?_,q⟩
   have hb':@LE.le Nat _ s1.heap.objs.size b:=by
    simp only [List.mem_cons,List.not_mem_nil,or_false] at hb
    rcases hb with rfl | rfl | rfl | rfl | rfl
    ·exact Nat.le_add_right _ _
    ·exact Nat.le_add_right _ _
    ·exact Nat.le_add_right _ _
    ·exact Nat.le_refl _
    ·exact Nat.le_add_right _ _
   exact I1.fpOk hb' (I1.hok.fresh hb')
end L2
namespace L2
open PySem PySem.Spec PyProof.Rows
section
variable {X:Cx} {K:PySem.W.Frag}
theorem Vals.getU {xs:List V} {us:List Value} (r:Vals xs us) {i:Nat} {u:Value} (h:us[i]?=some u):∃ v,xs[i]?=some v∧RelV v u:=by
 have hi:=(List.getElem?_eq_some_iff.mp h).1
 have hl:=r.length
 obtain ⟨u',hu,ru⟩:=r.get (i:=i) (x:=xs[i]'(by omega)) (List.getElem?_eq_getElem _)
 rw [h] at hu
 cases hu
 exact ⟨_,List.getElem?_eq_getElem _,ru⟩
end
end L2
namespace L2
open PySem PySem.Spec PyProof.Rows
open Builtin.Str
section
variable {prog:Program} {w:World} {A:Around} {E:Value→Shared→Prop} {s:Shared}
end
end L2
namespace L2
open PySem PySem.Spec PyProof.Rows
open Builtin
section
variable {X:Cx}
end
end L2
namespace L2
open PySem PySem.Spec PyProof.Rows
section
variable {prog:Program} {w:World} {A:Around} {E:Value→Shared→Prop} {s:Shared}
end
section
variable {X:Cx} {pos:Pos}
end
end L2
namespace L2
open PySem PySem.Spec PyProof.Rows
set_option genInjectivity false in
inductive TV where
 | int (i:Int) | str (x:Str)
noncomputable def TV.v:TV→V
 | .int i=>.int i
 | .str x=>.str x
noncomputable def TV.dat:TV→PyData
 | .int i=>.int i
 | .str x=>.str x
noncomputable def datT (D:List (Str×TV)):List (Str×KTD.Dat):=D.map fun p=>(p.1,KTD.Dat.flat p.2.dat)
noncomputable def valT (D:List (Str×TV)) (k:Str):Option TV:=match D with
 | []=>none
 | (x,v) :: r=>if k=x then some v else valT r k
theorem YaT {k:Str} {v:TV}:∀ {D:List (Str×TV)},valT D k=some v→KTD.datumAt k (datT D)=some (.flat v.dat)
 | (x,w) :: r,h=>by
  unfold valT at h
  show KTD.datumAt k ((x,KTD.Dat.flat w.dat) :: datT r)=_
  unfold KTD.datumAt
  split at h
  ·next e=>cases h;simp [e]
  ·next e=>simp only [e];simpa [e] using YaT h
theorem ybO {v:TV} {u:Value} (h:PyProof.V.Flat u v.dat):RelV v.v u:=by
 cases v with
 | int i=>exact h.int_inv
 | str x=>exact h.str_inv
section
variable {prog:Program} {w:World} {A:Around} {E:Value→Shared→Prop} {s:Shared}
theorem xbi {a:Addr} {D:List (Str×TV)} {k:Str} {tk:Tok} {v:TV} {Q:Value→Shared→Prop} (T:KTD.TextTab s.heap a (datT D)) (hv:valT D k=some v) (h:∀ u n,RelV v.v u→Q u { s with toks:=n }) :
  wpAny (model prog w) A (getItem (.ref a) (.str k tk)) Q E s:=by
 have H:KTD.Here s.heap s.heap a (datT D):=⟨T,fun b o e=>e⟩
 unfold getItem
 try with_reducible refine wpAny_holding ?_
 refine wpAny_bind (wpAny_sequenceKey H.typeIs (by decide) ?_)
 refine wpAny_bind (wpAny_callSpecial?_slot (name:=Str.ofString "__getitem__") H.typeIs PySem.F.slot_dict_getitem
  (wpAny_call_entry PySem.F.slot_dict_getitem H.typeIs PySem.F.entry_dict_getitem ?_ (PySem.F.args_dict_getitem_2 _ _)))
 show wpAny _ _ (dictGet a (.str k tk) >>= _) _ _ s
 refine wpAny_bind (KTD.dictGet_text H (fun d u ha hu=>?_) fun hn=>?_)
 ·rw [YaT hv] at ha
  cases ha
  exact wpAny_pure ⟨u,rfl,wpAny_pure (h u _ (ybO hu))⟩
 ·rw [YaT hv] at hn;cases hn
end
structure ConD (K:PySem.W.Frag) (mg:Str→Option Value) (x:Str) (D:List (Str×TV)):Prop where
 ex:∃ a,mg x=some (.ref a)∧KTD.tabLook (KTD.datLooks fun b=>K.lookup b) (fun b=>K.lookup b) a (datT D)=true
noncomputable def tTab (D:List (Str×TV)) (ty:TE):TE:=fun σ H Q=>ty σ H fun y H1=>∃ z v,y=.str z∧valT D z=some v∧Q v.v H1
theorem pe_tab {X:Cx} {K:PySem.W.Frag} {mg:Str→Option Value} {x:Str} {D:List (Str×TV)} {i:Expr} {ty:TE} {p pos:Pos} (C:ConD K mg x D) (hK:X.K=K) (hX:X.mg=mg) (hg:Gl X x) (hi:PE X i ty) (hs:NoSl i) (hd:(x == ("__debug__" : Str))=false:=by decide) :
  PE X (.Subscript (.Name x p) i pos) (tTab D ty):=by
 subst hK hX
 obtain ⟨a,ha,hl⟩:=C.ex
 intro pins s σ H Q I h
 refine Xbz PySem.F.slot_dict_getitem.lookup hs (thn (zbx (v:=.ref a) hg ha rfl hd pins s σ H (fun x H1=>x=.ref a∧tTab D ty σ H1 Q) I ⟨rfl,h⟩) fun u s1 ⟨x,H1,I1,rx,ex,q1⟩=>thn (hi pins s1 σ H1 _ I1 q1) fun iv s2 ⟨y,H2,I2,ry,z,v,ey,lk,q2⟩=>?_)
 subst ex ey
 obtain rfl:u=Value.ref a:=rx
 obtain ⟨t,rfl⟩:=ry
 have T:=PySem.W.kt_text_in I2.kIn hl
 exact ⟨KTD.Here.typeIs ⟨T,fun b o e=>e⟩,xbi T lk fun w' n rw'=>⟨v.v,H2,I2.tok _,rw',q2⟩⟩
theorem zb2 {K:PySem.W.Frag} {h:Heap} {mg:Str→Option Value} (X:K.In h) (G:h.Ns mainGlobals mg) {x:Str} {a:Addr} {D:List (Str×TV)} (e:PySem.W.nsIn K mainGlobals x=some (some (.ref a))) (l:KTD.tabLook (KTD.datLooks fun b=>K.lookup b) (fun b=>K.lookup b) a (datT D)=true):ConD K mg x D :=
 ⟨a,PySem.W.mg_of X G e,l⟩
end L2
namespace L2
open PySem PySem.Spec PyProof.Rows
section
variable {prog:Program} {w:World} {A:Around} {E:Value→Shared→Prop} {s:Shared}
noncomputable def EntAt (h:Heap) (d:Addr) (es:Array DictEntry) (ep:Nat):Prop:=∃ od,h.get? d=some od∧od.ExactDict∧od.data=.dict es ep
theorem yb2 {d:Addr} {es:Array DictEntry} {ep:Nat} {Q:Value→Shared→Prop} (lo:(d == sysModules)=false) (m:EntAt s.heap d es ep)
  (q:Q (.ref s.heap.objs.size) { s with heap:=s.heap.push { cls:=.type "dict_keyiterator",data:=.fields #[.ref d,.int 0 0,.int es.size 0,.int ep 0] } }):wpAny (model prog w) A (pyIter (.ref d)) Q E s:=by
 obtain ⟨od,hod,hx,hdd⟩:=m
 have ty:s.TypeIs (.ref d) "dict" := ⟨od,hod,hx.1⟩
 refine wpAny_pyIter_slot ty F.slot_dict_iter (wpAny_call_entry F.slot_dict_iter ty F.entry_dict_iter ?_ (F.args_dict_iter_1 _))
 unfold Builtin.«dict.__iter__»
 refine wpAny_bind ?_
 unfold Builtin.Dict.dictSlotNone
 refine wpAny_bind (wpAny_notOrdered_dict ty ?_)
 refine (show wpAny _ _ (pure (.ref d:Value)) _ _ s from wpAny_pure ?_)
 show wpAny _ _ (Builtin.Dict.showsAll d >>= fun _=>_) _ _ s
 unfold Builtin.Dict.showsAll
 rw [if_neg (show ¬ (d == sysModules)=true by rw [lo];decide)]
 refine wpAny_bind (wpAny_pure (wpAny_bind (wpAny_dictEntries hod hdd (wpAny_bind (wpAny_dictEpoch hod hdd ?_)))))
 refine wpAny_bind (wpAny_newObj_type (wpAny_pure ⟨_,rfl,"dict_keyiterator",_,⟨_,Heap.get?_push_size _ rfl,rfl⟩,F.slot_dict_keyiterator_next.lookup,?_⟩))
 simpa only [rawInt] using q
theorem Zb2 {it d:Addr} {i ep:Nat} {es:Array DictEntry} {e:DictEntry} {Q:Option Value→Shared→Prop} (ik:s.heap.IsKeyIter it d i es.size ep) (m:EntAt s.heap d es ep) (he:es[i]?=some e)
  (q:∀ h',h'.IsKeyIter it d (i + 1) es.size ep→Heap.SameBut it s.heap h'→Q (some e.key) { s with heap:=h' }):wpAny (model prog w) A (pyNext (.ref it)) Q E s:=by
 obtain ⟨io,hio,hcl,hfs⟩:=id ik
 obtain ⟨od,hod,hx,hdd⟩:=id m
 obtain ⟨li,ge⟩:=Array.getElem?_eq_some_iff.mp he
 unfold pyNext
 refine wpAny_bind (wpAny_attempt (wpAny_callSpecial?_slot (name:=Str.ofString "__next__") ik.typeIs F.slot_dict_keyiterator_next (wpAny_call_entry F.slot_dict_keyiterator_next ik.typeIs F.entry_dict_keyiterator_next ?_ (F.args_dict_keyiterator_next_1 _))))
 refine wpAny_bind (wpAny_pure (wpAny_bind (wpAny_bind ?_)))
 first | refine wpAny_bind (wpAny_typeNameOfWhole_keyiter ik.typeIs (wpAny_pure ?_)) | refine wpAny_bind (wpAny_typeNameOf_keyiter ik.typeIs (wpAny_pure ?_))
 refine wpAny_bind (wpAny_fieldsOf hio hfs ?_)
 have own0:Builtin.Dict_items.ownsTuple "dict_keyiterator" = false:=by decide
 simp only [own0,Bool.false_eq_true,if_false]
 refine (show wpAny _ _ (if (Value.ref d == Value.none)=true then _ else _) _ _ s from ?_)
 rw [if_neg (show ¬ (Value.ref d == Value.none)=true from Bool.false_ne_true)]
 refine wpAny_bind (wpAny_pure (wpAny_bind (wpAny_dictEntries hod hdd ?_)))
 rw [if_neg (by simp)]
 refine wpAny_bind (wpAny_pure (wpAny_bind (wpAny_dictEpoch hod hdd ?_)))
 rw [if_neg (by simp)]
 refine wpAny_pure ?_
 have ni:¬ ((i:Int) < 0):=by omega
 simp only [ni,if_false,Int.toNat_natCast,he]
 refine wpAny_bind ?_
 first | refine wpAny_bind (wpAny_typeNameOfWhole_keyiter ik.typeIs (wpAny_pure ?_)) | refine wpAny_bind (wpAny_typeNameOf_keyiter ik.typeIs (wpAny_pure ?_))
 refine wpAny_bind (wpAny_isOneOf_keyiter ik.typeIs ?_)
 refine (show wpAny _ _ (setField (.ref it) 1 (rawInt ((i:Int) + 1)) >>= fun _=>_) _ _ s from ?_)
 refine wpAny_bind (wpAny_setField hio hfs (by simp) ?_)
 have ik2:(s.heap.update it (Obj.mapFields fun x=>x.setIfInBounds 1 (rawInt ((i:Int) + 1)))).IsKeyIter it d (i + 1) es.size ep:=⟨_,Heap.get?_update_self _ hio (Obj.isFreed_of_fields (Obj.data_mapFields hfs _)),(Obj.cls_mapFields ..).trans hcl,by rw [Obj.data_mapFields hfs];simp [rawInt]⟩
 refine wpAny_bind (wpAny_holding (wpAny_bind (wpAny_isOneOf_keyiter (s:={ s with heap:=s.heap.update it (Obj.mapFields fun x=>x.setIfInBounds 1 (rawInt ((i:Int) + 1))) }) ik2.typeIs ?_)))
 refine (show wpAny _ _ (pure e.key) _ _ _ from wpAny_pure (wpAny_pure ⟨_,rfl,wpAny_pure (q _ ik2 (Heap.SameBut.update ..))⟩))
theorem ki_end {it d:Addr} {i ep:Nat} {es:Array DictEntry} {Q:Option Value→Shared→Prop} (hh:A.handled=none) (ik:s.heap.IsKeyIter it d i es.size ep) (m:EntAt s.heap d es ep) (ge:es.size≤i)
  (q:∀ h',Heap.ExtBut it s.heap h'→Q none { s with heap:=h' }):wpAny (model prog w) A (pyNext (.ref it)) Q E s:=by
 obtain ⟨io,hio,hcl,hfs⟩:=id ik
 obtain ⟨od,hod,hx,hdd⟩:=id m
 unfold pyNext
 refine wpAny_bind (wpAny_attempt (wpAny_callSpecial?_slot (name:=Str.ofString "__next__") ik.typeIs F.slot_dict_keyiterator_next (wpAny_call_entry F.slot_dict_keyiterator_next ik.typeIs F.entry_dict_keyiterator_next ?_ (F.args_dict_keyiterator_next_1 _))))
 refine wpAny_bind (wpAny_pure (wpAny_bind (wpAny_bind ?_)))
 first | refine wpAny_bind (wpAny_typeNameOfWhole_keyiter ik.typeIs (wpAny_pure ?_)) | refine wpAny_bind (wpAny_typeNameOf_keyiter ik.typeIs (wpAny_pure ?_))
 refine wpAny_bind (wpAny_fieldsOf hio hfs ?_)
 have own0:Builtin.Dict_items.ownsTuple "dict_keyiterator" = false:=by decide
 simp only [own0,Bool.false_eq_true,if_false]
 refine (show wpAny _ _ (if (Value.ref d == Value.none)=true then _ else _) _ _ s from ?_)
 rw [if_neg (show ¬ (Value.ref d == Value.none)=true from Bool.false_ne_true)]
 refine wpAny_bind (wpAny_pure (wpAny_bind (wpAny_dictEntries hod hdd ?_)))
 rw [if_neg (by simp)]
 refine wpAny_bind (wpAny_pure (wpAny_bind (wpAny_dictEpoch hod hdd ?_)))
 rw [if_neg (by simp)]
 refine wpAny_pure ?_
 have ni:¬ ((i:Int) < 0):=by omega
 simp only [ni,if_false,Int.toNat_natCast,Array.getElem?_eq_none ge]
 refine wpAny_bind ?_
 first | refine wpAny_bind (wpAny_typeNameOfWhole_keyiter ik.typeIs (wpAny_pure ?_)) | refine wpAny_bind (wpAny_typeNameOf_keyiter ik.typeIs (wpAny_pure ?_))
 refine (show wpAny _ _ (setField (.ref it) 0 .none >>= fun _=>_) _ _ s from wpAny_bind (wpAny_setField hio hfs (by simp) ?_))
 refine (show wpAny _ _ (newExc (.type "StopIteration") [] >>= fun _=>_) _ _ _ from wpAny_bind ?_)
 simp only [newExc,newTuple]
 refine wpAny_bind (wpAny_newObj_type (wpAny_bind (m:=firstArgMember _ _) (wpAny_of_eq (a:=Value.none) (by first | rfl | (simp only [firstArgMember];rfl)) (wpAny_newObj_type ?_ (by size_fits)))) (by size_fits))
 simp only [raiseNew]
 refine wpAny_bind (wpAny_handled ?_)
 first | rw [show A.in1.handled=none from hh] | rw [hh]
 refine wpAny_bind (wpAny_pure (wpAny_throw ?_))
 refine wpAny_bind (m:=isInstance _ _) (wpAny_isInstance (T:="StopIteration") (b:=true) ⟨_,Heap.get?_push_size _ rfl,rfl⟩ isSubtype_stop ?_)
 exact wpAny_pure (q _ (((Heap.SameBut.update ..).extBut.push _).push _))
end
noncomputable def Itk (ks:List Str):It:=⟨fun i _=>i < ks.length,fun i H y H'=>H'=H∧∃ z,ks[i]?=some z∧y=.str z,fun i _=>ks.length≤i⟩
theorem Zbn {δ:Type} {R:δ→Value→Prop}:∀ {l:List DictEntry} {D:List (Str×δ)},KTD.Rows R l D→l.length=D.length∧∀ (i:Nat) (e:DictEntry),l[i]?=some e→∃ z t,(D.map (·.1))[i]?=some z∧e.key=.str z t
 | _,_,.nil=>⟨rfl,fun i e h=>by simp at h⟩
 | _,_,.cons hk _ hr=>by
  obtain ⟨h1,h2⟩:=Zbn hr
  refine ⟨by rw [List.length_cons,List.length_cons,h1],fun i e h=>?_⟩
  cases i with
  | zero =>
   rw [List.getElem?_cons_zero] at h
   cases h
   exact ⟨_,_,rfl,hk⟩
  | succ i =>
   rw [List.getElem?_cons_succ] at h
   exact h2 i e h
theorem zbC {P:Program} {w:World} {K:PySem.W.Frag} {tg:Expr} (d it:Addr) (D:List (Str×TV)) (es:Array DictEntry) (ep:Nat) (hK:∃ o,K.lookup d=some o∧o.ExactDict∧o.data=.dict es ep) (hr:es.toList.length=D.length∧∀ (i:Nat) (e:DictEntry),es.toList[i]?=some e→∃ z t,(D.map (·.1))[i]?=some z∧e.key=.str z t) :
  Turn P w K tg (Itk (D.map (·.1))) [it] it (fun i h=>h.IsKeyIter it d i es.size ep) where
 mem:=by simp
 obj:=fun i h st b hb=>by
  obtain rfl:b=it:=by simpa using hb
  obtain ⟨o,e,c,f⟩:=st
  exact ⟨o,e,fun v z=>by rw [f] at z;cases z⟩
 keep:=fun i h h' st k=>by
  obtain ⟨o,e,r⟩:=st
  exact ⟨o,k it (by simp) o e,r⟩
 item:=by
  intro X hP hw hX hc i pins s σ H E I hf st hg
  subst hP hw hX
  obtain ⟨f0,f1,f2,f3,f4,f5⟩:=hf it (by simp)
  have hi:i < (D.map (·.1)).length:=hg
  rw [List.length_map,← hr.1] at hi
  obtain ⟨o,ho,hx,hdd⟩:=hK
  have hes:es[i]?=some es.toList[i]:=by simp
  obtain ⟨z,t,hz,hkz⟩:=hr.2 i es.toList[i] (List.getElem?_eq_getElem hi)
  refine Zb2 st ⟨o,I.kIn d o ho,hx,hdd⟩ hes fun h' ik sb=>?_
  have I1:Inv X pins σ H { s with heap:=h' }:=I.turned (t':=s.toks) (fun b o hb e=>(sb.2 b hb).trans e) f0 f1 f3 f4 f5
  obtain ⟨o2,e2,c2,d2⟩:=id ik
  refine ⟨_,rfl,xbg (s:={ s with heap:=h' }) e2 c2 d2 (by decide) ⟨.str z,H,I1,?_,⟨rfl,z,hz,rfl⟩,ik,fun b hb=>(hf b hb).1⟩⟩
  rw [hkz]
  exact ⟨t,rfl⟩
 done:=by
  intro X hP hw hX hc i pins s σ H E I hf st hg
  subst hP hw hX
  obtain ⟨f0,f1,f2,f3,f4,f5⟩:=hf it (by simp)
  have hi:(D.map (·.1)).length≤i:=hg
  rw [List.length_map,← hr.1] at hi
  obtain ⟨o,ho,hx,hdd⟩:=hK
  exact ki_end (I.ok.hd hc) st ⟨o,I.kIn d o ho,hx,hdd⟩ (by simpa using hi) fun h' eb=>⟨rfl,I.turned (t':=s.toks) (fun b o hb e=>eb b o hb e) f0 f1 f3 f4 f5⟩
 self:=fun A i s Q E st h=>by
  refine wpAny_pyIter_slot st.typeIs F.slot_dict_keyiterator_iter (wpAny_call_entry F.slot_dict_keyiterator_iter st.typeIs F.entry_dict_keyiterator_iter ?_ (F.args_dict_keyiterator_iter_1 _))
  exact (show wpAny _ _ (ret (.ref it)) _ _ s from wpAny_pure ⟨_,rfl,"dict_keyiterator",_,st.typeIs,F.slot_dict_keyiterator_next.lookup,h⟩)
noncomputable def iKeys (D:List (Str×TV)):TI:=fun _ H R=>R (Itk (D.map (·.1))) H
theorem ZbO {K:PySem.W.Frag} {a:Addr} {D:List (Str×KTD.Dat)} (h:KTD.tabLook (KTD.datLooks fun b=>K.lookup b) (fun b=>K.lookup b) a D=true):(a == sysModules)=false∧∃ o es ep,K.lookup a=some o∧o.ExactDict∧o.data=.dict es ep∧KTD.Rows (fun _ _=>True) es.toList D:=by
 simp only [KTD.tabLook,Bool.and_eq_true] at h
 obtain ⟨h0,h⟩:=h
 split at h
 ·next o ho =>
  simp only [Bool.and_eq_true] at h
  obtain ⟨⟨⟨e1,e2⟩,e3⟩,e4⟩:=h
  split at e4
  ·next es ep hd=>exact ⟨by simpa using h0,o,es,ep,ho,⟨beq_iff_eq.mp e1,by simpa using e2,by simpa using e3⟩,hd,KTD.rows_of_look (fun _ _ _=>True.intro) e4⟩
  ·cases e4
 ·cases h
theorem YbO (D:List (Str×TV)):(datT D).map (·.1)=D.map (·.1):=by
 unfold datT
 rw [List.map_map]
 rfl
theorem Yb2 {X:Cx} {K:PySem.W.Frag} {mg:Str→Option Value} {x:Str} {D:List (Str×TV)} {tg:Expr} {p:Pos} (C:ConD K mg x D) (hK:X.K=K) (hX:X.mg=mg) (hg:Gl X x) (hd:(x == ("__debug__" : Str))=false:=by decide):PI X tg (.Name x p) (iKeys D):=by
 subst hK hX
 obtain ⟨a,ha,hl⟩:=C.ex
 intro pins s σ H R I h
 refine thn (zbx (v:=.ref a) hg ha rfl hd pins s σ H (fun x H1=>x=.ref a∧iKeys D σ H1 R) I ⟨rfl,h⟩) fun u s1 ⟨x,H1,I1,rx,ex,q1⟩=>?_
 subst ex
 obtain rfl:u=Value.ref a:=rx
 obtain ⟨lo,o,es,ep,ho,hx,hdd,hr⟩:=ZbO hl
 have hk:=Zbn hr
 rw [YbO,show (datT D).length=D.length by unfold datT;rw [List.length_map]] at hk
 refine yb2 lo ⟨o,I1.kIn a o ho,hx,hdd⟩ ?_
 refine ⟨s1.heap.objs.size,[s1.heap.objs.size],_,_,H1,rfl,I1.kept (t':=s1.toks) fun b o e=>Heap.get?_push_of_some _ e,zbC a _ D es ep ⟨o,ho,hx,hdd⟩ hk,⟨_,Heap.get?_push_size _ rfl,rfl,rfl⟩,fun b hb=>?_,q1⟩
 obtain rfl:b=s1.heap.objs.size:=by simpa using hb
 exact I1.fpOk (Nat.le_refl _) (I1.hok.fresh (Nat.le_refl _))
end L2
namespace L2
open PySem PySem.Spec PyProof.Rows
noncomputable def IteL (K:PySem.W.Frag) (a:Addr):It :=
 ⟨fun i H=>∃ xs x,SqL K H a xs∧xs[i]?=some x,fun i H x H'=>∃ p y,x=.ref p∧H p=none∧H'=upd H p (.tup [.int i,y])∧∀ xs,SqL K H a xs→xs[i]?=some y,fun i H=>∃ xs,SqL K H a xs∧xs.length=i⟩
theorem Xbt {P:Program} {w:World} {K:PySem.W.Frag} {es:List Expr} {x1} {pos:Pos} (a e it:Addr) (hne:e≠it) :
  Turn P w K (.Tuple es x1 pos) (IteL K a) [e,it] e (fun i h=>(∃ old,IsEnum h e it i old)∧h.IsListIter it a i) where
 mem:=by simp
 obj:=fun i h st b hb=>by
  obtain ⟨⟨old,he⟩,o,e2,c,d⟩:=st
  rcases List.mem_cons.mp hb with rfl | hb
  ·exact ⟨_,he,fun v z=>by
    have z':Data.fields _=Data.cell v:=z
    cases z'⟩
  ·have q:b=it:=by simpa using hb
   subst q
   exact ⟨o,e2,fun v z=>by rw [d] at z;cases z⟩
 keep:=fun i h h' st k=>⟨let ⟨old,he⟩:=st.1;⟨old,k e (by simp) _ he⟩,st.2.at fun o q=>k it (by simp) o q⟩
 item:=by
  intro X hP hw hK hc i pins s σ H E I hf st hg
  subst hP hw hK
  obtain ⟨xs,x,hq,hx⟩:=hg
  obtain ⟨its,rv,p,hz⟩:=I.list hq
  obtain ⟨u,hu,ru⟩:=rv.get hx
  obtain ⟨⟨old,he⟩,hit⟩:=st
  have ht:s.heap.IsList a its.toArray:=p.isList
  have nai:a≠it:=fun z=>by
   obtain ⟨o,e1,c1,_⟩:=hit
   obtain ⟨o2,e2,c2,_⟩:=ht
   rw [z,e1] at e2;cases e2
   exact absurd (c1.symm.trans c2) (by simp)
  have nae:e≠a:=fun z=>by
   obtain ⟨o2,e2,c2,_⟩:=ht
   rw [← z,he] at e2;cases e2
   exact absurd c2 (by simp)
  have hl:=rv.length
  have hi:i < its.toArray.size:=by
   have:=List.getElem?_eq_some_iff.mp hu
   obtain ⟨q,_⟩:=this
   simpa using q
  refine wpAny_pyNext_enum_itemD (Draws.list (A:=X.A.in1) (I.ok.hd hc) it a nai its.toArray) he ⟨hit,ht⟩ hi hne (by simp [hne,nae]) fun y h1 tk hy ho hst hT hsz kk=>?_
  have ey:y=u:=by
   have:its.toArray[i]?=some u:=by simpa using hu
   exact Option.some.inj (hy.symm.trans this)
  subst ey
  refine ⟨_,rfl,wpAny_letOwnedTupleGo_enum ho fun h2 he2 sb=>?_⟩
  have hel:@LT.lt Nat _ e s.heap.objs.size:=Heap.lt_size he
  have hil:@LT.lt Nat _ it s.heap.objs.size:=by obtain ⟨o,e1,_⟩:=hit;exact Heap.lt_size e1
  have hf0:H s.heap.objs.size=none:=I.hok.fresh (Nat.le_refl _)
  have sb':Heap.SameBut e h1 h2:=sb
  have I1:Inv X pins σ (upd H s.heap.objs.size (.tup [.int i,x])) { s with heap:=s.heap.push { cls:=.type "tuple",data:=.seq #[.int i tk,y] },toks:=s.toks } :=
   I.laid (fun b u e=>Heap.get?_push_of_some _ e) (Nat.le_refl _) ⟨(by decide:2≤sizeLine),[.int i tk,y],.cons ⟨tk,rfl⟩ (.cons ru .nil),⟨_,Heap.get?_push_size _ rfl,rfl,rfl,_,rfl⟩⟩
  have nn:∀ b∈[e,it],@LT.lt Nat _ b s.heap.objs.size:=fun b hb=>by
   rcases List.mem_cons.mp hb with rfl | hb
   ·exact hel
   ·have q:b=it:=by simpa using hb
    rw [q];exact hil
  have hn:∀ b∈[e,it],upd H s.heap.objs.size (.tup [.int i,x]) b=none:=fun b hb=>by
   unfold upd
   rw [if_neg (Nat.ne_of_lt (nn b hb))]
   exact (hf b hb).1
  have I2:Inv X pins σ (upd H s.heap.objs.size (.tup [.int i,x])) { s with heap:=h2,toks:=tk + 1 }:=by
   refine Inv.turnedL (s:={ s with heap:=s.heap.push { cls:=.type "tuple",data:=.seq #[.int i tk,y] },toks:=s.toks }) (h':=h2) I1 (ch:=[e,it]) (t':=tk + 1) (fun b o hb q=>?_) fun b hb=>⟨hn b hb,(hf b hb).2⟩
   have nb:b≠e∧b≠it:=by simpa using hb
   refine (sb'.2 b nb.1).trans ?_
   rcases Heap.get?_push_cases q with ⟨rfl,rfl⟩ | q
   ·exact hT
   ·exact kk b o nb.1 nb.2 q
  refine ⟨.ref s.heap.objs.size,_,I2,rfl,⟨_,x,rfl,hf0,rfl,fun ys hy2=>by rw [I.list_inj hy2 hq];exact hx⟩,⟨⟨y,?_⟩,?_⟩,hn⟩
  ·have:((i + 1:Nat):Int)=(i:Int) + 1:=by omega
   rw [this];exact he2
  ·exact hst.1.extBut sb'.extBut (Ne.symm hne)
 done:=by
  intro X hP hw hK hc i pins s σ H E I hf st hg
  subst hP hw hK
  obtain ⟨xs,hq,hx⟩:=hg
  obtain ⟨its,rv,p,hz⟩:=I.list hq
  obtain ⟨⟨old,he⟩,hit⟩:=st
  have ht:s.heap.IsList a its.toArray:=p.isList
  have nai:a≠it:=fun z=>by
   obtain ⟨o,e1,c1,_⟩:=hit
   obtain ⟨o2,e2,c2,_⟩:=ht
   rw [z,e1] at e2;cases e2
   exact absurd (c1.symm.trans c2) (by simp)
  have hl:=rv.length
  have ei:its.toArray.size=i:=by simp;omega
  refine wpAny_pyNext_enum_endD (Draws.list (A:=X.A.in1) (I.ok.hd hc) it a nai its.toArray) he (by rw [ei];exact ⟨hit,ht⟩) fun h1 eb=>⟨rfl,?_⟩
  obtain ⟨f0,f1,f2,f3,f4,f5⟩:=hf it (by simp)
  exact I.turned (t':=s.toks) (fun b o hb q=>eb b o hb q) f0 f1 f3 f4 f5
 self:=fun _ _ _ _ _ st h=>let ⟨_,he⟩:=st.1;wpAny_pyIter_enum he h
noncomputable def iEnumE (K:PySem.W.Frag) (ta:TA):TI:=fun σ H R=>ta σ H fun vs H1=>∃ a,vs=[.ref a]∧(((∃ xs,SqT K H1 a xs)∧R (Ite K a) H1)∨((∃ xs,SqL K H1 a xs)∧R (IteL K a) H1))
theorem xbO {X:Cx} {es:List Expr} {x1} {p0:Pos} {l:Expr} {ta:TA} {p pos:Pos} (hg:Gl X "enumerate") (hm:X.mg "enumerate" = none) (ha:PA X [l] ta) (hs:starEach [l] X.env=[(false,eval l X.env)]:=by rfl) :
  PI X (.Tuple es x1 p0) (.Call (.Name "enumerate" p) [l] [] pos) (iEnumE X.K ta):=by
 intro pins s σ H R I h
 refine Call_ (ZaY I hg hm boot_enumerate (PyProof.Rows.callWith_type1 (thn (ha pos pins s σ H _ I h) fun us s1 ⟨vs,H1,I1,r1,q1⟩=>?_) hs rfl))
 obtain ⟨a,e,q⟩:=q1
 subst e
 cases r1 with
 | cons r rr =>
  cases rr
  cases r
  have fin:∀ b∈[s1.heap.objs.size + 1,s1.heap.objs.size],FpOk X pins H1 b:=fun b hb=>by
   have hb':@LE.le Nat _ s1.heap.objs.size b:=by
    rcases List.mem_cons.mp hb with rfl | hb
    ·exact Nat.le_succ _
    ·have e:b=s1.heap.objs.size:=by simpa using hb
     rw [e];exact Nat.le_refl _
   exact I1.fpOk hb' (I1.hok.fresh hb')
  rcases q with ⟨⟨xs,hq⟩,q⟩ | ⟨⟨xs,hq⟩,q⟩
  ·obtain ⟨its,rv,p,hz⟩:=I1.tuple hq
   refine Za4 (show s1.heap.IsTuple a its.toArray from p) fun h1 he hi hsz kk=>?_
   refine wpAny_pyIter_enum he ?_
   exact ⟨s1.heap.objs.size + 1,[s1.heap.objs.size + 1,s1.heap.objs.size],_,_,H1,rfl,I1.kept (t':=s1.toks) kk,Zbe a _ _ (Nat.succ_ne_self _),⟨⟨_,he⟩,hi⟩,fin,q⟩
  ·obtain ⟨its,rv,p,hz⟩:=I1.list hq
   refine PySem.call_enumerate_list p.isList fun h1 he hi hsz kk=>?_
   refine wpAny_pyIter_enum he ?_
   exact ⟨s1.heap.objs.size + 1,[s1.heap.objs.size + 1,s1.heap.objs.size],_,_,H1,rfl,I1.kept (t':=s1.toks) kk,Xbt a _ _ (Nat.succ_ne_self _),⟨⟨_,he⟩,hi⟩,fin,q⟩
end L2
namespace L2
open PySem PySem.Spec PyProof.Rows
section
variable {X:Cx} {pos:Pos}
end
end L2
namespace L2
open PySem PySem.Spec PyProof.Rows
noncomputable def DU (a:Addr) (xs:List (List Int×Addr×Value)):HO:=.ext fun h=>(a == sysModules)=false∧xs.length≤sizeLine∧∃ o es ep,h.get? a=some o∧o.ExactDict∧o.data=.dict es ep ∧
 (∃ (P:Program) (w:World),es.toList=xs.map (entryOfKey (tupleKind (intKind P w))))∧(xs.map (·.1)).Nodup
section
variable {X:Cx} {pins:List (Addr×Obj)} {σ:St} {H:Hp} {s:Shared} {a b:Addr} {k:List Int} {xs:List (List Int×Addr×Value)}
end
section
variable {X:Cx} {o i e value:Expr} {pos pos' tpos:Pos} {td ty tv:TE}
end
end L2
namespace L2
open PySem PySem.Spec PyProof.Rows PySem.SeqAt PySem.MeetsSeq
section
variable {prog:Program} {w:World} {A:Around} {R:Result→Shared→Prop} {I:Addr} {fp wr:List Addr} {n:Nat} {P:Nat→Value→Prop} {St:Nat→Heap→Prop}
end
section
variable {prog:Program} {w:World} {A:Around} {E:Value→Shared→Prop} {s:Shared}
end
section
variable {X:Cx}
end
end L2
namespace L2
open PySem PySem.Spec PyProof.Rows PySem.W
section
variable {lt:Nat→Nat→Bool} {n0:Nat} {cmp:Nat→Nat→(Bool→Shared→Prop)→Shared→Prop} {s:Shared}
structure Ord (lt:Nat→Nat→Bool):Prop where
 tr:∀ a b c,lt b a=false→lt c b=false→lt c a=false
 as:∀ a b,lt a b=true→lt b a=false
noncomputable def P (p:Array Nat) (i:Nat):Nat:=p.getD i 0
variable (o:Ord lt) (hn:0 < n0) (hc:∀ i j (C:Bool→Shared→Prop),i < n0→j < n0→C (lt i j) s→cmp i j C s)
include o hn hc
end
section
variable {prog:Program} {w:World} {A:Around} {E:Value→Shared→Prop} {s:Shared}
end
section
variable {prog:Program} {w:World} {A:Around} {E:Value→Shared→Prop} {s:Shared} {lt:Nat→Nat→Bool}
end
section
variable {X:Cx}
end
end L2
namespace L2
open PySem PySem.Spec PyProof.Rows
section
variable {X:Cx} {o e f:Expr} {apos cpos:Pos} {td ty tx:TE}
end
end L2
namespace L2
open PySem PySem.Spec PyProof.Rows PySem.W
section
variable {X:Cx} {o e:Expr} {t t' td:TE} {apos cpos pos p:Pos}
theorem KV.vals {kvs:List (Key×V)} {vs:List (Key×Value)} (r:KV kvs vs):Vals (kvs.map (·.2)) (vs.map (·.2)):=by
 induction r with
 | nil=>exact .nil
 | cons h _ ih=>exact .cons h.2 ih
end
end L2
namespace L2
open PySem PySem.Spec PyProof.Rows
section
variable {X:Cx} {body:List Stmt} {h₀:ExceptHandler} {hs:List ExceptHandler} {pos:Pos} {t:TS}
end
end L2
namespace L2
open PySem PySem.Spec PyProof.Rows
section
variable {X:Cx} {K:PySem.W.Frag}
end
end L2
namespace L2
open PySem PySem.Spec PyProof.Rows
open Builtin
end L2
namespace L2
open PySem PySem.Spec PyProof.Rows
section
variable {X:Cx} {K:PySem.W.Frag}
end
end L2
namespace L2
open PySem PySem.Spec PyProof.Rows PySem.W
section
variable {prog:Program} {w:World} {A:Around} {E:Value→Shared→Prop} {s:Shared}
theorem xb2 {v d:Addr} {es:Array DictEntry} {ep:Nat} {Q:Value→Shared→Prop} (hv:s.heap.IsValuesView v d) (m:EntAt s.heap d es ep)
  (q:Q (.ref s.heap.objs.size) { s with heap:=s.heap.push { cls:=.type "dict_valueiterator",data:=.fields #[.ref d,.int 0 0,.int es.size 0,.int ep 0] } }):wpAny (model prog w) A (pyIter (.ref v)) Q E s:=by
 obtain ⟨vo,hvo,hcl,hfs⟩:=id hv
 obtain ⟨od,hod,hx,hdd⟩:=m
 refine wpAny_pyIter_slot hv.typeIs F.slot_dict_values_iter (wpAny_call_entry F.slot_dict_values_iter hv.typeIs F.entry_dict_values_iter ?_ (F.args_dict_values_iter_1 _))
 unfold Builtin.«dict_values.__iter__»
 refine wpAny_bind (wpAny_pure (wpAny_bind ?_))
 unfold Builtin.Dict_items.dictOf
 refine wpAny_bind (wpAny_field hvo hfs (x:=.ref d) rfl (wpAny_pure (wpAny_bind ?_)))
 unfold Builtin.Dict_items.newIterator
 refine wpAny_bind (wpAny_dictEntries hod hdd (wpAny_bind (wpAny_dictEpoch hod hdd ?_)))
 have own0:Builtin.Dict_items.ownsTuple "dict_valueiterator" = false:=by decide
 simp only [own0,Bool.false_eq_true,if_false]
 refine wpAny_newObj_type (wpAny_pure ⟨_,rfl,"dict_valueiterator",_,⟨_,Heap.get?_push_size _ rfl,rfl⟩,F.slot_dict_valueiterator_next.lookup,?_⟩)
 simpa only [rawInt] using q
theorem Xb2 {it d:Addr} {i ep:Nat} {es:Array DictEntry} {e:DictEntry} {Q:Option Value→Shared→Prop} (ik:s.heap.IsValIter it d i es.size ep) (m:EntAt s.heap d es ep) (he:es[i]?=some e)
  (q:∀ h',h'.IsValIter it d (i + 1) es.size ep→Heap.SameBut it s.heap h'→Q (some e.val) { s with heap:=h' }):wpAny (model prog w) A (pyNext (.ref it)) Q E s:=by
 obtain ⟨io,hio,hcl,hfs⟩:=id ik
 obtain ⟨od,hod,hx,hdd⟩:=id m
 obtain ⟨li,ge⟩:=Array.getElem?_eq_some_iff.mp he
 unfold pyNext
 refine wpAny_bind (wpAny_attempt (wpAny_callSpecial?_slot (name:=Str.ofString "__next__") ik.typeIs F.slot_dict_valueiterator_next (wpAny_call_entry F.slot_dict_valueiterator_next ik.typeIs F.entry_dict_valueiterator_next ?_ (F.args_dict_valueiterator_next_1 _))))
 refine wpAny_bind (wpAny_pure (wpAny_bind (wpAny_bind ?_)))
 first | refine wpAny_bind (wpAny_typeNameOfWhole_valiter ik.typeIs (wpAny_pure ?_)) | refine wpAny_bind (wpAny_typeNameOf_valiter ik.typeIs (wpAny_pure ?_))
 refine wpAny_bind (wpAny_fieldsOf hio hfs ?_)
 have own0:Builtin.Dict_items.ownsTuple "dict_valueiterator" = false:=by decide
 simp only [own0,Bool.false_eq_true,if_false]
 refine (show wpAny _ _ (if (Value.ref d == Value.none)=true then _ else _) _ _ s from ?_)
 rw [if_neg (show ¬ (Value.ref d == Value.none)=true from Bool.false_ne_true)]
 refine wpAny_bind (wpAny_pure (wpAny_bind (wpAny_dictEntries hod hdd ?_)))
 rw [if_neg (by simp)]
 refine wpAny_bind (wpAny_pure (wpAny_bind (wpAny_dictEpoch hod hdd ?_)))
 rw [if_neg (by simp)]
 refine wpAny_pure ?_
 have ni:¬ ((i:Int) < 0):=by omega
 simp only [ni,if_false,Int.toNat_natCast,he]
 refine wpAny_bind ?_
 first | refine wpAny_bind (wpAny_typeNameOfWhole_valiter ik.typeIs (wpAny_pure ?_)) | refine wpAny_bind (wpAny_typeNameOf_valiter ik.typeIs (wpAny_pure ?_))
 refine wpAny_bind (wpAny_isOneOf_valiter ik.typeIs ?_)
 refine (show wpAny _ _ (setField (.ref it) 1 (rawInt ((i:Int) + 1)) >>= fun _=>_) _ _ s from ?_)
 refine wpAny_bind (wpAny_setField hio hfs (by simp) ?_)
 have ik2:(s.heap.update it (Obj.mapFields fun x=>x.setIfInBounds 1 (rawInt ((i:Int) + 1)))).IsValIter it d (i + 1) es.size ep:=⟨_,Heap.get?_update_self _ hio (Obj.isFreed_of_fields (Obj.data_mapFields hfs _)),(Obj.cls_mapFields ..).trans hcl,by rw [Obj.data_mapFields hfs];simp [rawInt]⟩
 refine wpAny_bind (wpAny_holding (wpAny_bind (wpAny_isOneOf_valiter (s:={ s with heap:=s.heap.update it (Obj.mapFields fun x=>x.setIfInBounds 1 (rawInt ((i:Int) + 1))) }) ik2.typeIs (wpAny_bind (wpAny_isOneOf_valiter (s:={ s with heap:=s.heap.update it (Obj.mapFields fun x=>x.setIfInBounds 1 (rawInt ((i:Int) + 1))) }) ik2.typeIs ?_)))))
 refine (show wpAny _ _ (pure e.val) _ _ _ from wpAny_pure (wpAny_pure ⟨_,rfl,wpAny_pure (q _ ik2 (Heap.SameBut.update ..))⟩))
theorem vi_end {it d:Addr} {i ep:Nat} {es:Array DictEntry} {Q:Option Value→Shared→Prop} (hh:A.handled=none) (ik:s.heap.IsValIter it d i es.size ep) (m:EntAt s.heap d es ep) (ge:es.size≤i)
  (q:∀ h',Heap.ExtBut it s.heap h'→Q none { s with heap:=h' }):wpAny (model prog w) A (pyNext (.ref it)) Q E s:=by
 obtain ⟨io,hio,hcl,hfs⟩:=id ik
 obtain ⟨od,hod,hx,hdd⟩:=id m
 unfold pyNext
 refine wpAny_bind (wpAny_attempt (wpAny_callSpecial?_slot (name:=Str.ofString "__next__") ik.typeIs F.slot_dict_valueiterator_next (wpAny_call_entry F.slot_dict_valueiterator_next ik.typeIs F.entry_dict_valueiterator_next ?_ (F.args_dict_valueiterator_next_1 _))))
 refine wpAny_bind (wpAny_pure (wpAny_bind (wpAny_bind ?_)))
 first | refine wpAny_bind (wpAny_typeNameOfWhole_valiter ik.typeIs (wpAny_pure ?_)) | refine wpAny_bind (wpAny_typeNameOf_valiter ik.typeIs (wpAny_pure ?_))
 refine wpAny_bind (wpAny_fieldsOf hio hfs ?_)
 have own0:Builtin.Dict_items.ownsTuple "dict_valueiterator" = false:=by decide
 simp only [own0,Bool.false_eq_true,if_false]
 refine (show wpAny _ _ (if (Value.ref d == Value.none)=true then _ else _) _ _ s from ?_)
 rw [if_neg (show ¬ (Value.ref d == Value.none)=true from Bool.false_ne_true)]
 refine wpAny_bind (wpAny_pure (wpAny_bind (wpAny_dictEntries hod hdd ?_)))
 rw [if_neg (by simp)]
 refine wpAny_bind (wpAny_pure (wpAny_bind (wpAny_dictEpoch hod hdd ?_)))
 rw [if_neg (by simp)]
 refine wpAny_pure ?_
 have ni:¬ ((i:Int) < 0):=by omega
 simp only [ni,if_false,Int.toNat_natCast,Array.getElem?_eq_none ge]
 refine wpAny_bind ?_
 first | refine wpAny_bind (wpAny_typeNameOfWhole_valiter ik.typeIs (wpAny_pure ?_)) | refine wpAny_bind (wpAny_typeNameOf_valiter ik.typeIs (wpAny_pure ?_))
 refine (show wpAny _ _ (setField (.ref it) 0 .none >>= fun _=>_) _ _ s from wpAny_bind (wpAny_setField hio hfs (by simp) ?_))
 refine (show wpAny _ _ (newExc (.type "StopIteration") [] >>= fun _=>_) _ _ _ from wpAny_bind ?_)
 simp only [newExc,newTuple]
 refine wpAny_bind (wpAny_newObj_type (wpAny_bind (m:=firstArgMember _ _) (wpAny_of_eq (a:=Value.none) (by first | rfl | (simp only [firstArgMember];rfl)) (wpAny_newObj_type ?_ (by size_fits)))) (by size_fits))
 simp only [raiseNew]
 refine wpAny_bind (wpAny_handled ?_)
 first | rw [show A.in1.handled=none from hh] | rw [hh]
 refine wpAny_bind (wpAny_pure (wpAny_throw ?_))
 refine wpAny_bind (m:=isInstance _ _) (wpAny_isInstance (T:="StopIteration") (b:=true) ⟨_,Heap.get?_push_size _ rfl,rfl⟩ isSubtype_stop ?_)
 exact wpAny_pure (q _ (((Heap.SameBut.update ..).extBut.push _).push _))
theorem ybC (d:Addr) (hd:(d == sysModules)=false):MeetsIn prog w (Builtin.«dict.values» ⟨[.ref d],[]⟩) (fun _ R s=>s.TypeIs (.ref d) "dict" ∧
   R (.ok (.ret (.ref s.heap.objs.size))) { s with heap:=s.heap.push { cls:=.type "dict_values",data:=.fields #[.ref d] } }) :=
 .of_wp fun A R s ⟨ty,h⟩=>by
  refine wpAny_bind ?_
  unfold Builtin.Dict.noArgs
  refine wpAny_bind (wpAny_notOrdered_dict ty ?_)
  refine (show wpAny _ _ (pure d) _ _ s from wpAny_pure ?_)
  refine (show wpAny _ _ (Builtin.Dict.showsAll d >>= fun _=>_) _ _ s from ?_)
  unfold Builtin.Dict.showsAll
  rw [if_neg (show ¬ (d == sysModules)=true by rw [hd];decide)]
  exact wpAny_bind (wpAny_pure (wpAny_bind (wpAny_newObj_type (wpAny_pure ⟨_,rfl,h⟩))))
end
end L2
namespace L2
open PySem PySem.Spec PyProof.Rows PySem.W
noncomputable def ValsAre (es:Array DictEntry) (kvs:List (Key×V)):Prop:=es.toList.length=kvs.length∧∀ (i:Nat) (e:DictEntry),es.toList[i]?=some e→∃ v,(kvs.map (·.2))[i]?=some v∧RelV v e.val
theorem Inv.freeze {X:Cx} {pins:List (Addr×Obj)} {σ:St} {H:Hp} {s:Shared} {a:Addr} {kvs:List (Key×V)} (I:Inv X pins σ H s) (e:H a=some (.dK kvs)) :
  ∃ o es ep,(a == sysModules)=false∧s.heap.get? a=some o∧o.ExactDict∧o.data=.dict es ep∧ValsAre es kvs∧Inv X pins σ (upd H a (.frz o (.dK kvs))) s:=by
 obtain ⟨z,hd,vs,rel,dd⟩:=zb1 I.hok e
 obtain ⟨ep,o,es,h1,h2,h3,h4,h5,h6⟩:=dd.dictAt
 refine ⟨o,es,ep,hd,h1,h2,h3,⟨by rw [h5.length,← rel.length],fun i en hi=>?_⟩,?_⟩
 ·have hl:=rel.length
  have hv:i < vs.length:=by rw [← h5.length];exact (List.getElem?_eq_some_iff.mp hi).1
  have hx:vs[i]?=some vs[i]:=List.getElem?_eq_getElem hv
  have ev:en.val=vs[i].2:=(h5.get? (k:=vs[i].1) (v:=vs[i].2) hi hx).2
  obtain ⟨u,hu,ru⟩:=Vals.getU rel.vals (i:=i) (u:=vs[i].2) (by rw [List.getElem?_map,hx];rfl)
  exact ⟨u,hu,by rw [ev];exact ru⟩
 ·exact ya7 (h':=s.heap) (t':=s.toks) I (by rw [e];exact True.intro) ⟨rfl,fun _ _=>rfl⟩ ⟨o,h1⟩ ⟨h1,Ybz z hd rel dd⟩
noncomputable def ItVs (a:Addr) (o:Obj) (kvs:List (Key×V)):It:=⟨fun i H=>H a=some (.frz o (.dK kvs))∧i < kvs.length,fun i H y H'=>H'=H∧(kvs.map (·.2))[i]?=some y,fun i H=>H a=some (.frz o (.dK kvs))∧kvs.length≤i⟩
theorem ZbC {P:Program} {w:World} {K:PySem.W.Frag} {tg:Expr} (d it:Addr) (o:Obj) (kvs:List (Key×V)) (es:Array DictEntry) (ep:Nat) (hx:o.ExactDict) (hdd:o.data=.dict es ep) (hr:ValsAre es kvs) :
  Turn P w K tg (ItVs d o kvs) [it] it (fun i h=>h.IsValIter it d i es.size ep) where
 mem:=by simp
 obj:=fun i h st b hb=>by
  obtain rfl:b=it:=by simpa using hb
  obtain ⟨o,e,c,f⟩:=st
  exact ⟨o,e,fun v z=>by rw [f] at z;cases z⟩
 keep:=fun i h h' st k=>by
  obtain ⟨o,e,r⟩:=st
  exact ⟨o,k it (by simp) o e,r⟩
 item:=by
  intro X hP hw hX hc i pins s σ H E I hf st hg
  subst hP hw hX
  obtain ⟨f0,f1,f2,f3,f4,f5⟩:=hf it (by simp)
  obtain ⟨hH,hi⟩:=(show H d=some (.frz o (.dK kvs))∧i < kvs.length from hg)
  have hgo:s.heap.get? d=some o:=(show ObjOk X.prog X.w H s.heap d (.frz o (.dK kvs)) from I.hok d _ hH).1
  rw [← hr.1] at hi
  have hes:es[i]?=some es.toList[i]:=by simp
  obtain ⟨v,hv,rv⟩:=hr.2 i es.toList[i] (List.getElem?_eq_getElem hi)
  refine Xb2 st ⟨o,hgo,hx,hdd⟩ hes fun h' ik sb=>?_
  have I1:Inv X pins σ H { s with heap:=h' }:=I.turned (t':=s.toks) (fun b o hb e=>(sb.2 b hb).trans e) f0 f1 f3 f4 f5
  obtain ⟨o2,e2,c2,d2⟩:=id ik
  exact ⟨_,rfl,xbg (s:={ s with heap:=h' }) e2 c2 d2 (by decide) ⟨v,H,I1,rv,⟨rfl,hv⟩,ik,fun b hb=>(hf b hb).1⟩⟩
 done:=by
  intro X hP hw hX hc i pins s σ H E I hf st hg
  subst hP hw hX
  obtain ⟨f0,f1,f2,f3,f4,f5⟩:=hf it (by simp)
  obtain ⟨hH,hi⟩:=(show H d=some (.frz o (.dK kvs))∧kvs.length≤i from hg)
  have hgo:s.heap.get? d=some o:=(show ObjOk X.prog X.w H s.heap d (.frz o (.dK kvs)) from I.hok d _ hH).1
  rw [← hr.1] at hi
  exact vi_end (I.ok.hd hc) st ⟨o,hgo,hx,hdd⟩ (by simpa using hi) fun h' eb=>⟨rfl,I.turned (t':=s.toks) (fun b o hb e=>eb b o hb e) f0 f1 f3 f4 f5⟩
 self:=fun A i s Q E st h=>wpAny_pyIter_valiter st h
noncomputable def iVals (td:TE):TI:=fun σ H R=>td σ H fun x H1=>∃ a kvs,x=.ref a∧H1 a=some (.dK kvs)∧∀ o,R (ItVs a o kvs) (upd H1 a (.frz o (.dK kvs)))
theorem zb3 {X:Cx} {o tg:Expr} {td:TE} {apos cpos:Pos} (ho:PE X o td) (hbase:attributeBase o "values" X.env (eval o X.env)=eval o X.env:=by rfl) (hline:(apos.endLine == cpos.line)=true:=by rfl):PI X tg (.Call (.Attribute o "values" apos) [] [] cpos) (iVals td):=by
 intro pins s σ H R I h
 refine wpAny_Call_method0_late hbase hline (thn (ho pins s σ H _ I h) fun u s1 ⟨x,H1,I1,rx,a,kvs,ex,hH,q⟩=>?_)
 subst ex
 obtain rfl:u=Value.ref a:=rx
 obtain ⟨t1,t2,_⟩:=ybW I1 (a:=a) (.inl ⟨kvs,.inl hH⟩)
 obtain ⟨ob,es,ep,lo,h1,hx,hdd,hr,I2⟩:=I1.freeze hH
 refine ⟨"dict","dict.values",PySem.F.plainAttrs_dict,PySem.F.slot_dict_values,PySem.F.type_dict_values,t1,t2,Calls.callWith_builtin rfl (PySem.evalArgs_none ?_)⟩
 refine call_meetsIn PySem.F.slot_dict_values t1 PySem.F.entry_dict_values (PySem.F.args_dict_values_1 _) (ybC a lo) ⟨t1,?_⟩
 refine xb2 (v:=s1.heap.objs.size) (d:=a) ⟨_,Heap.get?_push_size _ rfl,rfl,rfl⟩ ⟨ob,Heap.get?_push_of_some _ h1,hx,hdd⟩ ?_
 have hz:(s1.heap.push { cls:=.type "dict_values",data:=.fields #[.ref a] }).objs.size=s1.heap.objs.size + 1:=size_push' ..
 refine ⟨_,[(s1.heap.push { cls:=.type "dict_values",data:=.fields #[.ref a] }).objs.size],_,_,_,rfl,I2.kept (t':=s1.toks) fun b o e=>Heap.get?_push_of_some _ (Heap.get?_push_of_some _ e),ZbC a _ ob kvs es ep hx hdd hr,⟨_,Heap.get?_push_size _ rfl,rfl,rfl⟩,fun b hb=>?_,q ob⟩
 obtain rfl:b=(s1.heap.push { cls:=.type "dict_values",data:=.fields #[.ref a] }).objs.size:=by simpa using hb
 exact I2.fpOk (by rw [hz];omega) (I2.hok.fresh (by rw [hz];omega))
end L2
namespace Mth
noncomputable def upto (n:Nat):List Int:=(List.range n).map fun (k:Nat)=>(k:Int)
theorem Zan (n:Nat):(upto n).length=n:=by simp [upto]
theorem yam {n:Nat} {x:Int}:x∈upto n↔0≤x∧x < (n:Int):=by
 simp only [upto,List.mem_map,List.mem_range]
 constructor
 ·rintro ⟨k,hk,rfl⟩;omega
 ·rintro ⟨h1,h2⟩;exact ⟨x.toNat,by omega,by omega⟩
theorem xaQ (n:Nat):(upto n).Pairwise (· < ·):=by
 unfold upto
 rw [List.pairwise_map]
 exact (List.pairwise_lt_range).imp fun h=>by omega
theorem xaT (n:Nat):(upto n).Nodup:=(xaQ n).imp fun h=>by omega
theorem YaZ:∀ {xs ys:List Int},xs.Nodup→(∀ x∈xs,x∈ys)→ys.length≤xs.length→xs.Perm ys
 | [],ys,_,_,h=>by
  have:ys=[]:=List.eq_nil_of_length_eq_zero (by simpa using h)
  subst this;exact List.Perm.refl _
 | x :: xs,ys,hn,hs,hl=>by
  obtain ⟨h1,h2⟩:=List.nodup_cons.mp hn
  have hx:x∈ys:=hs x List.mem_cons_self
  have hp:=List.perm_cons_erase hx
  have hlen:(ys.erase x).length + 1=ys.length:=by have:=hp.length_eq;simpa using this.symm
  refine List.Perm.trans (List.Perm.cons x (YaZ (ys:=ys.erase x) h2 (fun y hy=>?_) ?_)) hp.symm
  ·have hne:y≠x:=fun e=>h1 (e ▸ hy)
   exact (List.mem_erase_of_ne hne).mpr (hs y (List.mem_cons_of_mem _ hy))
  ·simp at hl;omega
theorem xaL {xs:List Int} (hn:xs.Nodup) (hb:∀ x∈xs,0≤x∧x < (xs.length:Int)):xs.Perm (upto xs.length):=by
 exact YaZ hn (fun x hx=>yam.mpr (hb x hx)) (by rw [Zan];exact Nat.le_refl _)
end Mth
namespace Mth
noncomputable def app (xs:List Int) (i:Int):Int:=xs.getD i.toNat 0
noncomputable def itr (xs:List Int) (i:Int):Nat→Int
 | 0=>i
 | j + 1=>app xs (itr xs i j)
noncomputable def Tn (n:Nat) (xs:List Int):Prop:=xs.Perm (upto n)
theorem Tn.length {n:Nat} {xs:List Int} (h:Tn n xs):xs.length=n:=by rw [h.length_eq,Zan]
theorem Tn.nodup {n:Nat} {xs:List Int} (h:Tn n xs):xs.Nodup:=h.nodup_iff.mpr (xaT n)
theorem Tn.bound {n:Nat} {xs:List Int} (h:Tn n xs) {x:Int} (hx:x∈xs):0≤x∧x < (n:Int):=yam.mp (h.subset hx)
theorem xaj {xs:List Int} {i:Int} (h0:0≤i) (h1:i < (xs.length:Int)):xs[i.toNat]?=some (app xs i):=by
 have:i.toNat < xs.length:=by omega
 unfold app
 rw [List.getD_eq_getElem?_getD,List.getElem?_eq_getElem this];rfl
theorem yb3 {xs:List Int} {i:Int} (h0:0≤i) (h1:i < (xs.length:Int)):app xs i∈xs:=List.mem_of_getElem? (xaj h0 h1)
theorem Tn.app {n:Nat} {xs:List Int} (h:Tn n xs) {i:Int} (h0:0≤i) (h1:i < (n:Int)):0≤app xs i∧app xs i < (n:Int):=h.bound (yb3 h0 (by rw [h.length];exact h1))
theorem Tn.inj {n:Nat} {xs:List Int} (h:Tn n xs) {i j:Int} (i0:0≤i) (i1:i < (n:Int)) (j0:0≤j) (j1:j < (n:Int)) (e:Mth.app xs i=Mth.app xs j):i=j:=by
 have hl:=h.length
 have a:=xaj i0 (by rw [hl];exact i1)
 have b:=xaj j0 (by rw [hl];exact j1)
 rw [e] at a
 obtain ⟨ha,ea⟩:=List.getElem?_eq_some_iff.mp a
 obtain ⟨hb,eb⟩:=List.getElem?_eq_some_iff.mp b
 have:=(List.getElem_inj h.nodup).mp (ea.trans eb.symm)
 omega
theorem Tn.itr {n:Nat} {xs:List Int} (h:Tn n xs) {i:Int} (h0:0≤i) (h1:i < (n:Int)):∀ j,0≤itr xs i j∧itr xs i j < (n:Int)
 | 0=>⟨h0,h1⟩
 | j + 1=>h.app (h.itr h0 h1 j).1 (h.itr h0 h1 j).2
theorem Tn.back {n:Nat} {xs:List Int} (h:Tn n xs) {i:Int} (h0:0≤i) (h1:i < (n:Int)):∀ (a d:Nat),Mth.itr xs i a=Mth.itr xs i (a + d)→Mth.itr xs i d=i
 | 0,d,e=>by rw [Nat.zero_add] at e;exact e.symm
 | a + 1,d,e=>by
  have e':Mth.app xs (Mth.itr xs i a)=Mth.app xs (Mth.itr xs i (a + d)):=by
   have:a + 1 + d=(a + d) + 1:=by omega
   rw [this] at e
   exact e
  exact h.back h0 h1 a d (h.inj (h.itr h0 h1 a).1 (h.itr h0 h1 a).2 (h.itr h0 h1 _).1 (h.itr h0 h1 _).2 e')
theorem ya8:∀ {xs ys:List Int},xs.Nodup→(∀ x∈xs,x∈ys)→xs.length≤ys.length
 | [],_,_,_=>Nat.zero_le _
 | x :: xs,ys,hn,hs=>by
  obtain ⟨h1,h2⟩:=List.nodup_cons.mp hn
  have hx:x∈ys:=hs x List.mem_cons_self
  have hp:=List.perm_cons_erase hx
  have hlen:(ys.erase x).length + 1=ys.length:=by have:=hp.length_eq;simpa using this.symm
  have:=ya8 (ys:=ys.erase x) h2 fun y hy=>(List.mem_erase_of_ne (a:=y) (b:=x) (fun e=>h1 (by rw [← e];exact hy))).mpr (hs y (List.mem_cons_of_mem _ hy))
  simp only [List.length_cons]
  omega
noncomputable def row (xs:List Int) (i:Int) (m:Nat):List Int:=(List.range (m + 1)).map (itr xs i)
theorem XbO (xs:List Int) (i:Int) (m:Nat):row xs i (m + 1)=row xs i m ++ [itr xs i (m + 1)]:=by
 unfold row;rw [List.range_succ,List.map_append];rfl
theorem xaM (xs:List Int) (i:Int) (m:Nat):(row xs i m).length=m + 1:=by simp [row]
theorem Xav {xs:List Int} {i:Int} {m:Nat} {x:Int}:x∈row xs i m↔∃ j,j≤m∧itr xs i j=x:=by
 unfold row
 rw [List.mem_map]
 constructor
 ·rintro ⟨j,hj,e⟩;exact ⟨j,by have:=List.mem_range.mp hj;omega,e⟩
 ·rintro ⟨j,hj,e⟩;exact ⟨j,List.mem_range.mpr (by omega),e⟩
noncomputable def NB (xs:List Int) (i:Int) (m:Nat):Prop:=∀ j,1≤j→j≤m→itr xs i j≠i
theorem Tn.row_le {n:Nat} {xs:List Int} (h:Tn n xs) {i:Int} (h0:0≤i) (h1:i < (n:Int)) {m:Nat} (nb:NB xs i m):m + 1≤n:=by
 have hn:(row xs i m).Nodup:=by
  unfold row List.Nodup
  rw [List.pairwise_map]
  refine List.Pairwise.imp_of_mem (R:=fun a b=>a < b) ?_ List.pairwise_lt_range
  intro a b ha hb hab e
  have ha':=List.mem_range.mp ha
  have hb':=List.mem_range.mp hb
  obtain ⟨d,rfl⟩:∃ d,b=a + d:=⟨b - a,by omega⟩
  exact nb d (by omega) (by omega) (h.back h0 h1 a d e)
 have:=ya8 hn (ys:=upto n) fun x hx=>by
  obtain ⟨j,_,rfl⟩:=Xav.mp hx
  exact yam.mpr (h.itr h0 h1 j)
 rw [xaM,Zan] at this
 exact this
structure IsRing (xs:List Int) (i:Int) (r:List Int):Prop where
 ex:∃ m,r=row xs i m∧NB xs i m∧itr xs i (m + 1)=i
theorem IsRing.unique {xs:List Int} {i:Int} {r r':List Int} (a:IsRing xs i r) (b:IsRing xs i r'):r=r':=by
 obtain ⟨m,e1,n1,b1⟩:=a.ex
 obtain ⟨m',e2,n2,b2⟩:=b.ex
 have:m=m':=by
  rcases Nat.lt_trichotomy m m' with h | h | h
  ·exact absurd b1 (n2 (m + 1) (by omega) (by omega))
  ·exact h
  ·exact absurd b2 (n1 (m' + 1) (by omega) (by omega))
 rw [e1,e2,this]
theorem IsRing.mem {xs:List Int} {i:Int} {r:List Int} (a:IsRing xs i r):i∈r:=by
 obtain ⟨m,e1,_,_⟩:=a.ex
 rw [e1];exact Xav.mpr ⟨0,Nat.zero_le _,rfl⟩
theorem IsRing.len {n:Nat} {xs:List Int} (h:Tn n xs) {i:Int} (h0:0≤i) (h1:i < (n:Int)) {r:List Int} (a:IsRing xs i r):r.length≤n:=by
 obtain ⟨m,e1,nb,_⟩:=a.ex
 rw [e1,xaM];exact h.row_le h0 h1 nb
theorem IsRing.bound {n:Nat} {xs:List Int} (h:Tn n xs) {i:Int} (h0:0≤i) (h1:i < (n:Int)) {r:List Int} (a:IsRing xs i r):∀ x∈r,0≤x∧x < (n:Int):=by
 obtain ⟨m,e1,nb,_⟩:=a.ex
 subst e1
 intro x hx
 obtain ⟨j,_,rfl⟩:=Xav.mp hx
 exact h.itr h0 h1 j
noncomputable def out (left r:List Int):List Int:=left.filter fun k=>!r.contains k
inductive Rgs (xs:List Int):List Int→List (List Int)→Prop
 | nil:Rgs xs [] []
 | cons {i:Int} {left r:List Int} {rs:List (List Int)}:IsRing xs i r→Rgs xs (out (i :: left) r) rs→Rgs xs (i :: left) (r :: rs)
theorem Rgs.unique {xs:List Int}:∀ {left:List Int} {rs rs':List (List Int)},Rgs xs left rs→Rgs xs left rs'→rs=rs':=by
 intro left rs rs' a
 induction a generalizing rs' with
 | nil=>intro b;cases b;rfl
 | cons h1 _ ih =>
  intro b
  cases b with
  | cons h2 t2 =>
   cases h1.unique h2
   rw [ih t2]
noncomputable def from' (n k:Nat) (seen:Int→Bool):List Int:=(((List.range n).drop k).map fun (j:Nat)=>(j:Int)).filter fun x=>!seen x
theorem zbP (n:Nat) (seen:Int→Bool):from' n n seen=[]:=by
 unfold from';rw [List.drop_of_length_le (by simp)];rfl
theorem YbC {n k:Nat} (h:k < n) (seen:Int→Bool):from' n k seen=if seen (k:Int) then from' n (k + 1) seen else (k:Int) :: from' n (k + 1) seen:=by
 unfold from'
 rw [List.drop_eq_getElem_cons (by simpa using h),List.map_cons,List.filter_cons]
 simp only [List.getElem_range]
 cases hs:seen (k:Int) <;> simp
theorem ybP {n k:Nat} {seen:Int→Bool} {r:List Int}:out (from' n k seen) r=from' n k (fun x=>seen x || r.contains x):=by
 unfold out from'
 rw [List.filter_filter]
 congr 1
 funext x
 show (!r.contains x && !seen x)=!(seen x || r.contains x)
 cases seen x <;> cases r.contains x <;> rfl
theorem xbC (n:Nat):from' n 0 (fun _=>false)=upto n:=by
 unfold from' upto
 rw [List.drop_zero]
 simp
noncomputable def form1 (n:Nat):List Int:=((List.range (n - 1)).map fun (k:Nat)=>(1:Int) + k) ++ [0]
theorem ZbP:∀ n,n < 21→0 < n→(form1 n).isPerm (upto n)=true:=by decide
theorem Ybn {n:Nat} (h:n < 21) (h0:0 < n):Tn n (form1 n):=List.isPerm_iff.mp (ZbP n h h0)
end Mth
namespace Mth
theorem xbn {n:Nat} {xs:List Int} (h:xs.length=n):(upto n).map (app xs)=xs:=by
 apply List.ext_getElem
 ·rw [List.length_map,Zan,h]
 ·intro i h1 h2
  have e:=xaj (xs:=xs) (i:=(i:Int)) (by omega) (by omega)
  simp only [Int.toNat_natCast] at e
  rw [List.getElem?_eq_getElem h2] at e
  rw [List.getElem_map]
  unfold upto
  simp only [List.getElem_map,List.getElem_range]
  exact (Option.some.inj e).symm
noncomputable def inv (xs:List Int):List Int:=(upto xs.length).map fun i=>(xs.idxOf i:Int)
theorem yaG (xs:List Int):(inv xs).length=xs.length:=by unfold inv;rw [List.length_map,Zan]
theorem YbP {n i:Nat} (h:i < n):(upto n)[i]?=some (i:Int):=by
 unfold upto;rw [List.getElem?_map,List.getElem?_range h];rfl
theorem xaZ {xs:List Int} {i:Int} (h0:0≤i) (h1:i < (xs.length:Int)):app (inv xs) i=(xs.idxOf i:Int):=by
 have e:=xaj (xs:=inv xs) h0 (by rw [yaG];exact h1)
 unfold inv at e
 rw [List.getElem?_map,YbP (by omega)] at e
 have:=Option.some.inj e
 rw [← inv] at this
 rw [← this,Int.toNat_of_nonneg h0]
theorem Tn.mem {n:Nat} {xs:List Int} (h:Tn n xs) {i:Int} (h0:0≤i) (h1:i < (n:Int)):i∈xs:=h.symm.subset (yam.mpr ⟨h0,h1⟩)
theorem Tn.idx {n:Nat} {xs:List Int} (h:Tn n xs) {i:Int} (h0:0≤i) (h1:i < (n:Int)):xs.idxOf i < n:=by rw [← h.length];exact List.idxOf_lt_length_of_mem (h.mem h0 h1)
theorem Tn.app_inv {n:Nat} {xs:List Int} (h:Tn n xs) {i:Int} (h0:0≤i) (h1:i < (n:Int)):Mth.app xs (Mth.app (inv xs) i)=i:=by
 rw [xaZ h0 (by rw [h.length];exact h1)]
 have hl:=h.idx h0 h1
 have e:=xaj (xs:=xs) (i:=(xs.idxOf i:Int)) (by omega) (by rw [h.length];omega)
 rw [Int.toNat_natCast,List.getElem?_eq_getElem (by rw [h.length];exact hl)] at e
 rw [← Option.some.inj e]
 exact List.getElem_idxOf _
theorem Tn.invB {n:Nat} {xs:List Int} (h:Tn n xs) {i:Int} (h0:0≤i) (h1:i < (n:Int)):0≤Mth.app (inv xs) i∧Mth.app (inv xs) i < (n:Int):=by
 rw [xaZ h0 (by rw [h.length];exact h1)]
 have:=h.idx h0 h1
 omega
theorem Tn.inv_tn {n:Nat} {xs:List Int} (h:Tn n xs):Tn n (inv xs):=by
 have hl:=h.length
 unfold Tn
 have e:(inv xs).length=n:=by rw [yaG,hl]
 have:=xaL (xs:=inv xs) ?_ ?_
 ·rw [e] at this;exact this
 ·unfold List.Nodup
  rw [List.pairwise_iff_getElem]
  intro i j hi hj hij z
  have a:=xaj (xs:=inv xs) (i:=(i:Int)) (by omega) (by omega)
  have b:=xaj (xs:=inv xs) (i:=(j:Int)) (by omega) (by omega)
  rw [Int.toNat_natCast,List.getElem?_eq_getElem hi] at a
  rw [Int.toNat_natCast,List.getElem?_eq_getElem hj] at b
  have a:=Option.some.inj a
  have b:=Option.some.inj b
  have c:=h.app_inv (i:=(i:Int)) (by omega) (by omega)
  have d:=h.app_inv (i:=(j:Int)) (by omega) (by omega)
  rw [← a] at c
  rw [← b,← z] at d
  have:=c.symm.trans d
  omega
 ·intro x hx
  unfold inv at hx
  obtain ⟨i,hi,rfl⟩:=List.mem_map.mp hx
  have:=yam.mp hi
  rw [hl] at this
  have:=h.idx this.1 this.2
  rw [e];omega
theorem XaT (xs:List Int) (i:Int) (j:Nat):∀ d,itr xs (itr xs i j) d=itr xs i (j + d)
 | 0=>rfl
 | d + 1=>by show app xs (itr xs (itr xs i j) d)=app xs (itr xs i (j + d));rw [XaT xs i j d]
theorem XbC {xs:List Int} {i:Int} {L:Nat} (h:itr xs i L=i) (a:Nat):itr xs i (a + L)=itr xs i a:=by
 rw [Nat.add_comm,← XaT xs i L a,h]
theorem Xbi {xs:List Int} {i:Int} {L:Nat} (h:itr xs i L=i):∀ (q r:Nat),itr xs i (r + L * q)=itr xs i r
 | 0,r=>rfl
 | q + 1,r=>by rw [Nat.mul_succ,← Nat.add_assoc,XbC h];exact Xbi h q r
theorem Rgs.all {xs:List Int}:∀ {left:List Int} {rs:List (List Int)},Rgs xs left rs→(∀ r∈rs,∃ i∈left,IsRing xs i r)∧∀ x∈left,∃ r∈rs,x∈r:=by
 intro left rs a
 induction a with
 | nil=>exact ⟨fun r hr=>(nomatch hr),fun x hx=>(nomatch hx)⟩
 | cons h1 _ ih =>
  refine ⟨fun r hr=>?_,fun x hx=>?_⟩
  ·rcases List.mem_cons.mp hr with rfl | hr
   ·exact ⟨_,List.mem_cons_self,h1⟩
   ·obtain ⟨i,hi,r'⟩:=ih.1 r hr
    exact ⟨i,(List.mem_filter.mp hi).1,r'⟩
  ·rename_i i left r rs _
   by_cases hc:x∈r
   ·exact ⟨r,List.mem_cons_self,hc⟩
   ·obtain ⟨r',hr',hx'⟩:=ih.2 x (List.mem_filter.mpr ⟨hx,by simp [hc]⟩)
    exact ⟨r',List.mem_cons_of_mem _ hr',hx'⟩
end Mth
namespace Mth
inductive Rch (xs ys:List Int):Int→Prop
 | zero:Rch xs ys 0
 | r {x:Int}:Rch xs ys x→Rch xs ys (app xs x)
 | u {x:Int}:Rch xs ys x→Rch xs ys (app ys x)
theorem Rch.bound {n:Nat} {xs ys:List Int} (hx:Tn n xs) (hy:Tn n ys) (h0:0 < n) {x:Int} (h:Rch xs ys x):0≤x∧x < (n:Int):=by
 induction h with
 | zero=>omega
 | r _ ih=>exact hx.app ih.1 ih.2
 | u _ ih=>exact hy.app ih.1 ih.2
theorem Rch.itr {xs ys:List Int} {x:Int} (h:Rch xs ys x):∀ k,Rch xs ys (Mth.itr xs x k)
 | 0=>h
 | k + 1=>.r (h.itr k)
noncomputable def swp (xs:List Int) (m:Nat):List Int:=(xs.set 0 (app xs m)).set m (app xs 0)
theorem zbu (xs:List Int) (m:Nat):(swp xs m).length=xs.length:=by simp [swp]
theorem zbD {xs:List Int} {m:Nat} {v x:Int} (hm:m < xs.length) (h0:0≤x):app (xs.set m v) x=if x=(m:Int) then v else app xs x:=by
 unfold app
 rw [List.getD_eq_getElem?_getD,List.getD_eq_getElem?_getD]
 by_cases hx:x=(m:Int)
 ·rw [if_pos hx,hx,Int.toNat_natCast,List.getElem?_set_self hm];rfl
 ·rw [if_neg hx,List.getElem?_set_ne (by omega)]
theorem zaU {xs:List Int} {m:Nat} (hm:m < xs.length) {x:Int} (h0:0≤x):app (swp xs m) x=if x=(m:Int) then app xs 0 else if x=0 then app xs m else app xs x:=by
 unfold swp
 rw [zbD (by simpa using hm) h0,zbD (by omega) h0]
 rfl
theorem swp_tn {n:Nat} {xs:List Int} (h:Tn n xs) {m:Nat} (hm:m < n):Tn n (swp xs m):=by
 have hl:=h.length
 have e:(swp xs m).length=n:=by rw [zbu,hl]
 have:=xaL (xs:=swp xs m) ?_ ?_
 ·unfold Tn;rw [e] at this;exact this
 ·unfold List.Nodup
  rw [List.pairwise_iff_getElem]
  intro i j hi hj hij z
  have a:=xaj (xs:=swp xs m) (i:=(i:Int)) (by omega) (by omega)
  have b:=xaj (xs:=swp xs m) (i:=(j:Int)) (by omega) (by omega)
  rw [Int.toNat_natCast,List.getElem?_eq_getElem hi] at a
  rw [Int.toNat_natCast,List.getElem?_eq_getElem hj] at b
  have a:=Option.some.inj a
  have b:=Option.some.inj b
  rw [zaU (by omega) (by omega)] at a b
  rw [a,b] at z
  have inj:∀ p q:Int,0≤p→p < (n:Int)→0≤q→q < (n:Int)→app xs p=app xs q→p=q:=fun p q p0 p1 q0 q1=>h.inj p0 p1 q0 q1
  split at z <;> split at z <;> (try split at z) <;> (try split at z) <;> (first | omega | (have:=inj _ _ (by omega) (by omega) (by omega) (by omega) z;omega))
 ·intro x hx
  obtain ⟨i,hi,rfl⟩:=List.getElem_of_mem hx
  have a:=xaj (xs:=swp xs m) (i:=(i:Int)) (by omega) (by omega)
  rw [Int.toNat_natCast,List.getElem?_eq_getElem hi] at a
  rw [Option.some.inj a,zaU (by omega) (by omega),e]
  split
  ·exact h.app (by omega) (by omega)
  ·split
   ·exact h.app (by omega) (by omega)
   ·exact h.app (by omega) (by omega)
theorem Tn.back_ex {n:Nat} {xs:List Int} (h:Tn n xs) {i:Int} (h0:0≤i) (h1:i < (n:Int)):∃ m,NB xs i m∧Mth.itr xs i (m + 1)=i:=by
 by_cases hb:∃ m,m < n∧Mth.itr xs i (m + 1)=i
 ·-- the least
  have key:∀ b:Nat,(∃ m,m < b∧Mth.itr xs i (m + 1)=i)→∃ m,NB xs i m∧Mth.itr xs i (m + 1)=i:=by
   intro b
   induction b with
   | zero=>rintro ⟨m,hm,_⟩;omega
   | succ b ih =>
    rintro ⟨m,hm,e⟩
    by_cases hc:∃ m,m < b∧Mth.itr xs i (m + 1)=i
    ·exact ih hc
    ·refine ⟨m,fun j j1 j2 z=>hc ⟨j - 1,by omega,?_⟩,e⟩
     have:j - 1 + 1=j:=by omega
     rw [this];exact z
  exact key n hb
 ·have nb:NB xs i n:=fun j j1 j2 z=>by
   refine hb ⟨j - 1,by omega,?_⟩
   have:j - 1 + 1=j:=by omega
   rw [this];exact z
  have:=h.row_le h0 h1 nb
  omega
theorem Zb3 {n:Nat} {xs ys:List Int} (hx:Tn n xs) (hy:Tn n ys) {m:Nat} (hm:m < n) (nm:¬ Rch xs ys (m:Int)):Rch (swp xs m) ys (m:Int)∧∀ x,Rch xs ys x→Rch (swp xs m) ys x:=by
 have hl:=hx.length
 have m0:m≠0:=fun z=>nm (by rw [z];exact .zero)
 obtain ⟨M,nb,bk⟩:=hx.back_ex (i:=(m:Int)) (by omega) (by omega)
 have no0:∀ j,Mth.itr xs (m:Int) j≠0:=by
  intro j z
  have h':Rch xs ys (Mth.itr xs (Mth.itr xs (m:Int) j) ((M + 1) * j)):=by rw [z];exact Rch.zero.itr _
  rw [XaT] at h'
  have e2:Mth.itr xs (m:Int) ((M + 1) * (j + 1))=(m:Int):=by
   have:=Xbi bk (j + 1) 0
   rw [Nat.zero_add] at this
   exact this
  have h3:=h'.itr ((M + 1) * (j + 1) - (j + (M + 1) * j))
  rw [XaT] at h3
  have e3:j + (M + 1) * j + ((M + 1) * (j + 1) - (j + (M + 1) * j))=if j + (M + 1) * j≤(M + 1) * (j + 1) then (M + 1) * (j + 1) else j + (M + 1) * j:=by split <;> omega
  rw [e3] at h3
  by_cases hc:j + (M + 1) * j≤(M + 1) * (j + 1)
  ·rw [if_pos hc,e2] at h3
   exact nm h3
  ·-- round as often as needed
   have h4:=h'.itr ((M + 1) * (2 * j + 2) - (j + (M + 1) * j))
   rw [XaT] at h4
   have hbig:j + (M + 1) * j≤(M + 1) * (2 * j + 2):=by
    have a1:(M + 1) * (2 * j + 2)=(M + 1) * j + ((M + 1) * j + (M + 1) * 2):=by rw [← Nat.mul_add,← Nat.mul_add];congr 1;omega
    have a2:j≤(M + 1) * j:=Nat.le_mul_of_pos_left j (by omega)
    omega
   have e5:j + (M + 1) * j + ((M + 1) * (2 * j + 2) - (j + (M + 1) * j))=(M + 1) * (2 * j + 2):=by omega
   rw [e5] at h4
   have:=Xbi bk (2 * j + 2) 0
   rw [Nat.zero_add] at this
   rw [this] at h4
   exact nm h4
 have ring:∀ j,j≤M→Rch (swp xs m) ys (Mth.itr xs (m:Int) (j + 1)):=by
  intro j
  induction j with
  | zero =>
   intro _
   have h1:Rch (swp xs m) ys (Mth.app (swp xs m) 0):=.r .zero
   rw [zaU (by omega) (by omega),if_neg (by omega),if_pos rfl] at h1
   exact h1
  | succ j ih =>
   intro hj
   have h1:=(ih (by omega)).r
   have b:=hx.itr (i:=(m:Int)) (by omega) (by omega) (j + 1)
   rw [zaU (by omega) b.1,if_neg (nb (j + 1) (by omega) (by omega)),if_neg (no0 (j + 1))] at h1
   exact h1
 have hmm:Rch (swp xs m) ys (m:Int):=by have:=ring M (Nat.le_refl _);rwa [bk] at this
 refine ⟨hmm,fun x h=>?_⟩
 have hpos:0 < n:=by omega
 induction h with
 | zero=>exact .zero
 | r hx' ih =>
  rename_i x
  have b:=hx'.bound hx hy hpos
  by_cases h0:x=0
  ·have h1:=hmm.r
   rw [zaU (by omega) (by omega),if_pos rfl] at h1
   rw [h0];exact h1
  ·have hxm:x≠(m:Int):=fun z=>nm (by rw [← z];exact hx')
   have h1:=ih.r
   rw [zaU (by omega) b.1,if_neg hxm,if_neg h0] at h1
   exact h1
 | u _ ih=>exact ih.u
noncomputable def Cl (xs ys F:List Int):Prop:=∀ x∈F,app xs x∈F∧app ys x∈F
theorem Cl.all {xs ys F:List Int} (h:Cl xs ys F) (h0:(0:Int)∈F) {x:Int} (r:Rch xs ys x):x∈F:=by
 induction r with
 | zero=>exact h0
 | r _ ih=>exact (h _ ih).1
 | u _ ih=>exact (h _ ih).2
structure Fd (xs ys:List Int) (F:List Int):Prop where
 z:(0:Int)∈F
 nd:F.Nodup
 mt:∀ x∈F,Rch xs ys x
theorem Fd.len {n:Nat} {xs ys F:List Int} (h:Fd xs ys F) (hx:Tn n xs) (hy:Tn n ys) (h0:0 < n):F.length≤n:=by
 have:=ya8 h.nd (ys:=upto n) fun x hx'=>yam.mpr ((h.mt x hx').bound hx hy h0)
 rw [Zan] at this
 exact this
theorem Fd.one (xs ys:List Int):Fd xs ys [0]:=⟨by simp,by simp,fun x hx=>(show x=0 by simpa using hx) ▸ .zero⟩
theorem round {xs ys F F1 F2:List Int} (d:Fd xs ys F) (d2:Fd xs ys F2) (p1:F <+: F1) (p2:F1 <+: F2) (c1:∀ x∈F,app xs x∈F1) (c2:∀ x∈F1,app ys x∈F2) {t:Nat} (h:Cl xs ys F∨t + 1≤F.length):Cl xs ys F2∨t + 1 + 1≤F2.length:=by
 have p:=p1.trans p2
 by_cases hc:Cl xs ys F
 ·refine .inl fun x hx=>?_
  have hF:=hc.all d.z (d2.mt x hx)
  exact ⟨p.subset (hc x hF).1,p.subset (hc x hF).2⟩
 ·have hl:=h.resolve_left hc
  by_cases he:F2.length≤F.length
  ·refine absurd ?_ hc
   have e2:F2=F:=(p.eq_of_length (by have:=p.length_le;omega)).symm
   have e1:F1=F:=by
    have a:=p1.length_le
    have b:=p2.length_le
    exact (p1.eq_of_length (by omega)).symm
   intro x hx
   refine ⟨?_,?_⟩
   ·have:=c1 x hx;rwa [e1] at this
   ·have:=c2 x (by rw [e1];exact hx);rwa [e2] at this
  ·exact .inr (by omega)
noncomputable def rowR (w n:Nat):List Int:=((List.range (w - 1)).map fun (k:Nat)=>(1:Int) + k) ++ [0] ++ ((List.range (n - w)).map fun (k:Nat)=>(w:Int) + k)
noncomputable def colU (w n:Nat):List Int:=[(w:Int)] ++ ((List.range (w - 1)).map fun (k:Nat)=>(1:Int) + k) ++ ((List.range (n - (w + 1))).map fun (k:Nat)=>((w:Int) + 1) + k) ++ [0]
theorem Yb3:∀ n,n < 21→∀ w,w < n + 1→0 < w→(rowR w n).isPerm (upto n)=true:=by decide +kernel
theorem xb3:∀ n,n < 21→∀ w,w < n→0 < w→(colU w n).isPerm (upto n)=true:=by decide +kernel
theorem Xb3 {w n:Nat} (h:n < 21) (h1:w≤n) (h0:0 < w):Tn n (rowR w n):=List.isPerm_iff.mp (Yb3 n h w (by omega) h0)
theorem zb4 {w n:Nat} (h:n < 21) (h1:w < n) (h0:0 < w):Tn n (colU w n):=List.isPerm_iff.mp (xb3 n h w h1 h0)
theorem less {L L':List Int} {m:Int} (nd:L'.Nodup) (hs:∀ x∈L',x∈L) (hm:m∈L) (hm':m ∉ L'):L'.length < L.length:=by
 have hp:=List.perm_cons_erase hm
 have hlen:(L.erase m).length + 1=L.length:=by have:=hp.length_eq;simpa using this.symm
 have:=ya8 (ys:=L.erase m) nd fun x hx=>(List.mem_erase_of_ne (fun e=>hm' (by rw [← e];exact hx))).mpr (hs x hx)
 omega
end Mth
namespace Mth
noncomputable def fol (xs ys:List Int):List Int:=xs.map (app ys)
theorem ZaG (xs ys:List Int):(fol xs ys).length=xs.length:=by simp [fol]
theorem yb4 {n:Nat} {xs ys:List Int} (hx:xs.length=n) (hy:ys.length=n) (h:∀ s:Int,0≤s→s < (n:Int)→app xs s=app ys s):xs=ys:=by
 rw [← xbn hx,← xbn hy]
 apply List.map_congr_left
 intro s hs
 obtain ⟨h0,h1⟩:=yam.mp hs
 exact h s h0 h1
theorem yaU {xs ys:List Int} {s:Int} (h0:0≤s) (h1:s < (xs.length:Int)):app (fol xs ys) s=app ys (app xs s):=by
 have e:=xaj (xs:=fol xs ys) h0 (by rw [ZaG];exact h1)
 unfold fol at e
 rw [List.getElem?_map,xaj h0 h1] at e
 exact (Option.some.inj e).symm
theorem Tn.of_inj {n:Nat} {xs:List Int} (hl:xs.length=n) (hb:∀ s:Int,0≤s→s < (n:Int)→0≤Mth.app xs s∧Mth.app xs s < (n:Int)) (hi:∀ s t:Int,0≤s→s < (n:Int)→0≤t→t < (n:Int)→Mth.app xs s=Mth.app xs t→s=t):Tn n xs:=by
 have el:∀ (i:Nat) (h:i < xs.length),xs[i]=Mth.app xs (i:Int):=fun i h=>by
  have a:=xaj (xs:=xs) (i:=(i:Int)) (by omega) (by omega)
  rw [Int.toNat_natCast,List.getElem?_eq_getElem h] at a
  exact Option.some.inj a
 have:=xaL (xs:=xs) ?_ ?_
 ·unfold Tn;rw [hl] at this;exact this
 ·unfold List.Nodup
  rw [List.pairwise_iff_getElem]
  intro i j h1 h2 hij z
  rw [el i h1,el j h2] at z
  have:=hi i j (by omega) (by omega) (by omega) (by omega) z
  omega
 ·intro x hx
  obtain ⟨i,h,rfl⟩:=List.getElem_of_mem hx
  rw [el i h,hl]
  exact hb i (by omega) (by omega)
theorem Tn.fol {n:Nat} {xs ys:List Int} (hx:Tn n xs) (hy:Tn n ys):Tn n (fol xs ys):=by
 have hl:=hx.length
 refine Tn.of_inj (by rw [ZaG];exact hl) (fun s h0 h1=>?_) fun s t s0 s1 t0 t1 e=>?_
 ·rw [yaU h0 (by omega)]
  obtain ⟨a,b⟩:=hx.app h0 h1
  exact hy.app a b
 ·rw [yaU s0 (by omega),yaU t0 (by omega)] at e
  obtain ⟨a,b⟩:=hx.app s0 s1
  obtain ⟨c,d⟩:=hx.app t0 t1
  exact hx.inj s0 s1 t0 t1 (hy.inj a b c d e)
end Mth
namespace Mth
section
variable {n:Nat} {xs ys:List Int} {s:Int}
end
end Mth
namespace Mth
section
variable {n:Nat} {xs:List Int} {i:Int}
end
end Mth
namespace Mth
noncomputable def tb (l:Int→Nat) (p:Int→Int) (a b:Int):Bool:=if l a=l b∨l (p a)=l (p b) then false else (decide (l a < l b)).xor (decide (l (p a) < l (p b)))
section
variable {n:Nat} {L:List Int} {l:Int→Nat}
noncomputable def rnd (xs ys:List Int):List Int:=fol (fol xs ys) (fol (inv xs) (inv ys))
theorem Tn.rnd {xs ys:List Int} (hx:Tn n xs) (hy:Tn n ys):Tn n (rnd xs ys):=(hx.fol hy).fol (hx.inv_tn.fol hy.inv_tn)
end
end Mth
namespace Mth
theorem IsRing.step {xs r:List Int} {i:Int} (h:IsRing xs i r) {a:Int} (ha:a∈r):app xs a∈r:=by
 obtain ⟨m,e,_,bk⟩:=h.ex
 subst e
 obtain ⟨j,hj,rfl⟩:=Xav.mp ha
 by_cases q:j=m
 ·subst q
  exact Xav.mpr ⟨0,Nat.zero_le _,bk.symm⟩
 ·exact Xav.mpr ⟨j + 1,by omega,rfl⟩
theorem IsRing.nodup {n:Nat} {xs r:List Int} {i:Int} (h:Tn n xs) (h0:0≤i) (h1:i < (n:Int)) (a:IsRing xs i r):r.Nodup:=by
 obtain ⟨m,e,nb,_⟩:=a.ex
 subst e
 unfold row List.Nodup
 rw [List.pairwise_map]
 refine List.Pairwise.imp_of_mem (R:=fun a b=>a < b) ?_ List.pairwise_lt_range
 intro a b ha hb hab e
 have hb':=List.mem_range.mp hb
 obtain ⟨d,rfl⟩:∃ d,b=a + d:=⟨b - a,by omega⟩
 exact nb d (by omega) (by omega) (h.back h0 h1 a d e)
theorem IsRing.unstep {n:Nat} {xs r:List Int} {i:Int} (h:Tn n xs) (h0:0≤i) (h1:i < (n:Int)) (a:IsRing xs i r) {x:Int} (x0:0≤x) (x1:x < (n:Int)) (hx:app xs x∈r):x∈r:=by
 obtain ⟨m,e,nb,bk⟩:=a.ex
 subst e
 obtain ⟨j,hj,e⟩:=Xav.mp hx
 cases j with
 | zero =>
  have e':app xs (itr xs i m)=app xs x:=bk.trans e
  have:=h.inj (h.itr h0 h1 m).1 (h.itr h0 h1 m).2 x0 x1 e'
  exact Xav.mpr ⟨m,Nat.le_refl _,this⟩
 | succ j =>
  have e':app xs (itr xs i j)=app xs x:=e
  have:=h.inj (h.itr h0 h1 j).1 (h.itr h0 h1 j).2 x0 x1 e'
  exact Xav.mpr ⟨j,by omega,this⟩
theorem Rgs.perm {n:Nat} {xs:List Int} (h:Tn n xs):∀ {left:List Int} {rs:List (List Int)},Rgs xs left rs→left.Nodup→(∀ x∈left,(0≤x∧x < (n:Int))∧app xs x∈left)→rs.flatten.Perm left:=by
 intro left rs a
 induction a with
 | nil=>intro _ _;exact List.Perm.refl _
 | cons h1 _ ih =>
  rename_i i left r rs _
  intro nd cl
  obtain ⟨i0,i1⟩:=(cl i List.mem_cons_self).1
  have sub:∀ x∈r,x∈i :: left:=by
   obtain ⟨m,e,_,_⟩:=h1.ex
   subst e
   have:∀ j,itr xs i j∈i :: left:=fun j=>by
    induction j with
    | zero=>exact List.mem_cons_self
    | succ j ih=>exact (cl _ ih).2
   intro x hx
   obtain ⟨j,_,rfl⟩:=Xav.mp hx
   exact this j
  have p:=ih (List.Pairwise.sublist List.filter_sublist nd) (fun x hx=>by
   obtain ⟨hx1,hx2⟩:=List.mem_filter.mp hx
   have nr:x ∉ r:=by simpa using hx2
   obtain ⟨b,c⟩:=cl x hx1
   exact ⟨b,List.mem_filter.mpr ⟨c,by simpa using fun z=>nr (h1.unstep h i0 i1 b.1 b.2 z)⟩⟩)
  rw [List.flatten_cons]
  refine (List.Perm.append_left r p).trans ?_
  refine (List.perm_ext_iff_of_nodup ?_ nd).mpr ?_
  ·refine List.nodup_append.mpr ⟨h1.nodup h i0 i1,List.Pairwise.sublist List.filter_sublist nd,?_⟩
   intro a ha b hb e
   subst e
   have:=(List.mem_filter.mp hb).2
   simp [ha] at this
  ·intro x
   rw [List.mem_append]
   constructor
   ·rintro (q | q)
    ·exact sub x q
    ·exact (List.mem_filter.mp q).1
   ·intro q
    by_cases c:x∈r
    ·exact .inl c
    ·exact .inr (List.mem_filter.mpr ⟨q,by simp [c]⟩)
theorem Rgs.xaL {n:Nat} {xs:List Int} (h:Tn n xs) {rs:List (List Int)} (a:Rgs xs (upto n) rs):rs.flatten.Perm (upto n) :=
 a.perm h (xaT n) fun x hx=>⟨yam.mp hx,yam.mpr (h.app (yam.mp hx).1 (yam.mp hx).2)⟩
end Mth
namespace Mth
abbrev Sp:=Bool×Int
theorem t3 {k:Int} (h:1≤k∧k≤3):k=1∨k=2∨k=3:=by omega
end Mth
namespace Mth
abbrev Flo:=List Int×List Int
end Mth
namespace Mth
section
variable {n:Nat} {a b c g x y:List Int}
end
section
variable {n:Nat} {p q r:Flo}
end
section
variable {n:Nat} {p q r:Flo}
noncomputable def big:List Int→Prop
 | []=>True
 | [_]=>True
 | j :: b :: ks=>(2≤j∨j≤-2)∧big (b :: ks)
end
section
variable {n:Nat} {p q:Flo}
end
end Mth
namespace Mth
section
variable {n:Nat} {p q:Flo} {g h:List Int} {s t:Int}
end
end Mth
namespace Mth
section
variable {n:Nat} {xs ys r r' r2:List Int} {i j x y:Int}
theorem IsRing.go (h:IsRing xs i r) (hx:x∈r) (hy:y∈r):∃ k,y=itr xs x k:=by
 obtain ⟨m,e,_,bk⟩:=h.ex
 subst e
 obtain ⟨a,ha,rfl⟩:=Xav.mp hx
 obtain ⟨b,hb,rfl⟩:=Xav.mp hy
 refine ⟨b + (m + 1) - a,?_⟩
 rw [XaT,show a + (b + (m + 1) - a)=b + (m + 1) by omega]
 exact (XbC bk b).symm
theorem IsRing.itr_mem (h:IsRing xs i r) (hx:x∈r):∀ k,itr xs x k∈r
 | 0=>hx
 | k + 1=>h.step (h.itr_mem hx k)
theorem Ybe (h:IsRing xs i r) (h':IsRing xs j r') (hx:x∈r) (hx':x∈r') (hy:y∈r):y∈r':=by
 obtain ⟨k,rfl⟩:=h.go hx hy
 exact h'.itr_mem hx' k
noncomputable def Rw (n:Nat) (xs r:List Int):Prop:=∃ i:Int,(0≤i∧i < (n:Int))∧IsRing xs i r∧∀ x∈r,i≤x
theorem Rw.eq (a:Rw n xs r) (b:Rw n xs r') (hx:x∈r) (hx':x∈r'):r=r':=by
 obtain ⟨i,bi,ri,li⟩:=a
 obtain ⟨j,bj,rj,lj⟩:=b
 have h1:=lj i (Ybe ri rj hx hx' ri.mem)
 have h2:=li j (Ybe rj ri hx' hx rj.mem)
 have:i=j:=by omega
 subst this
 exact ri.unique rj
theorem Rw.bound (tx:Tn n xs) (a:Rw n xs r):∀ x∈r,0≤x∧x < (n:Int):=by
 obtain ⟨i,bi,ri,li⟩:=a
 exact ri.bound tx bi.1 bi.2
theorem Rw.len (tx:Tn n xs) (a:Rw n xs r):r.length≤n:=by
 obtain ⟨i,bi,ri,li⟩:=a
 exact ri.len tx bi.1 bi.2
theorem Rw.one (a:Rw n xs r):∃ x,x∈r:=let ⟨i,_,ri,_⟩:=a;⟨i,ri.mem⟩
theorem Rgs.rw' (tx:Tn n xs):∀ {left:List Int} {rs:List (List Int)},Rgs xs left rs→left.Pairwise (· < ·)→(∀ x∈left,(0≤x∧x < (n:Int))∧app xs x∈left)→∀ r∈rs,Rw n xs r:=by
 intro left rs a
 induction a with
 | nil=>intro _ _ r hr;cases hr
 | cons h1 _ ih =>
  rename_i i left r rs _
  intro nd cl q hq
  obtain ⟨i0,i1⟩:=(cl i List.mem_cons_self).1
  have sub:∀ x∈r,x∈i :: left:=by
   obtain ⟨m,e,_,_⟩:=h1.ex
   subst e
   have:∀ j,itr xs i j∈i :: left:=fun j=>by
    induction j with
    | zero=>exact List.mem_cons_self
    | succ j ih=>exact (cl _ ih).2
   intro x hx
   obtain ⟨j,_,rfl⟩:=Xav.mp hx
   exact this j
  rcases List.mem_cons.mp hq with rfl | hq
  ·refine ⟨i,⟨i0,i1⟩,h1,fun x hx=>?_⟩
   rcases List.mem_cons.mp (sub x hx) with rfl | h
   ·omega
   ·have:=(List.pairwise_cons.mp nd).1 x h;omega
  ·refine ih (List.Pairwise.sublist List.filter_sublist nd) (fun x hx=>?_) q hq
   obtain ⟨hx1,hx2⟩:=List.mem_filter.mp hx
   have nr:x ∉ r:=by simpa using hx2
   obtain ⟨b,c⟩:=cl x hx1
   exact ⟨b,List.mem_filter.mpr ⟨c,by simpa using fun z=>nr (h1.unstep tx i0 i1 b.1 b.2 z)⟩⟩
theorem Rgs.rw (tx:Tn n xs) {rs:List (List Int)} (g:Rgs xs (upto n) rs):∀ r∈rs,Rw n xs r :=
 g.rw' tx (xaQ n) fun x hx=>⟨yam.mp hx,yam.mpr (tx.app (yam.mp hx).1 (yam.mp hx).2)⟩
theorem Rgs.has {rs:List (List Int)} (g:Rgs xs (upto n) rs) (x0:0≤x) (x1:x < (n:Int)):∃ r∈rs,x∈r:=g.all.2 x (yam.mpr ⟨x0,x1⟩)
theorem Za8 {rs:List (List Int)} (h:rs.flatten.Nodup) (ne:∀ r∈rs,r≠[]):rs.Nodup:=by
 induction rs with
 | nil=>exact List.nodup_nil
 | cons r rs ih =>
  rw [List.flatten_cons] at h
  obtain ⟨_,h2,h3⟩:=List.nodup_append.mp h
  refine List.nodup_cons.mpr ⟨fun hm=>?_,ih h2 fun q hq=>ne q (List.mem_cons_of_mem _ hq)⟩
  obtain ⟨x,hx⟩:=List.exists_mem_of_ne_nil r (ne r List.mem_cons_self)
  exact h3 x hx x (List.mem_flatten.mpr ⟨r,hm,hx⟩) rfl
theorem Rgs.nodup (tx:Tn n xs) {rs:List (List Int)} (g:Rgs xs (upto n) rs):rs.Nodup:=by
 refine Za8 ((g.xaL tx).nodup_iff.mpr (xaT n)) fun r hr e=>?_
 obtain ⟨x,hx⟩:=(g.rw tx r hr).one
 rw [e] at hx
 cases hx
noncomputable def Sm (xs ys r:List Int):Prop:=∀ s∈r,app ys (app xs s)=app xs (app ys s)
instance:Decidable (Sm xs ys r):=inferInstanceAs (Decidable (∀ s∈r,app ys (app xs s)=app xs (app ys s)))
end
end Mth
namespace L4
open PySem PySem.Spec L2
inductive D where
 | non | bl (b:Bool) | int (i:Int) | str (x:Str) | ty (n:String) | tup (ds:List D) | ref (i:Nat)
instance:Inhabited D:=⟨.non⟩
inductive O where
 | lst (ds:List D) | fzn (ds:List D) | dct (kvs:List (Key×D)) | dcu (kvs:List (List Int×D)) | any | rng (lo hi:Int)
abbrev Store:=List O
abbrev DSt:=List (Option D)
abbrev Dm (α:Type):=Store→Option (α×Store)
inductive Fl where
 | nx (δ:DSt) | bk (δ:DSt) | ct (δ:DSt) | rt (d:D)
mutual
inductive Rp (K:PySem.W.Frag) (ρ:List Addr) (H:Hp):V→D→Prop
 | non:Rp K ρ H .non .non
 | bl (b:Bool):Rp K ρ H (.bl b) (.bl b)
 | int (i:Int):Rp K ρ H (.int i) (.int i)
 | str (x:Str):Rp K ρ H (.str x) (.str x)
 | ty (n:String):Rp K ρ H (.ty n) (.ty n)
 | ref {a:Addr} {i:Nat}:ρ[i]?=some a→Rp K ρ H (.ref a) (.ref i)
 | tup {a:Addr} {vs:List V} {ds:List D}:SqT K H a vs→Rps K ρ H vs ds→Rp K ρ H (.ref a) (.tup ds)
inductive Rps (K:PySem.W.Frag) (ρ:List Addr) (H:Hp):List V→List D→Prop
 | nil:Rps K ρ H [] []
 | cons {v:V} {vs:List V} {d:D} {ds:List D}:Rp K ρ H v d→Rps K ρ H vs ds→Rps K ρ H (v :: vs) (d :: ds)
end
structure Mn (K:PySem.W.Frag) (ρ:List Addr) (H:Hp) (ρ':List Addr) (H':Hp):Prop where
 r:∀ (i:Nat) (a:Addr),ρ[i]?=some a→ρ'[i]?=some a
 t:∀ a vs,SqT K H a vs→SqT K H' a vs
 f:∀ a o u,H a=some (.frz o u)→H' a=some (.frz o u)
section
variable {K:PySem.W.Frag} {ρ ρ' ρ2:List Addr} {H H' H2:Hp}
theorem Mn.refl:Mn K ρ H ρ H:=⟨fun _ _ h=>h,fun _ _ h=>h,fun _ _ _ h=>h⟩
theorem Mn.trans (m:Mn K ρ H ρ' H') (n:Mn K ρ' H' ρ2 H2):Mn K ρ H ρ2 H2:=⟨fun i a h=>n.r i a (m.r i a h),fun a vs h=>n.t a vs (m.t a vs h),fun a o u h=>n.f a o u (m.f a o u h)⟩
mutual
theorem Rp.mn (m:Mn K ρ H ρ' H'):∀ {v:V} {d:D},Rp K ρ H v d→Rp K ρ' H' v d
 | _,_,.non=>.non
 | _,_,.bl b=>.bl b
 | _,_,.int i=>.int i
 | _,_,.str x=>.str x
 | _,_,.ty n=>.ty n
 | _,_,.ref e=>.ref (m.r _ _ e)
 | _,_,.tup q r=>.tup (m.t _ _ q) (Rps.mn m r)
theorem Rps.mn (m:Mn K ρ H ρ' H'):∀ {vs:List V} {ds:List D},Rps K ρ H vs ds→Rps K ρ' H' vs ds
 | _,_,.nil=>.nil
 | _,_,.cons a b=>.cons (Rp.mn m a) (Rps.mn m b)
end
theorem Rps.length:∀ {vs:List V} {ds:List D},Rps K ρ H vs ds→vs.length=ds.length
 | _,_,.nil=>rfl
 | _,_,.cons _ r=>by rw [List.length_cons,List.length_cons,r.length]
theorem Rps.got:∀ {vs:List V} {ds:List D},Rps K ρ H vs ds→∀ {i:Nat} {d:D},ds[i]?=some d→∃ v,vs[i]?=some v∧Rp K ρ H v d
 | _,_,.nil,i,v,e=>by simp at e
 | _,_,.cons (v:=v) a b,0,d,e=>⟨v,by simp,by have:_=d:=Option.some.inj (by simpa using e);rw [← this];exact a⟩
 | _,_,.cons a b,i + 1,d,e=>by
  obtain ⟨v,e1,r⟩:=Rps.got b (i:=i) (by simpa using e)
  exact ⟨v,by simpa using e1,r⟩
theorem Rps.append:∀ {vs:List V} {ds:List D} {ws:List V} {es:List D},Rps K ρ H vs ds→Rps K ρ H ws es→Rps K ρ H (vs ++ ws) (ds ++ es)
 | _,_,_,_,.nil,s=>s
 | _,_,_,_,.cons a b,s=>.cons a (Rps.append b s)
theorem Rps.one {v:V} {d:D} (r:Rp K ρ H v d):Rps K ρ H [v] [d]:=.cons r .nil
theorem Rps.take:∀ {vs:List V} {ds:List D} (n:Nat),Rps K ρ H vs ds→Rps K ρ H (vs.take n) (ds.take n)
 | _,_,0,_=>.nil
 | _,_,_ + 1,.nil=>.nil
 | _,_,n + 1,.cons r t=>.cons r (Rps.take n t)
theorem Rps.drop:∀ {vs:List V} {ds:List D} (n:Nat),Rps K ρ H vs ds→Rps K ρ H (vs.drop n) (ds.drop n)
 | _,_,0,r=>r
 | _,_,_ + 1,.nil=>.nil
 | _,_,n + 1,.cons _ t=>Rps.drop n t
theorem Rps.set {v:V} {d:D} (r:Rp K ρ H v d):∀ {vs:List V} {ds:List D} (i:Nat),Rps K ρ H vs ds→Rps K ρ H (vs.set i v) (ds.set i d)
 | _,_,_,.nil=>.nil
 | _,_,0,.cons _ t=>.cons r t
 | _,_,i + 1,.cons q t=>.cons q (Rps.set r i t)
theorem Rps.erase:∀ {vs:List V} {ds:List D} (i:Nat),Rps K ρ H vs ds→Rps K ρ H (vs.eraseIdx i) (ds.eraseIdx i)
 | _,_,_,.nil=>.nil
 | _,_,0,.cons _ t=>t
 | _,_,i + 1,.cons q t=>.cons q (Rps.erase i t)
theorem Rps.flat {vs:List V} {ds:List D} (r:Rps K ρ H vs ds):∀ n:Nat,Rps K ρ H (List.replicate n vs).flatten (List.replicate n ds).flatten
 | 0=>.nil
 | n + 1=>by rw [List.replicate_succ,List.replicate_succ,List.flatten_cons,List.flatten_cons];exact r.append (r.flat n)
theorem Rps.ints:∀ (ns:List Int),Rps K ρ H (ns.map V.int) (ns.map D.int)
 | []=>.nil
 | n :: r=>.cons (.int n) (Rps.ints r)
end
noncomputable def Rs (K:PySem.W.Frag) (ρ:List Addr) (H:Hp) (σ:St) (δ:DSt):Prop:=σ.length=δ.length∧∀ (i:Nat) (d:D),δ[i]?=some (some d)→∃ v,σ[i]?=some (some v)∧Rp K ρ H v d
noncomputable def Rk (K:PySem.W.Frag) (ρ:List Addr) (H:Hp):List (Key×V)→List (Key×D)→Prop:=Paired fun p q=>p.1=q.1∧Rp K ρ H p.2 q.2
noncomputable def Ru (K:PySem.W.Frag) (ρ:List Addr) (H:Hp):List (List Int×D)→List (List Int×Addr×Value)→Prop:=Paired fun q x=>q.1=x.1∧SqT K H x.2.1 (x.1.map V.int)∧∃ v,RelV v x.2.2∧Rp K ρ H v q.2
noncomputable def RpO (K:PySem.W.Frag) (ρ:List Addr) (H:Hp) (a:Addr):O→Prop
 | .lst ds=>∃ vs,H a=some (.lst vs)∧Rps K ρ H vs ds
 | .fzn ds=>∃ vs,SqF K H a vs∧Rps K ρ H vs ds
 | .dct kvs=>∃ ws,H a=some (.dK ws)∧Rk K ρ H ws kvs
 | .dcu kvs=>∃ xs,H a=some (DU a xs)∧Ru K ρ H kvs xs
 | .any=>True
 | .rng lo hi=>H a=some (.rng lo hi)
noncomputable def O.mut:O→Bool
 | .fzn _=>false
 | .any=>false
 | _=>true
structure Rl (K:PySem.W.Frag) (ρ:List Addr) (H:Hp) (st:Store):Prop where
 len:ρ.length=st.length
 nd:∀ (i j:Nat) (a:Addr) (o o':O),ρ[i]?=some a→ρ[j]?=some a→st[i]?=some o→st[j]?=some o'→o.mut=true→o'.mut=true→i=j
 obj:∀ (i:Nat) (a:Addr) (o:O),ρ[i]?=some a→st[i]?=some o→RpO K ρ H a o
section
variable {K:PySem.W.Frag} {ρ ρ' ρ2:List Addr} {H H' H2:Hp} {st st':Store} {a p:Addr} {i:Nat} {o o':O} {ho:HO} {σ:St} {δ:DSt}
theorem Rs.mn (h:Rs K ρ H σ δ) (m:Mn K ρ H ρ' H'):Rs K ρ' H' σ δ:=⟨h.1,fun i d e=>let ⟨v,e1,r⟩:=h.2 i d e;⟨v,e1,r.mn m⟩⟩
theorem Rk.mn (m:Mn K ρ H ρ' H') {ws:List (Key×V)} {kvs:List (Key×D)} (h:Rk K ρ H ws kvs):Rk K ρ' H' ws kvs:=by
 induction h with
 | nil=>exact .nil
 | cons a _ ih=>exact .cons ⟨a.1,a.2.mn m⟩ ih
theorem Ru.mn (m:Mn K ρ H ρ' H') {kvs:List (List Int×D)} {xs:List (List Int×Addr×Value)} (h:Ru K ρ H kvs xs):Ru K ρ' H' kvs xs:=by
 induction h with
 | nil=>exact .nil
 | cons a _ ih=>obtain ⟨a1,a2,v,a3,a4⟩:=a;exact .cons ⟨a1,m.t _ _ a2,v,a3,a4.mn m⟩ ih
theorem RpO.keep (m:Mn K ρ H ρ' H') (h:∀ u,H a=some u→H' a=some u) (r:RpO K ρ H a o):RpO K ρ' H' a o:=by
 cases o with
 | lst ds=>obtain ⟨vs,e,q⟩:=r;exact ⟨vs,h _ e,q.mn m⟩
 | fzn ds =>
  obtain ⟨vs,e,q⟩:=r
  refine ⟨vs,?_,q.mn m⟩
  rcases e with ⟨u,e⟩ | e
  ·exact .inl ⟨u,h _ e⟩
  ·exact .inr e
 | dct kvs=>obtain ⟨ws,e,q⟩:=r;exact ⟨ws,h _ e,q.mn m⟩
 | dcu kvs=>obtain ⟨ws,e,q⟩:=r;exact ⟨ws,h _ e,q.mn m⟩
 | any=>trivial
 | rng lo hi=>exact h _ r
theorem Mn.same (s:Same H H'):Mn K ρ H ρ H':=⟨fun _ _ h=>h,fun _ _ h=>(Kp.of_same (ch:=[]) s).sqT h,fun _ _ _ h=>s _ _ h⟩
theorem Rl.same (l:Rl K ρ H st) (s:Same H H'):Rl K ρ H' st:=⟨l.len,l.nd,fun i a o h1 h2=>(l.obj i a o h1 h2).keep (Mn.same s) fun u e=>s _ _ e⟩
theorem Rl.at (l:Rl K ρ H st) (h1:ρ[i]?=some a) (h2:st[i]?=some o) (hm:o.mut=true):∃ u,H a=some u∧∀ x y,u≠.frz x y:=by
 have r:=l.obj i a o h1 h2
 cases o with
 | lst ds=>obtain ⟨vs,e,_⟩:=r;exact ⟨_,e,fun x y z=>nomatch z⟩
 | fzn ds=>cases hm
 | dct kvs=>obtain ⟨ws,e,_⟩:=r;exact ⟨_,e,fun x y z=>nomatch z⟩
 | dcu kvs=>obtain ⟨ws,e,_⟩:=r;exact ⟨_,e,fun x y z=>by cases z⟩
 | any=>cases hm
 | rng lo hi=>exact ⟨_,r,fun x y z=>nomatch z⟩
theorem Mn.new (hp:H p=none):Mn K ρ H (ρ ++ [p]) (upd H p ho):=⟨fun i a h=>by
  obtain ⟨hi,_⟩:=List.getElem?_eq_some_iff.mp h
  rw [List.getElem?_append_left hi];exact h,fun _ _ h=>(Kp.of_same (ch:=[]) (Same.up hp)).sqT h,fun _ _ _ h=>Same.up hp _ _ h⟩
theorem Rl.new (l:Rl K ρ H st) (hp:H p=none) (mk:RpO K (ρ ++ [p]) (upd H p ho) p o):Rl K (ρ ++ [p]) (upd H p ho) (st ++ [o]):=by
 have m:Mn K ρ H (ρ ++ [p]) (upd H p ho):=Mn.new hp
 have split:∀ (i:Nat) (a:Addr) (o':O),(ρ ++ [p])[i]?=some a→(st ++ [o])[i]?=some o'→(ρ[i]?=some a∧st[i]?=some o')∨(i=ρ.length∧a=p∧o'=o):=fun i a o' h1 h2=>by
  by_cases hi:i < ρ.length
  ·rw [List.getElem?_append_left hi] at h1
   rw [List.getElem?_append_left (by rw [← l.len];exact hi)] at h2
   exact .inl ⟨h1,h2⟩
  ·obtain ⟨hb,_⟩:=List.getElem?_eq_some_iff.mp h1
   rw [List.length_append,List.length_singleton] at hb
   have e:i=ρ.length:=by omega
   subst e
   rw [List.getElem?_append_right (Nat.le_refl _),Nat.sub_self] at h1
   rw [l.len,List.getElem?_append_right (Nat.le_refl _),Nat.sub_self] at h2
   exact .inr ⟨rfl,(Option.some.inj h1).symm,(Option.some.inj h2).symm⟩
 refine ⟨by rw [List.length_append,List.length_append,l.len];rfl,fun i j a u u' h1 h2 h3 h4 m1 m2=>?_,fun i a u h1 h2=>?_⟩
 ·rcases split i a u h1 h3 with ⟨g1,g2⟩ | ⟨rfl,rfl,rfl⟩ <;> rcases split j _ u' h2 h4 with ⟨k1,k2⟩ | ⟨k1,k2,k3⟩
  ·exact l.nd i j a u u' g1 k1 g2 k2 m1 m2
  ·subst k2
   obtain ⟨w,e,_⟩:=l.at g1 g2 m1
   rw [e] at hp;cases hp
  ·obtain ⟨w,e,_⟩:=l.at k1 k2 m2
   rw [e] at hp;cases hp
  ·exact k1.symm
 ·rcases split i a u h1 h2 with ⟨g1,g2⟩ | ⟨rfl,rfl,rfl⟩
  ·exact (l.obj i a u g1 g2).keep m fun w e=>Same.up hp _ _ e
  ·exact mk
theorem Rl.put (l:Rl K ρ H st) (hi:ρ[i]?=some a) (hs:st[i]?=some o) (hm:o.mut=true) (hm':o'.mut=true) (m:Mn K ρ H ρ (upd H a ho)) (r:RpO K ρ (upd H a ho) a o'):Rl K ρ (upd H a ho) (st.set i o'):=by
 obtain ⟨w,ew,nf⟩:=l.at hi hs hm
 have ils:i < st.length:=(List.getElem?_eq_some_iff.mp hs).1
 have old:∀ (j:Nat) (u:O),(st.set i o')[j]?=some u→(j=i∧u=o')∨(j≠i∧st[j]?=some u):=fun j u h=>by
  by_cases hj:i=j
  ·subst hj
   rw [List.getElem?_set_self ils] at h
   exact .inl ⟨rfl,(Option.some.inj h).symm⟩
  ·rw [List.getElem?_set_ne hj] at h
   exact .inr ⟨fun z=>hj z.symm,h⟩
 refine ⟨by rw [List.length_set];exact l.len,fun j k b u u' h1 h2 h3 h4 m1 m2=>?_,fun j b u h1 h2=>?_⟩
 ·rcases old j u h3 with ⟨rfl,rfl⟩ | ⟨nj,g3⟩ <;> rcases old k u' h4 with ⟨rfl,rfl⟩ | ⟨nk,g4⟩
  ·rfl
  ·exact l.nd _ _ b o u' h1 h2 hs g4 hm m2
  ·exact l.nd _ _ b u o h1 h2 g3 hs m1 hm
  ·exact l.nd _ _ b u u' h1 h2 g3 g4 m1 m2
 ·rcases old j u h2 with ⟨rfl,rfl⟩ | ⟨nj,g2⟩
  ·rw [hi] at h1;cases h1;exact r
  ·by_cases hb:b=a
   ·subst hb
    cases u with
    | fzn ds =>
     obtain ⟨vs,e,q⟩:=l.obj j b _ h1 g2
     refine ⟨vs,?_,q.mn m⟩
     rcases e with ⟨x,e⟩ | e
     ·rw [ew] at e;cases e;exact absurd rfl (nf _ _)
     ·exact .inr e
    | lst ds=>exact absurd (l.nd j i b _ o h1 hi g2 hs rfl hm) nj
    | dcu ds=>exact absurd (l.nd j i b _ o h1 hi g2 hs rfl hm) nj
    | dct ds=>exact absurd (l.nd j i b _ o h1 hi g2 hs rfl hm) nj
    | any=>trivial
    | rng lo up=>exact absurd (l.nd j i b _ o h1 hi g2 hs rfl hm) nj
   ·exact (l.obj j b u h1 g2).keep m fun w e=>by rw [Zai hb];exact e
theorem Mn.put {xs:List V} (e:H a=some (.lst xs)):Mn K ρ H ρ (upd H a ho):=⟨fun _ _ h=>h,fun b vs h=>(Kp.put (ch:=[a]) (o:=ho) Kp.refl (by simp) e).sqT h,fun b o u h=>by rw [Zai (fun z=>by rw [z,e] at h;cases h)];exact h⟩
theorem Mn.putD {ws:List (Key×V)} (e:H a=some (.dK ws)):Mn K ρ H ρ (upd H a ho):=⟨fun _ _ h=>h,fun b vs q=>by
 have ne:∀ u,H b=some u→(∀ w,u≠.dK w)→b≠a:=fun u hu n z=>by rw [z,e] at hu;cases hu;exact n _ rfl
 rcases q with (q | ⟨o,q⟩) | q
 ·exact .inl (.inl (by rw [Zai (ne _ q fun w z=>nomatch z)];exact q))
 ·exact .inl (.inr ⟨o,by rw [Zai (ne _ q fun w z=>nomatch z)];exact q⟩)
 ·exact .inr q,fun b o u h=>by rw [Zai (fun z=>by rw [z,e] at h;cases h)];exact h⟩
theorem Rl.newL {vs:List V} {ds:List D} (l:Rl K ρ H st) (hp:H p=none) (r:Rps K ρ H vs ds):Rl K (ρ ++ [p]) (upd H p (.lst vs)) (st ++ [.lst ds]):=l.new hp ⟨vs,Xaj,r.mn (Mn.new hp)⟩
theorem Rl.newD {vs:List (Key×V)} {ds:List (Key×D)} (l:Rl K ρ H st) (hp:H p=none) (r:Rk K ρ H vs ds):Rl K (ρ ++ [p]) (upd H p (.dK vs)) (st ++ [.dct ds]):=l.new hp ⟨vs,Xaj,r.mn (Mn.new hp)⟩
theorem newR (l:Rl K ρ H st) (v:D:=.ref st.length):(ρ ++ [p])[st.length]?=some p:=by rw [← l.len,List.getElem?_append_right (Nat.le_refl _),Nat.sub_self];rfl
theorem Rl.putL {vs:List V} {ds xs:List D} (l:Rl K ρ H st) (hi:ρ[i]?=some a) (hs:st[i]?=some (.lst xs)) (r:Rps K ρ H vs ds):Rl K ρ (upd H a (.lst vs)) (st.set i (.lst ds))∧Mn K ρ H ρ (upd H a (.lst vs)):=by
 obtain ⟨ws,e,_⟩:=l.obj i a _ hi hs
 have m:Mn K ρ H ρ (upd H a (.lst vs)):=Mn.put e
 exact ⟨l.put hi hs rfl rfl m ⟨vs,Xaj,r.mn m⟩,m⟩
theorem Rl.putDct {vs:List (Key×V)} {ds xs:List (Key×D)} (l:Rl K ρ H st) (hi:ρ[i]?=some a) (hs:st[i]?=some (.dct xs)) (r:Rk K ρ H vs ds):Rl K ρ (upd H a (.dK vs)) (st.set i (.dct ds))∧Mn K ρ H ρ (upd H a (.dK vs)):=by
 obtain ⟨ws,e,_⟩:=l.obj i a _ hi hs
 have m:Mn K ρ H ρ (upd H a (.dK vs)):=Mn.putD e
 exact ⟨l.put hi hs rfl rfl m ⟨vs,Xaj,r.mn m⟩,m⟩
noncomputable def items (st:Store) (i:Nat):Option (List D):=match st[i]? with
 | some (.lst ds)=>some ds
 | some (.fzn ds)=>some ds
 | _=>none
theorem Rl.items {ds:List D} (l:Rl K ρ H st) (hi:ρ[i]?=some a) (h:items st i=some ds):∃ vs,SqL K H a vs∧Rps K ρ H vs ds:=by
 unfold L4.items at h
 split at h
 ·next ds' hs=>cases h;obtain ⟨vs,e,r⟩:=l.obj i a _ hi hs;exact ⟨vs,.inl (.inl e),r⟩
 ·next ds' hs=>cases h;obtain ⟨vs,e,r⟩:=l.obj i a _ hi hs;exact ⟨vs,e.sq,r⟩
 ·cases h
end
noncomputable def So (K:PySem.W.Frag) {α β:Type} (R:List Addr→Hp→α→β→Prop) (t:St→Hp→(α→Hp→Prop)→Prop) (f:DSt→Dm β):Prop :=
 ∀ (ρ:List Addr) (σ:St) (H:Hp) (δ:DSt) (st:Store) (b:β) (st':Store) (Q:α→Hp→Prop),Rl K ρ H st→Rs K ρ H σ δ→f δ st=some (b,st') →
  (∀ a H' ρ',Mn K ρ H ρ' H'→Rl K ρ' H' st'→R ρ' H' a b→Q a H')→t σ H Q
abbrev SoE (K:PySem.W.Frag) (t:TE) (f:DSt→Dm D):Prop:=So K (Rp K) t f
abbrev SoT (K:PySem.W.Frag) (t:TT) (f:DSt→Dm Bool):Prop:=So K (fun _ _=>Eq) t f
abbrev SoA (K:PySem.W.Frag) (t:TA) (f:DSt→Dm (List D)):Prop:=So K (Rps K) t f
abbrev SoO (K:PySem.W.Frag) (t:TO) (f:DSt→Dm (Option Int)):Prop:=So K (fun _ _=>Eq) t f
noncomputable def So1 (K:PySem.W.Frag) (r:V→Hp→VK→Prop) (g:D→Dm D):Prop :=
 ∀ (ρ:List Addr) (H:Hp) (st:Store) (x:V) (a:D) (b:D) (st':Store) (Q:VK),Rl K ρ H st→Rp K ρ H x a→g a st=some (b,st')→(∀ v H' ρ',Mn K ρ H ρ' H'→Rl K ρ' H' st'→Rp K ρ' H' v b→Q v H')→r x H Q
noncomputable def So2 (K:PySem.W.Frag) (r:R2) (g:D→D→Dm D):Prop :=
 ∀ (ρ:List Addr) (H:Hp) (st:Store) (x y:V) (a c:D) (b:D) (st':Store) (Q:VK),Rl K ρ H st→Rp K ρ H x a→Rp K ρ H y c→g a c st=some (b,st')→(∀ v H' ρ',Mn K ρ H ρ' H'→Rl K ρ' H' st'→Rp K ρ' H' v b→Q v H')→r x y H Q
noncomputable def SoC (K:PySem.W.Frag) (r:List V→Hp→VK→Prop) (g:List D→Dm D):Prop :=
 ∀ (ρ:List Addr) (H:Hp) (st:Store) (xs:List V) (as:List D) (b:D) (st':Store) (Q:VK),Rl K ρ H st→Rps K ρ H xs as→g as st=some (b,st')→(∀ v H' ρ',Mn K ρ H ρ' H'→Rl K ρ' H' st'→Rp K ρ' H' v b→Q v H')→r xs H Q
noncomputable def SoM (K:PySem.W.Frag) (T:String) (r:V→List V→Hp→VK→Prop) (g:D→List D→Dm D):Prop :=
 ∀ (ρ:List Addr) (H:Hp) (st:Store) (x:V) (xs:List V) (a:D) (as:List D) (b:D) (st':Store) (Q:VK),Rl K ρ H st→Rp K ρ H x a→Rps K ρ H xs as→g a as st=some (b,st')→(∀ v H' ρ',Mn K ρ H ρ' H'→Rl K ρ' H' st'→Rp K ρ' H' v b→Q v H')→r x xs H Q
noncomputable def bnd {α β:Type} (m:Option (α×Store)) (k:α→Dm β):Option (β×Store):=match m with
 | some (a,st)=>k a st
 | none=>none
theorem xac {α β:Type} {m:Option (α×Store)} {k:α→Dm β} {r:β×Store} (h:bnd m k=some r):∃ a st,m=some (a,st)∧k a st=some r:=by
 cases m with
 | none=>cases h
 | some p=>exact ⟨p.1,p.2,rfl,h⟩
section
variable {K:PySem.W.Frag}
noncomputable def fVar (i:Nat):DSt→Dm D:=fun δ st=>match δ[i]? with
 | some (some d)=>some (d,st)
 | _=>none
theorem Zaa (i:Nat):SoE K (tVar i) (fVar i):=by
 intro ρ σ H δ st b st' Q l rs e q
 unfold fVar at e
 split at e
 ·next d hd=>cases e;obtain ⟨v,ev,r⟩:=rs.2 i _ hd;exact ⟨v,ev,q v H ρ .refl l r⟩
 ·cases e
noncomputable def fC (d:D):DSt→Dm D:=fun _ st=>some (d,st)
theorem so_c {v:V} {d:D} (h:∀ ρ H,Rp K ρ H v d):SoE K (tC v) (fC d):=by
 intro ρ σ H δ st b st' Q l rs e q
 cases e
 exact q v H ρ .refl l (h ρ H)
theorem Yac (i:Int):SoE K (tC (.int i)) (fC (.int i)):=so_c fun _ _=>.int i
theorem ybu (b:Bool):SoE K (tC (.bl b)) (fC (.bl b)):=so_c fun _ _=>.bl b
theorem zaB (x:Str):SoE K (tC (.str x)) (fC (.str x)):=so_c fun _ _=>.str x
theorem ya2 (n:String):SoE K (tC (.ty n)) (fC (.ty n)):=so_c fun _ _=>.ty n
noncomputable def fOp (g:D→D→Dm D) (fa fb:DSt→Dm D):DSt→Dm D:=fun δ st=>bnd (fa δ st) fun a st1=>bnd (fb δ st1) fun b st2=>g a b st2
theorem yac {r:R2} {g:D→D→Dm D} {ta tb:TE} {fa fb:DSt→Dm D} (hr:So2 K r g) (ha:SoE K ta fa) (hb:SoE K tb fb):SoE K (tOp r ta tb) (fOp g fa fb):=by
 intro ρ σ H δ st b st' Q l rs e q
 obtain ⟨a,st1,e1,e⟩:=xac e
 obtain ⟨c,st2,e2,e⟩:=xac e
 refine ha ρ σ H δ st a st1 _ l rs e1 fun x H1 ρ1 m1 l1 r1=>hb ρ1 σ H1 δ st1 c st2 _ l1 (rs.mn m1) e2 fun y H2 ρ2 m2 l2 r2=>?_
 exact hr ρ2 H2 st2 x y a c b st' Q l2 (r1.mn m2) r2 e fun v H3 ρ3 m3 l3 r3=>q v H3 ρ3 ((m1.trans m2).trans m3) l3 r3
noncomputable def fUn (g:D→Dm D) (fa:DSt→Dm D):DSt→Dm D:=fun δ st=>bnd (fa δ st) fun a st1=>g a st1
theorem so_un {r:V→Hp→VK→Prop} {g:D→Dm D} {ta:TE} {fa:DSt→Dm D} (hr:So1 K r g) (ha:SoE K ta fa):SoE K (tUn r ta) (fUn g fa):=by
 intro ρ σ H δ st b st' Q l rs e q
 obtain ⟨a,st1,e1,e⟩:=xac e
 exact ha ρ σ H δ st a st1 _ l rs e1 fun x H1 ρ1 m1 l1 r1=>hr ρ1 H1 st1 x a b st' Q l1 r1 e fun v H3 ρ3 m3 l3 r3=>q v H3 ρ3 (m1.trans m3) l3 r3
noncomputable def fNil:DSt→Dm (List D):=fun _ st=>some ([],st)
noncomputable def fCons (fa:DSt→Dm D) (fr:DSt→Dm (List D)):DSt→Dm (List D):=fun δ st=>bnd (fa δ st) fun a st1=>bnd (fr δ st1) fun r st2=>some (a :: r,st2)
theorem Xaa:SoA K tNil fNil:=by
 intro ρ σ H δ st b st' Q l rs e q
 cases e
 exact q [] H ρ .refl l .nil
theorem yaa {ta:TE} {tr:TA} {fa:DSt→Dm D} {fr:DSt→Dm (List D)} (ha:SoE K ta fa) (hr:SoA K tr fr):SoA K (tCons ta tr) (fCons fa fr):=by
 intro ρ σ H δ st b st' Q l rs e q
 obtain ⟨a,st1,e1,e⟩:=xac e
 obtain ⟨c,st2,e2,e⟩:=xac e
 cases e
 exact ha ρ σ H δ st a st1 _ l rs e1 fun x H1 ρ1 m1 l1 r1=>hr ρ1 σ H1 δ st1 c _ _ l1 (rs.mn m1) e2 fun y H2 ρ2 m2 l2 r2=>q _ H2 ρ2 (m1.trans m2) l2 (.cons (r1.mn m2) r2)
noncomputable def lim (n:Nat):Bool:=Nat.ble n 100000
theorem Ya4 {n:Nat} (h:lim n=true):n≤sizeLine:=Nat.le_trans (Nat.le_of_ble_eq_true h) (by decide)
theorem ybD {n:Nat} (h:lim n=true):n < sizeLine:=Nat.lt_of_le_of_lt (Nat.le_of_ble_eq_true h) (by decide)
noncomputable def fTup (fa:DSt→Dm (List D)):DSt→Dm D:=fun δ st=>bnd (fa δ st) fun as st1=>if lim as.length=true then some (.tup as,st1) else none
theorem zaD {ta:TA} {fa:DSt→Dm (List D)} (ha:SoA K ta fa):SoE K (tTup ta) (fTup fa):=by
 intro ρ σ H δ st b st' Q l rs e q
 obtain ⟨as,st1,e1,e⟩:=xac e
 split at e
 ·next hl =>
  cases e
  refine ha ρ σ H δ st as _ _ l rs e1 fun xs H1 ρ1 m1 l1 r1=>⟨by rw [r1.length];exact Ya4 hl,fun p hp=>?_⟩
  have m2:Mn K ρ1 H1 ρ1 (upd H1 p (.tup xs)):=Mn.same (Same.up hp)
  exact q _ _ ρ1 (m1.trans m2) (l1.same (Same.up hp)) (.tup (SqT.of Xaj) (r1.mn m2))
 ·cases e
noncomputable def fLst (fa:DSt→Dm (List D)):DSt→Dm D:=fun δ st=>bnd (fa δ st) fun as st1=>if lim as.length=true then some (.ref st1.length,st1 ++ [.lst as]) else none
theorem xas {ta:TA} {fa:DSt→Dm (List D)} (ha:SoA K ta fa):SoE K (tLst ta) (fLst fa):=by
 intro ρ σ H δ st b st' Q l rs e q
 obtain ⟨as,st1,e1,e⟩:=xac e
 split at e
 ·next hl =>
  cases e
  refine ha ρ σ H δ st as _ _ l rs e1 fun xs H1 ρ1 m1 l1 r1=>⟨by rw [r1.length];exact Ya4 hl,fun p hp=>?_⟩
  exact q _ _ _ (m1.trans (Mn.new hp)) (l1.newL hp r1) (.ref (newR l1))
 ·cases e
noncomputable def fTest (fa:DSt→Dm D):DSt→Dm Bool:=fun δ st=>bnd (fa δ st) fun a st1=>match a with
 | .bl b=>some (b,st1)
 | _=>none
theorem yai {ta:TE} {fa:DSt→Dm D} (ha:SoE K ta fa):SoT K (tTest ta) (fTest fa):=by
 intro ρ σ H δ st b st' Q l rs e q
 obtain ⟨a,st1,e1,e⟩:=xac e
 cases a <;> simp at e
 obtain ⟨rfl,rfl⟩:=e
 refine ha ρ σ H δ st _ _ _ l rs e1 fun x H1 ρ1 m1 l1 r1=>?_
 cases r1
 exact ⟨_,rfl,q _ H1 ρ1 m1 l1 rfl⟩
theorem xbP {ta:TE} {fa:DSt→Dm D} (ha:SoE K ta fa):SoT K (tB ta) (fTest fa):=yai ha
noncomputable def fNot (fa:DSt→Dm Bool):DSt→Dm Bool:=fun δ st=>bnd (fa δ st) fun a st1=>some (!a,st1)
theorem ybX {ta:TT} {fa:DSt→Dm Bool} (ha:SoT K ta fa):SoT K (tNot ta) (fNot fa):=by
 intro ρ σ H δ st b st' Q l rs e q
 obtain ⟨a,st1,e1,e⟩:=xac e
 cases e
 exact ha ρ σ H δ st _ _ _ l rs e1 fun x H1 ρ1 m1 l1 r1=>q _ H1 ρ1 m1 l1 (by rw [r1])
noncomputable def fAnd (fa fb:DSt→Dm Bool):DSt→Dm Bool:=fun δ st=>bnd (fa δ st) fun a st1=>if a=true then fb δ st1 else some (false,st1)
noncomputable def fOr (fa fb:DSt→Dm Bool):DSt→Dm Bool:=fun δ st=>bnd (fa δ st) fun a st1=>if a=true then some (true,st1) else fb δ st1
theorem so_or {ta tb:TT} {fa fb:DSt→Dm Bool} (ha:SoT K ta fa) (hb:SoT K tb fb):SoT K (tOr ta tb) (fOr fa fb):=by
 intro ρ σ H δ st b st' Q l rs e q
 obtain ⟨a,st1,e1,e⟩:=xac e
 refine ha ρ σ H δ st _ _ _ l rs e1 fun x H1 ρ1 m1 l1 r1=>?_
 subst r1
 cases x with
 | false =>
  refine iteF ?_
  rw [if_neg Bool.false_ne_true] at e
  exact hb ρ1 σ H1 δ st1 b st' _ l1 (rs.mn m1) e fun y H2 ρ2 m2 l2 r2=>q y H2 ρ2 (m1.trans m2) l2 r2
 | true =>
  refine iteT ?_
  rw [if_pos rfl] at e
  cases e
  exact q _ H1 ρ1 m1 l1 rfl
noncomputable def fAndV (fa fb:DSt→Dm D):DSt→Dm D:=fun δ st=>bnd (fTest fa δ st) fun a st1=>if a=true then fb δ st1 else some (.bl false,st1)
noncomputable def fOrV (fa fb:DSt→Dm D):DSt→Dm D:=fun δ st=>bnd (fTest fa δ st) fun a st1=>if a=true then some (.bl true,st1) else fb δ st1
noncomputable def fNotV (fa:DSt→Dm D):DSt→Dm D:=fun δ st=>bnd (fTest fa δ st) fun a st1=>some (.bl (!a),st1)
theorem Zbu {fa:DSt→Dm D} {δ:DSt} {st st1:Store} {b:Bool} (h:fTest fa δ st=some (b,st1)):fa δ st=some (.bl b,st1):=by
 obtain ⟨a,st2,e1,e⟩:=xac h
 cases a <;> simp at e
 obtain ⟨rfl,rfl⟩:=e
 exact e1
theorem Zb4 {ta tb:TE} {fa fb:DSt→Dm D} (ha:SoE K ta fa) (hb:SoE K tb fb):SoE K (tAndV ta tb) (fAndV fa fb):=by
 intro ρ σ H δ st b st' Q l rs e q
 obtain ⟨a,st1,e1,e⟩:=xac e
 refine ha ρ σ H δ st _ _ _ l rs (Zbu e1) fun x H1 ρ1 m1 l1 r1=>?_
 cases r1
 refine ⟨a,rfl,?_⟩
 cases a with
 | true =>
  refine iteT ?_
  rw [if_pos rfl] at e
  exact hb ρ1 σ H1 δ st1 b st' _ l1 (rs.mn m1) e fun y H2 ρ2 m2 l2 r2=>q y H2 ρ2 (m1.trans m2) l2 r2
 | false =>
  refine iteF ?_
  rw [if_neg Bool.false_ne_true] at e
  cases e
  exact q _ H1 ρ1 m1 l1 (.bl _)
noncomputable def fIf {β:Type} (c:DSt→Dm Bool) (fa fb:DSt→Dm β):DSt→Dm β:=fun δ st=>bnd (c δ st) fun a st1=>if a=true then fa δ st1 else fb δ st1
noncomputable def fNoPart:DSt→Dm (Option Int):=fun _ st=>some (none,st)
noncomputable def fPart (fa:DSt→Dm D):DSt→Dm (Option Int):=fun δ st=>bnd (fa δ st) fun a st1=>match a with
 | .int i=>some (some i,st1)
 | _=>none
theorem XaL:SoO K tNoPart fNoPart:=by
 intro ρ σ H δ st b st' Q l rs e q
 cases e
 exact q _ H ρ .refl l rfl
theorem XaZ {ta:TE} {fa:DSt→Dm D} (ha:SoE K ta fa):SoO K (tPart ta) (fPart fa):=by
 intro ρ σ H δ st b st' Q l rs e q
 obtain ⟨a,st1,e1,e⟩:=xac e
 cases a <;> simp at e
 obtain ⟨rfl,rfl⟩:=e
 refine ha ρ σ H δ st _ _ _ l rs e1 fun x H1 ρ1 m1 l1 r1=>?_
 cases r1
 exact ⟨_,rfl,q _ H1 ρ1 m1 l1 rfl⟩
noncomputable def SoS3 (K:PySem.W.Frag) (r:V→Option Int→Option Int→Hp→VK→Prop) (g:D→Option Int→Option Int→Dm D):Prop :=
 ∀ lo hi,So1 K (fun x=>r x lo hi) (fun a=>g a lo hi)
noncomputable def fSl (g:D→Option Int→Option Int→Dm D) (fa:DSt→Dm D) (fl fh:DSt→Dm (Option Int)):DSt→Dm D:=fun δ st=>bnd (fa δ st) fun a st1=>bnd (fl δ st1) fun lo st2=>bnd (fh δ st2) fun hi st3=>g a lo hi st3
theorem ZbD {r:V→Option Int→Option Int→Hp→VK→Prop} {g:D→Option Int→Option Int→Dm D} {ta:TE} {tl th:TO} {fa:DSt→Dm D} {fl fh:DSt→Dm (Option Int)} (hr:SoS3 K r g) (ha:SoE K ta fa) (hl:SoO K tl fl) (hh:SoO K th fh):SoE K (tSl r ta tl th) (fSl g fa fl fh):=by
 intro ρ σ H δ st b st' Q l rs e q
 obtain ⟨a,st1,e1,e⟩:=xac e
 obtain ⟨lo,st2,e2,e⟩:=xac e
 obtain ⟨hi,st3,e3,e⟩:=xac e
 refine ha ρ σ H δ st a st1 _ l rs e1 fun x H1 ρ1 m1 l1 r1=>hl ρ1 σ H1 δ st1 lo st2 _ l1 (rs.mn m1) e2 fun y H2 ρ2 m2 l2 r2=>hh ρ2 σ H2 δ st2 hi st3 _ l2 (rs.mn (m1.trans m2)) e3 fun z H3 ρ3 m3 l3 r3=>?_
 subst r2 r3
 exact hr y z ρ3 H3 st3 x a b st' Q l3 (r1.mn (m2.trans m3)) e fun v H4 ρ4 m4 l4 r4=>q v H4 ρ4 (((m1.trans m2).trans m3).trans m4) l4 r4
noncomputable def fCB (g:List D→Dm D) (fa:DSt→Dm (List D)):DSt→Dm D:=fun δ st=>bnd (fa δ st) fun as st1=>g as st1
theorem yag {r:List V→Hp→VK→Prop} {g:List D→Dm D} {ta:TA} {fa:DSt→Dm (List D)} (hr:SoC K r g) (ha:SoA K ta fa):SoE K (tCB r ta) (fCB g fa):=by
 intro ρ σ H δ st b st' Q l rs e q
 obtain ⟨as,st1,e1,e⟩:=xac e
 exact ha ρ σ H δ st as st1 _ l rs e1 fun x H1 ρ1 m1 l1 r1=>hr ρ1 H1 st1 x as b st' Q l1 r1 e fun v H3 ρ3 m3 l3 r3=>q v H3 ρ3 (m1.trans m3) l3 r3
noncomputable def spF (K:PySem.W.Frag) (n:Nat) (F:List D→Dm D):Sp:=fun vs H Q _=>vs.length=n∧∃ (ρ:List Addr) (st:Store) (ds:List D) (b:D) (st':Store),Rl K ρ H st∧Rps K ρ H vs ds∧F ds st=some (b,st') ∧
 ∀ v H' ρ',Mn K ρ H ρ' H'→Rl K ρ' H' st'→Rp K ρ' H' v b→Q v H'
theorem xae {n:Nat} {F:List D→Dm D} {ta:TA} {fa:DSt→Dm (List D)} {E:XK} (ha:SoA K ta fa) (hn:∀ δ st as st',fa δ st=some (as,st')→as.length=n):SoE K (tCall (spF K n F) [] E ta) (fCB F fa):=by
 intro ρ σ H δ st b st' Q l rs e q
 obtain ⟨as,st1,e1,e⟩:=xac e
 refine ha ρ σ H δ st as st1 _ l rs e1 fun vs H1 ρ1 m1 l1 r1=>⟨?_,ρ1,st1,as,b,st',l1,?_,e,fun v H3 ρ3 m3 l3 r3=>q v H3 ρ3 (m1.trans m3) l3 r3⟩
 ·rw [List.append_nil,r1.length];exact hn _ _ _ _ e1
 ·rw [List.append_nil];exact r1
theorem Xae {δ:DSt} {st st':Store} {as:List D} (h:fNil δ st=some (as,st')):as.length=0:=by cases h;rfl
theorem Zab {fa:DSt→Dm D} {fr:DSt→Dm (List D)} {n:Nat} (hr:∀ δ st as st',fr δ st=some (as,st')→as.length=n):∀ δ st as st',fCons fa fr δ st=some (as,st')→as.length=n + 1:=fun δ st as st' h=>by
 obtain ⟨a,st1,e1,e⟩:=xac h
 obtain ⟨c,st2,e2,e⟩:=xac e
 cases e
 rw [List.length_cons,hr _ _ _ _ e2]
end
end L4
namespace L4
open PySem PySem.Spec L2
section
variable {K:PySem.W.Frag}
noncomputable def gI0 (h:Int→Int→D):D→D→Dm D
 | .int i,.int j,st=>some (h i j,st)
 | _,_,_=>none
theorem YbD {gv:Int→Int→V} {h:Int→Int→D} (hh:∀ i j ρ H,Rp K ρ H (gv i j) (h i j)):So2 K (rI0 gv) (gI0 h):=by
 intro ρ H st x y a c b st' Q l rx ry e q
 unfold gI0 at e
 split at e
 ·cases e;cases rx;cases ry;exact ⟨_,_,rfl,rfl,q _ H ρ .refl l (hh _ _ ρ H)⟩
 ·cases e
noncomputable def gIC (c:Int→Int→Bool) (h:Int→Int→D):D→D→Dm D
 | .int i,.int j,st=>if c i j=true then some (h i j,st) else none
 | _,_,_=>none
theorem XbP {C:Int→Int→Prop} {c:Int→Int→Bool} {gv:Int→Int→V} {h:Int→Int→D} (hc:∀ i j,c i j=true→C i j) (hh:∀ i j ρ H,Rp K ρ H (gv i j) (h i j)):So2 K (rI C gv) (gIC c h):=by
 intro ρ H st x y a d b st' Q l rx ry e q
 unfold gIC at e
 split at e
 ·split at e
  ·next hcc=>cases e;cases rx;cases ry;exact ⟨_,_,rfl,rfl,hc _ _ hcc,q _ H ρ .refl l (hh _ _ ρ H)⟩
  ·cases e
 ·cases e
noncomputable def gAdd:D→D→Dm D:=gI0 fun i j=>.int (i + j)
noncomputable def gSub:D→D→Dm D:=gI0 fun i j=>.int (i - j)
noncomputable def gMul:D→D→Dm D:=gIC (fun i j=>decide (-18446744073709551616 < i∧i < 18446744073709551616) || decide (-18446744073709551616 < j∧j < 18446744073709551616)) fun i j=>.int (i * j)
noncomputable def gFdiv:D→D→Dm D:=gIC (fun i j=>decide (0 < j∧j < 1073741824)) fun i j=>.int (i / j)
noncomputable def gMod:D→D→Dm D:=gIC (fun i j=>decide (0 < j)) fun i j=>.int (i % j)
noncomputable def gPow:D→D→Dm D:=gIC (fun i j=>decide (0≤j∧j≤1000000∧i.natAbs < 18446744073709551616)) fun i j=>.int (i ^ j.toNat)
noncomputable def gLt:D→D→Dm D:=gI0 fun i j=>.bl (decide (i < j))
noncomputable def gLe:D→D→Dm D:=gI0 fun i j=>.bl (decide (i≤j))
noncomputable def gGt:D→D→Dm D:=gI0 fun i j=>.bl (decide (j < i))
noncomputable def gGe:D→D→Dm D:=gI0 fun i j=>.bl (decide (j≤i))
theorem yal:So2 K (rI0 fun i j=>.int (i + j)) gAdd:=YbD fun _ _ _ _=>.int _
theorem za0:So2 K (rI0 fun i j=>.int (i - j)) gSub:=YbD fun _ _ _ _=>.int _
theorem yaB:So2 K (rI CMul fun i j=>.int (i * j)) gMul:=XbP (fun i j h=>by
 rw [Bool.or_eq_true,decide_eq_true_eq,decide_eq_true_eq] at h
 exact h) fun _ _ _ _=>.int _
theorem zbj:So2 K (rI CDiv fun i j=>.int (i / j)) gFdiv:=XbP (fun i j h=>of_decide_eq_true (p:=0 < j∧j < 1073741824) h) fun _ _ _ _=>.int _
theorem XaQ:So2 K (rI (fun _ j=>0 < j) fun i j=>.int (i % j)) gMod:=XbP (fun i j h=>of_decide_eq_true h) fun _ _ _ _=>.int _
theorem ZbX:So2 K (rI CPow fun i j=>.int (i ^ j.toNat)) gPow:=XbP (fun i j h=>by have h:=of_decide_eq_true (p:=0≤j∧j≤1000000∧i.natAbs < 18446744073709551616) h;exact ⟨h.1,h.2.1,by omega⟩) fun _ _ _ _=>.int _
theorem so_lt:So2 K (rI0 fun i j=>.bl (decide (i < j))) gLt:=YbD fun _ _ _ _=>.bl _
theorem so_gt:So2 K (rI0 fun i j=>.bl (decide (j < i))) gGt:=YbD fun _ _ _ _=>.bl _
theorem so_ge:So2 K (rI0 fun i j=>.bl (decide (j≤i))) gGe:=YbD fun _ _ _ _=>.bl _
noncomputable def gNeg:D→Dm D
 | .int i,st=>some (.int (-i),st)
 | _,_=>none
theorem YbX:So1 K (rU fun i=>.int (-i)) gNeg:=by
 intro ρ H st x a b st' Q l rx e q
 unfold gNeg at e
 split at e
 ·cases e;cases rx;exact ⟨_,rfl,q _ H ρ .refl l (.int _)⟩
 ·cases e
noncomputable def sV:D→Option V
 | .non=>some .non
 | .bl b=>some (.bl b)
 | .int i=>some (.int i)
 | .str x=>some (.str x)
 | _=>none
theorem Ybu {ρ:List Addr} {H:Hp} {x v:V} {a:D} (r:Rp K ρ H x a) (h:sV a=some v):x=v:=by
 cases r <;> first | (cases h;rfl) | cases h
noncomputable def gEq (neg:Bool):D→D→Dm D:=fun a b st=>match sV a,sV b with
 | some x,some y=>if scal x y=true then some (.bl (if neg then !decide (x=y) else decide (x=y)),st) else none
 | _,_=>none
theorem ZaW:So2 K rEq (gEq false):=by
 intro ρ H st x y a c b st' Q l rx ry e q
 unfold gEq at e
 split at e
 ·next u v h1 h2 =>
  split at e
  ·next hs=>cases e;cases Ybu rx h1;cases Ybu ry h2;exact ⟨hs,q _ H ρ .refl l (.bl _)⟩
  ·cases e
 ·cases e
theorem xbu:So2 K rNe (gEq true):=by
 intro ρ H st x y a c b st' Q l rx ry e q
 unfold gEq at e
 split at e
 ·next u v h1 h2 =>
  split at e
  ·next hs=>cases e;cases Ybu rx h1;cases Ybu ry h2;exact ⟨hs,q _ H ρ .refl l (.bl _)⟩
  ·cases e
 ·cases e
noncomputable def mapO {α β:Type} (f:α→Option β):List α→Option (List β)
 | []=>some []
 | a :: r=>match f a,mapO f r with
  | some b,some s=>some (b :: s)
  | _,_=>none
theorem YaG {α β:Type} {f:α→Option β} {a:α} {r:List α} {s:List β} (h:mapO f (a :: r)=some s):∃ b t,f a=some b∧mapO f r=some t∧s=b :: t:=by
 unfold mapO at h
 split at h
 ·next b t h1 h2=>cases h;exact ⟨b,t,h1,h2,rfl⟩
 ·cases h
theorem XaM {α β γ:Type} {f:α→Option β} {g:γ→α} {k:γ→β} (h:∀ c,f (g c)=some (k c)):∀ l:List γ,mapO f (l.map g)=some (l.map k)
 | []=>rfl
 | c :: r=>by
  show mapO f (g c :: r.map g)=_
  unfold mapO
  rw [h c,XaM h r]
  rfl
noncomputable def toP (st:Store):Nat→D→Option PyData
 | 0,_=>none
 | _ + 1,.non=>some .none
 | _ + 1,.bl b=>some (.bool b)
 | _ + 1,.int i=>some (.int i)
 | _ + 1,.str x=>some (.str x)
 | _ + 1,.ty _=>none
 | n + 1,.tup ds=>(mapO (toP st n) ds).map PyData.tuple
 | n + 1,.ref i=>match items st i with
  | some ds=>(mapO (toP st n) ds).map PyData.list
  | none=>none
theorem xbD {ρ:List Addr} {H:Hp} {st:Store} (l:Rl K ρ H st):∀ (n:Nat) {v:V} {d:D} {p:PyData},Rp K ρ H v d→toP st n d=some p→Rep K H v p
 | 0,_,_,_,_,h=>by simp [toP] at h
 | n + 1,v,d,p,r,h=>by
  have all:∀ {vs:List V} {ds:List D} {ps:List PyData},Rps K ρ H vs ds→mapO (toP st n) ds=some ps→Reps K H vs ps:=by
   intro vs ds ps rr
   induction vs generalizing ds ps with
   | nil=>intro hm;cases rr;cases hm;exact .nil
   | cons w ws ih =>
    intro hm
    cases rr with
    | cons ra rb =>
     obtain ⟨b,t,h1,h2,rfl⟩:=YaG hm
     exact .cons (xbD l n ra h1) (ih rb h2)
  cases r with
  | non=>simp [toP] at h;subst h;exact .non
  | bl b=>simp [toP] at h;subst h;exact .bl b
  | int i=>simp [toP] at h;subst h;exact .int i
  | str x=>simp [toP] at h;subst h;exact .str x
  | ty n=>simp [toP] at h
  | ref hi =>
   simp only [toP] at h
   split at h
   ·next ds hd =>
    obtain ⟨ps,h1,rfl⟩:=Option.map_eq_some_iff.mp h
    obtain ⟨vs,e,rr⟩:=l.items hi hd
    exact .lst e (all rr h1)
   ·cases h
  | tup q rr =>
   simp only [toP] at h
   obtain ⟨ps,h1,rfl⟩:=Option.map_eq_some_iff.mp h
   exact .tup q (all rr h1)
noncomputable def gEqD (neg:Bool):D→D→Dm D:=fun a b st=>match toP st 20 a,toP st 20 b with
 | some p,some q=>if (PyData.canLay0 p && PyData.canLay0 q && decide (min p.depth q.depth≤60))=true then some (.bl (if neg then !PyData.eqv p q else PyData.eqv p q),st) else none
 | _,_=>none
theorem XbD (neg:Bool):So2 K (rEqD K neg) (gEqD neg):=by
 intro ρ H st x y a c b st' Q l rx ry e q
 unfold gEqD at e
 split at e
 ·next u v h1 h2 =>
  split at e
  ·next hs =>
   cases e
   rw [Bool.and_eq_true,Bool.and_eq_true,decide_eq_true_eq] at hs
   exact ⟨u,v,xbD l 20 rx h1,xbD l 20 ry h2,hs.1.1,hs.1.2,hs.2,q _ H ρ .refl l (.bl _)⟩
  ·cases e
 ·cases e
theorem at_of {ρ:List Addr} {H:Hp} {vs:List V} {ds:List D} {i:Int} {d:D} (r:Rps K ρ H vs ds) (h:atI ds i=some d):∃ v,atI vs i=some v∧Rp K ρ H v d:=by
 unfold atI at h ⊢
 rw [r.length]
 cases hx:ixN ds.length i with
 | none=>rw [hx] at h;cases h
 | some j =>
  rw [hx] at h
  exact r.got h
noncomputable def gIxT:D→D→Dm D
 | .tup ds,.int i,st=>match atI ds i with
  | some d=>some (d,st)
  | none=>none
 | _,_,_=>none
theorem zag:So2 K (rIxT K) gIxT:=by
 intro ρ H st x y a c b st' Q l rx ry e q
 unfold gIxT at e
 split at e
 ·split at e
  ·next d hd =>
   cases e
   cases ry
   cases rx with
   | tup s r =>
    obtain ⟨v,hv,rv⟩:=at_of r hd
    exact ⟨_,_,_,v,rfl,rfl,s,hv,q v H ρ .refl l rv⟩
  ·cases e
 ·cases e
noncomputable def gIxL:D→D→Dm D
 | .ref r,.int i,st=>match items st r with
  | some ds=>match atI ds i with
   | some d=>some (d,st)
   | none=>none
  | none=>none
 | _,_,_=>none
theorem zaz:So2 K (rIxL K) gIxL:=by
 intro ρ H st x y a c b st' Q l rx ry e q
 unfold gIxL at e
 split at e
 ·split at e
  ·next ds hi =>
   split at e
   ·next d hd =>
    cases e
    cases ry
    cases rx with
    | ref hr =>
     obtain ⟨vs,s,r⟩:=l.items hr hi
     obtain ⟨v,hv,rv⟩:=at_of r hd
     exact ⟨_,_,_,v,rfl,rfl,s,hv,q v H ρ .refl l rv⟩
   ·cases e
  ·cases e
 ·cases e
noncomputable def gIxS:D→D→Dm D
 | .str z,.int i,st=>if lim z.length=true then match atI z.cps.toList i with
   | some c=>some (.str ⟨#[c]⟩,st)
   | none=>none
  else none
 | _,_,_=>none
noncomputable def cutD (xs:List D) (lo hi:Option Int):List D:=(xs.drop (HT.sIx xs.length 0 lo)).take (HT.sIx xs.length xs.length hi - HT.sIx xs.length 0 lo)
theorem Rps.cut {ρ:List Addr} {H:Hp} {vs:List V} {ds:List D} (r:Rps K ρ H vs ds) (lo hi:Option Int):Rps K ρ H (cutV vs lo hi) (cutD ds lo hi):=by
 unfold cutV cutD
 rw [r.length]
 exact (r.drop _).take _
noncomputable def gSlT:D→Option Int→Option Int→Dm D
 | .tup ds,lo,hi,st=>some (.tup (cutD ds lo hi),st)
 | _,_,_,_=>none
theorem got {ρ:List Addr} {H:Hp} {st:Store} {vs:List V} {ds:List D} {Q:VK} (l:Rl K ρ H st) (r:Rps K ρ H vs ds) (q:∀ v H' ρ',Mn K ρ H ρ' H'→Rl K ρ' H' st→Rp K ρ' H' v (.tup ds)→Q v H'):GotT K H vs Q :=
 fun p H' s e=>q _ H' ρ (Mn.same e) (l.same e) (.tup s (r.mn (Mn.same e)))
theorem xbX:SoS3 K (rSlTA K) gSlT:=by
 intro lo hi ρ H st x a b st' Q l rx e q
 cases a with
 | tup ds =>
  cases e
  cases rx with
  | tup s r=>exact ⟨_,_,rfl,s,got l (r.cut lo hi) q⟩
 | _=>cases e
noncomputable def gSlL:D→Option Int→Option Int→Dm D
 | .ref r,lo,hi,st=>match items st r with
  | some ds=>some (.ref st.length,st ++ [.lst (cutD ds lo hi)])
  | none=>none
 | _,_,_,_=>none
theorem zbE:SoS3 K (rSlL K) gSlL:=by
 intro lo hi ρ H st x a b st' Q l rx e q
 cases a with
 | ref i =>
  simp only [gSlL] at e
  split at e
  ·next ds hd =>
   cases e
   cases rx with
   | ref hr =>
    obtain ⟨vs,s,r⟩:=l.items hr hd
    exact ⟨_,_,rfl,s,fun p hp=>q _ _ _ (Mn.new hp) (l.newL hp (r.cut lo hi)) (.ref (newR l))⟩
  ·cases e
 | _=>cases e
noncomputable def gCatT:D→D→Dm D
 | .tup a,.tup b,st=>if lim (a.length + b.length)=true then some (.tup (a ++ b),st) else none
 | _,_,_=>none
theorem ybj:So2 K (rCatTA K) gCatT:=by
 intro ρ H st x y a c b st' Q l rx ry e q
 unfold gCatT at e
 split at e
 ·split at e
  ·next hl =>
   cases e
   cases rx with
   | tup s r =>
    cases ry with
    | tup s' r'=>exact ⟨_,_,_,_,rfl,rfl,s,s',by rw [r.length,r'.length];exact Ya4 hl,got l (r.append r') q⟩
  ·cases e
 ·cases e
noncomputable def own (st:Store) (i:Nat):Option (List D):=match st[i]? with
 | some (.lst ds)=>some ds
 | _=>none
theorem Xat {st:Store} {i:Nat} {ds:List D} (h:own st i=some ds):st[i]?=some (.lst ds):=by
 unfold own at h
 split at h
 ·next ds' hs=>cases h;exact hs
 ·cases h
noncomputable def gCat:D→D→Dm D
 | .ref i,.ref j,st=>match own st i,own st j with
  | some a,some b=>if lim (a.length + b.length)=true then some (.ref st.length,st ++ [.lst (a ++ b)]) else none
  | _,_=>none
 | _,_,_=>none
theorem YaV:So2 K rCat gCat:=by
 intro ρ H st x y a c b st' Q l rx ry e q
 unfold gCat at e
 split at e
 ·split at e
  ·next a b h1 h2 =>
   split at e
   ·next hl =>
    cases e
    cases rx with
    | ref hi =>
     cases ry with
     | ref hj =>
      obtain ⟨vs,e1,r1⟩:=l.obj _ _ _ hi (Xat h1)
      obtain ⟨ws,e2,r2⟩:=l.obj _ _ _ hj (Xat h2)
      exact ⟨_,_,_,_,rfl,rfl,e1,e2,by rw [r1.length,r2.length];exact Ya4 hl,fun p hp=>q _ _ _ (Mn.new hp) (l.newL hp (r1.append r2)) (.ref (newR l))⟩
   ·cases e
  ·cases e
 ·cases e
noncomputable def gRep:D→D→Dm D
 | .ref i,.int k,st=>match own st i with
  | some a=>if (decide (-9223372036854775808≤k∧k < 9223372036854775808) && lim (a.length * k.toNat))=true then some (.ref st.length,st ++ [.lst (List.replicate k.toNat a).flatten]) else none
  | _=>none
 | _,_,_=>none
theorem XbX {ρ:List Addr} {H:Hp}:∀ {ws vs:List V} {ds:List D},Rps K ρ H ws ds→mapO sV ds=some vs→ws=vs
 | _,_,_,.nil,h=>by cases h;rfl
 | _,_,_,.cons a b,h=>by
  obtain ⟨x,t,h1,h2,rfl⟩:=YaG h
  rw [Ybu a h1,XbX b h2]
theorem ybE {a:D} {v:V} (h:sV a=some v):flatV v=true:=by cases a <;> first | (cases h;rfl) | cases h
theorem Xbn:∀ {ds:List D} {vs:List V},mapO sV ds=some vs→vs.all flatV=true
 | [],_,h=>by cases h;rfl
 | d :: r,_,h=>by
  obtain ⟨x,t,h1,h2,rfl⟩:=YaG h
  rw [List.all_cons,ybE h1,Xbn h2];rfl
noncomputable def seqOf (st:Store):D→Option (List D)
 | .tup ds=>some ds
 | .ref i=>items st i
 | _=>none
theorem zbo {ρ:List Addr} {H:Hp} {st:Store} {x:V} {a:D} {ds:List D} (l:Rl K ρ H st) (r:Rp K ρ H x a) (h:seqOf st a=some ds):∃ p vs,x=.ref p∧(SqL K H p vs∨SqT K H p vs)∧Rps K ρ H vs ds:=by
 cases r <;> first | (cases h;done) | skip
 ·next hi=>obtain ⟨vs,s,r⟩:=l.items hi h;exact ⟨_,vs,rfl,.inl s,r⟩
 ·next s r=>cases h;exact ⟨_,_,rfl,.inr s,r⟩
noncomputable def gIn (neg:Bool):D→D→Dm D:=fun a c st=>match sV a,(seqOf st c).bind (mapO sV) with
 | some x,some vs=>some (.bl (if neg then !inV x vs else inV x vs),st)
 | _,_=>none
theorem Yb4 (neg:Bool):So2 K (rIn K neg) (gIn neg):=by
 intro ρ H st x y a c b st' Q l rx ry e q
 unfold gIn at e
 split at e
 ·next u vs h1 h2 =>
  cases e
  obtain ⟨ds,h3,h4⟩:=Option.bind_eq_some_iff.mp h2
  obtain ⟨p,ws,rfl,s,r⟩:=zbo l ry h3
  cases Ybu rx h1
  cases XbX r h4
  exact ⟨p,_,rfl,s,ybE h1,Xbn h4,q _ H ρ .refl l (.bl _)⟩
 ·cases e
theorem Rps.one' {ρ:List Addr} {H:Hp} {vs:List V} {d:D} (r:Rps K ρ H vs [d]):∃ v,vs=[v]∧Rp K ρ H v d:=by cases r with | cons a b=>cases b;exact ⟨_,rfl,a⟩
theorem Rps.two' {ρ:List Addr} {H:Hp} {vs:List V} {d e:D} (r:Rps K ρ H vs [d,e]):∃ v w,vs=[v,w]∧Rp K ρ H v d∧Rp K ρ H w e:=by
 cases r with
 | cons a b=>obtain ⟨w,rfl,r⟩:=b.one';exact ⟨_,_,rfl,a,r⟩
noncomputable def gLen:List D→Dm D
 | [a],st=>match seqOf st a with
  | some ds=>some (.int ds.length,st)
  | none=>none
 | _,_=>none
theorem Xan:SoC K (fun xs H Q=>∃ p ys,xs=[.ref p]∧(SqL K H p ys∨SqT K H p ys)∧Q (.int ys.length) H) gLen:=by
 intro ρ H st xs as b st' Q l rx e q
 unfold gLen at e
 split at e
 ·split at e
  ·next ds hd =>
   cases e
   obtain ⟨v,rfl,r⟩:=rx.one'
   obtain ⟨p,vs,rfl,s,r⟩:=zbo l r hd
   exact ⟨p,vs,rfl,s,q _ H ρ .refl l (by rw [r.length];exact .int _)⟩
  ·cases e
 ·cases e
noncomputable def gList:List D→Dm D
 | [a],st=>match seqOf st a with
  | some ds=>some (.ref st.length,st ++ [.lst ds])
  | none=>none
 | _,_=>none
theorem Zbj:SoC K (fun xs H Q=>∃ p ys,xs=[.ref p]∧(SqL K H p ys∨SqT K H p ys)∧∀ l,H l=none→Q (.ref l) (upd H l (.lst ys))) gList:=by
 intro ρ H st xs as b st' Q l rx e q
 unfold gList at e
 split at e
 ·split at e
  ·next ds hd =>
   cases e
   obtain ⟨v,rfl,r⟩:=rx.one'
   obtain ⟨p,vs,rfl,s,r⟩:=zbo l r hd
   exact ⟨p,vs,rfl,s,fun p hp=>q _ _ _ (Mn.new hp) (l.newL hp r) (.ref (newR l))⟩
  ·cases e
 ·cases e
noncomputable def gTuple:List D→Dm D
 | [a],st=>match seqOf st a with
  | some ds=>some (.tup ds,st)
  | none=>none
 | _,_=>none
theorem Zap:SoC K (fun xs H Q=>∃ p ys,xs=[.ref p]∧((SqL K H p ys∧∀ l,H l=none→Q (.ref l) (upd H l (.tup ys)))∨(SqT K H p ys∧Q (.ref p) H))) gTuple:=by
 intro ρ H st xs as b st' Q l rx e q
 unfold gTuple at e
 split at e
 ·split at e
  ·next ds hd =>
   cases e
   obtain ⟨v,rfl,r⟩:=rx.one'
   obtain ⟨p,vs,rfl,s,r'⟩:=zbo l r hd
   refine ⟨p,vs,rfl,?_⟩
   rcases s with s | s
   ·exact .inl ⟨s,(got l r' q).new⟩
   ·exact .inr ⟨s,(got l r' q).it s⟩
  ·cases e
 ·cases e
noncomputable def gMax2:List D→Dm D
 | [.int i,.int j],st=>some (.int (if j > i then j else i),st)
 | _,_=>none
noncomputable def gMin2:List D→Dm D
 | [.int i,.int j],st=>some (.int (if j < i then j else i),st)
 | _,_=>none
theorem xb4:SoC K (fun xs H Q=>∃ i j,xs=[.int i,.int j]∧Q (.int (if j > i then j else i)) H) gMax2:=by
 intro ρ H st xs as b st' Q l rx e q
 unfold gMax2 at e
 split at e
 ·cases e
  obtain ⟨v,w,rfl,r1,r2⟩:=rx.two'
  cases r1;cases r2
  exact ⟨_,_,rfl,q _ H ρ .refl l (.int _)⟩
 ·cases e
theorem Xb4:SoC K (fun xs H Q=>∃ i j,xs=[.int i,.int j]∧Q (.int (if j < i then j else i)) H) gMin2:=by
 intro ρ H st xs as b st' Q l rx e q
 unfold gMin2 at e
 split at e
 ·cases e
  obtain ⟨v,w,rfl,r1,r2⟩:=rx.two'
  cases r1;cases r2
  exact ⟨_,_,rfl,q _ H ρ .refl l (.int _)⟩
 ·cases e
noncomputable def gInt1:List D→Dm D
 | [.int i],st=>some (.int i,st)
 | [.bl k],st=>some (.int (if k then 1 else 0),st)
 | _,_=>none
theorem ZbE:SoC K (fun xs H Q=>(∃ i,xs=[.int i]∧Q (.int i) H)∨∃ k,xs=[.bl k]∧Q (.int (if k then 1 else 0)) H) gInt1:=by
 intro ρ H st xs as b st' Q l rx e q
 unfold gInt1 at e
 split at e
 ·cases e
  obtain ⟨v,rfl,r⟩:=rx.one'
  cases r
  exact .inl ⟨_,rfl,q _ H ρ .refl l (.int _)⟩
 ·cases e
  obtain ⟨v,rfl,r⟩:=rx.one'
  cases r
  exact .inr ⟨_,rfl,q _ H ρ .refl l (.int _)⟩
 ·cases e
noncomputable def gRange1:List D→Dm D
 | [.int j],st=>some (.ref st.length,st ++ [.rng 0 j])
 | _,_=>none
noncomputable def gRange2:List D→Dm D
 | [.int i,.int j],st=>some (.ref st.length,st ++ [.rng i j])
 | _,_=>none
theorem ya0:SoC K (fun xs H Q=>∃ j:Int,xs=[.int j]∧∀ p,H p=none→Q (.ref p) (upd H p (.rng 0 j))) gRange1:=by
 intro ρ H st xs as b st' Q l rx e q
 unfold gRange1 at e
 split at e
 ·cases e
  obtain ⟨v,rfl,r⟩:=rx.one'
  cases r
  exact ⟨_,rfl,fun p hp=>q _ _ _ (Mn.new hp) (l.new hp (show RpO K _ _ p (.rng _ _) from Xaj)) (.ref (newR l))⟩
 ·cases e
theorem xaG:SoC K (fun xs H Q=>∃ i j:Int,xs=[.int i,.int j]∧∀ p,H p=none→Q (.ref p) (upd H p (.rng i j))) gRange2:=by
 intro ρ H st xs as b st' Q l rx e q
 unfold gRange2 at e
 split at e
 ·cases e
  obtain ⟨v,w,rfl,r1,r2⟩:=rx.two'
  cases r1;cases r2
  exact ⟨_,_,rfl,fun p hp=>q _ _ _ (Mn.new hp) (l.new hp (show RpO K _ _ p (.rng _ _) from Xaj)) (.ref (newR l))⟩
 ·cases e
noncomputable def rangeD (lo:Int) (n:Nat):List D:=(List.range n).map fun (k:Nat)=>D.int (lo + k)
theorem YbE {ρ:List Addr} {H:Hp} (lo:Int) (n:Nat):Rps K ρ H (rangeV lo n) (rangeD lo n):=by
 unfold rangeV rangeD
 induction (List.range n) with
 | nil=>exact .nil
 | cons a r ih=>exact .cons (.int _) ih
noncomputable def okR (lo hi:Int):Bool:=decide (-4611686018427387904≤lo∧lo < 4611686018427387904∧-4611686018427387904≤hi∧hi < 4611686018427387904) && lim (hi - lo).toNat
theorem zbY {lo hi:Int} (h:okR lo hi=true):(-(2 ^ 62)≤lo∧lo < 2 ^ 62∧-(2 ^ 62)≤hi∧hi < 2 ^ 62)∧(hi - lo).toNat≤2 ^ 24:=by
 unfold okR at h
 rw [Bool.and_eq_true,decide_eq_true_eq] at h
 exact ⟨by omega,Nat.le_trans (Nat.le_of_ble_eq_true h.2) (by decide)⟩
noncomputable def rngOf (st:Store):D→Option (Int×Int)
 | .ref i=>match st[i]? with
  | some (.rng lo hi)=>some (lo,hi)
  | _=>none
 | _=>none
theorem rng_of {ρ:List Addr} {H:Hp} {st:Store} {x:V} {a:D} {lo hi:Int} (l:Rl K ρ H st) (r:Rp K ρ H x a) (h:rngOf st a=some (lo,hi)):∃ p,x=.ref p∧H p=some (.rng lo hi):=by
 cases r <;> first | (cases h;done) | skip
 ·next hi' =>
  simp only [rngOf] at h
  split at h
  ·next lo' hi'' hs=>cases h;exact ⟨_,rfl,l.obj _ _ _ hi' hs⟩
  ·cases h
noncomputable def gListR:List D→Dm D
 | [a],st=>match rngOf st a with
  | some (lo,hi)=>if okR lo hi=true then some (.ref st.length,st ++ [.lst (rangeD lo (hi - lo).toNat)]) else none
  | none=>none
 | _,_=>none
theorem XaB:SoC K (fun xs H Q=>∃ p lo hi,xs=[.ref p]∧H p=some (.rng lo hi)∧(-(2 ^ 62)≤lo∧lo < 2 ^ 62∧-(2 ^ 62)≤hi∧hi < 2 ^ 62)∧(hi - lo).toNat≤2 ^ 24 ∧
  ∀ l,H l=none→Q (.ref l) (upd H l (.lst (rangeV lo (hi - lo).toNat)))) gListR:=by
 intro ρ H st xs as b st' Q l rx e q
 unfold gListR at e
 split at e
 ·split at e
  ·next lo hi hd =>
   split at e
   ·next ok =>
    cases e
    obtain ⟨v,rfl,r⟩:=rx.one'
    obtain ⟨p,rfl,s⟩:=rng_of l r hd
    exact ⟨p,lo,hi,rfl,s,(zbY ok).1,(zbY ok).2,fun p hp=>q _ _ _ (Mn.new hp) (l.newL hp (YbE lo _)) (.ref (newR l))⟩
   ·cases e
  ·cases e
 ·cases e
noncomputable def gTupleR:List D→Dm D
 | [a],st=>match rngOf st a with
  | some (lo,hi)=>if okR lo hi=true then some (.tup (rangeD lo (hi - lo).toNat),st) else none
  | none=>none
 | _,_=>none
noncomputable def iV:D→Option Int
 | .int i=>some i
 | _=>none
theorem ybY {ρ:List Addr} {H:Hp}:∀ {ws:List V} {ds:List D} {ns:List Int},Rps K ρ H ws ds→mapO iV ds=some ns→ws=ns.map V.int
 | _,_,_,.nil,h=>by cases h;rfl
 | _,_,_,.cons a b,h=>by
  obtain ⟨x,t,h1,h2,rfl⟩:=YaG h
  rw [ybY b h2]
  cases a <;> first | (cases h1;rfl) | cases h1
noncomputable def sortI (ns:List Int):List Int:=ns.mergeSort fun a b=>decide (a≤b)
noncomputable def gSorted:List D→Dm D
 | [a],st=>match (seqOf st a).bind (mapO iV) with
  | some ns=>if ns.length < 64 then some (.ref st.length,st ++ [.lst ((sortI ns).map D.int)]) else none
  | none=>none
 | _,_=>none
noncomputable def bV:D→Option Bool
 | .bl i=>some i
 | _=>none
theorem ZbY {ρ:List Addr} {H:Hp}:∀ {ws:List V} {ds:List D} {ns:List Bool},Rps K ρ H ws ds→mapO bV ds=some ns→ws=ns.map V.bl
 | _,_,_,.nil,h=>by cases h;rfl
 | _,_,_,.cons a b,h=>by
  obtain ⟨x,t,h1,h2,rfl⟩:=YaG h
  rw [ZbY b h2]
  cases a <;> first | (cases h1;rfl) | cases h1
noncomputable def gAll:List D→Dm D
 | [.ref i],st=>match (items st i).bind (mapO bV) with
  | some bs=>some (.bl (bs.all id),st)
  | none=>none
 | _,_=>none
theorem YbY:SoC K (fun xs H Q=>∃ (p:Addr) (bs:List Bool),xs=[.ref p]∧SqL K H p (bs.map V.bl)∧Q (.bl (bs.all id)) H) gAll:=by
 intro ρ H st xs as b st' Q l rx e q
 unfold gAll at e
 split at e
 ·split at e
  ·next bs hd =>
   cases e
   obtain ⟨v,rfl,r⟩:=rx.one'
   obtain ⟨ds,h3,h4⟩:=Option.bind_eq_some_iff.mp hd
   cases r with
   | ref hi =>
    obtain ⟨vs,s,r⟩:=l.items hi h3
    cases ZbY r h4
    exact ⟨_,bs,rfl,s,q _ H ρ .refl l (.bl _)⟩
  ·cases e
 ·cases e
noncomputable def tyD (T:String) (st:Store):D→Bool
 | .str _=>T == "str"
 | .tup _=>T == "tuple"
 | .ref i=>T == "list" && (items st i).isSome
 | _=>false
theorem tyD_of {ρ:List Addr} {H:Hp} {st:Store} {x:V} {a:D} {T:String} (l:Rl K ρ H st) (r:Rp K ρ H x a) (h:tyD T st a=true):tyV K T x H:=by
 cases r <;> first | (cases h;done) | skip
 ·exact eq_of_beq h
 ·next hi =>
  simp only [tyD,Bool.and_eq_true] at h
  obtain ⟨ds,hd⟩:=Option.isSome_iff_exists.mp h.2
  obtain ⟨vs,s,_⟩:=l.items hi hd
  exact .inl ⟨eq_of_beq h.1,vs,s⟩
 ·next s r=>exact .inr (.inl ⟨eq_of_beq h,_,s⟩)
noncomputable def fBM (T:String) (g:D→List D→Dm D) (fo:DSt→Dm D) (fa:DSt→Dm (List D)):DSt→Dm D:=fun δ st=>bnd (fo δ st) fun o st1=>if tyD T st1 o=true then bnd (fa δ st1) fun as st2=>g o as st2 else none
theorem Xbu {T:String} {r:V→List V→Hp→VK→Prop} {g:D→List D→Dm D} {to:TE} {ta:TA} {fo:DSt→Dm D} {fa:DSt→Dm (List D)} (hr:SoM K T r g) (ho:SoE K to fo) (ha:SoA K ta fa):SoE K (tBM K T r to ta) (fBM T g fo fa):=by
 intro ρ σ H δ st b st' Q l rs e q
 obtain ⟨o,st1,e1,e⟩:=xac e
 split at e
 ·next ht =>
  obtain ⟨as,st2,e2,e⟩:=xac e
  refine ho ρ σ H δ st o st1 _ l rs e1 fun x H1 ρ1 m1 l1 r1=>⟨tyD_of l1 r1 ht,ha ρ1 σ H1 δ st1 as st2 _ l1 (rs.mn m1) e2 fun xs H2 ρ2 m2 l2 r2=>?_⟩
  exact hr ρ2 H2 st2 x xs o as b st' Q l2 (r1.mn m2) r2 e fun v H3 ρ3 m3 l3 r3=>q v H3 ρ3 ((m1.trans m2).trans m3) l3 r3
 ·cases e
noncomputable def gAppend:D→List D→Dm D
 | .ref i,[y],st=>match own st i with
  | some xs=>if lim xs.length=true then some (.non,st.set i (.lst (xs ++ [y]))) else none
  | none=>none
 | _,_,_=>none
theorem Za0:SoM K "list" rAppend gAppend:=by
 intro ρ H st x xs a as b st' Q l rx rxs e q
 unfold gAppend at e
 split at e
 ·split at e
  ·next ys hy =>
   split at e
   ·next hl =>
    cases e
    obtain ⟨v,rfl,r⟩:=rxs.one'
    cases rx with
    | ref hi =>
     obtain ⟨vs,e1,r1⟩:=l.obj _ _ _ hi (Xat hy)
     obtain ⟨l2,m2⟩:=l.putL hi (Xat hy) (r1.append (.one r))
     exact ⟨_,vs,v,rfl,rfl,e1,by rw [r1.length];exact ybD hl,q _ _ ρ m2 l2 .non⟩
   ·cases e
  ·cases e
 ·cases e
noncomputable def gExtend:D→List D→Dm D
 | .ref i,[.ref j],st=>match own st i,own st j with
  | some xs,some ys=>if lim (xs.length + ys.length)=true then some (.non,st.set i (.lst (xs ++ ys))) else none
  | _,_=>none
 | _,_,_=>none
theorem xbE:SoM K "list" rExtend gExtend:=by
 intro ρ H st x xs a as b st' Q l rx rxs e q
 unfold gExtend at e
 split at e
 ·split at e
  ·next xs' ys hx hy =>
   split at e
   ·next hl =>
    cases e
    obtain ⟨v,rfl,r⟩:=rxs.one'
    cases rx with
    | ref hi =>
     cases r with
     | ref hj =>
      obtain ⟨vs,e1,r1⟩:=l.obj _ _ _ hi (Xat hx)
      obtain ⟨ws,e2,r2⟩:=l.obj _ _ _ hj (Xat hy)
      obtain ⟨l2,m2⟩:=l.putL hi (Xat hx) (r1.append r2)
      exact ⟨_,_,vs,ws,rfl,rfl,e1,e2,by rw [r1.length,r2.length];exact Ya4 hl,q _ _ ρ m2 l2 .non⟩
   ·cases e
  ·cases e
 ·cases e
noncomputable def gPopAt:D→List D→Dm D
 | .ref i,[.int k],st=>match own st i with
  | some xs=>if decide (-9223372036854775808≤k∧k < 9223372036854775808)=true then match seqIndex? k xs.length with
    | some j=>match xs[j]? with
     | some y=>some (y,st.set i (.lst (xs.eraseIdx j)))
     | none=>none
    | none=>none
   else none
  | none=>none
 | _,_,_=>none
theorem zbQ:SoM K "list" rPopAt gPopAt:=by
 intro ρ H st x xs a as b st' Q l rx rxs e q
 unfold gPopAt at e
 split at e
 ·split at e
  ·next ys hy =>
   split at e
   ·next hk =>
    split at e
    ·next j hj =>
     split at e
     ·next y hy' =>
      cases e
      obtain ⟨v,rfl,r⟩:=rxs.one'
      cases r
      cases rx with
      | ref hi =>
       obtain ⟨vs,e1,r1⟩:=l.obj _ _ _ hi (Xat hy)
       obtain ⟨w,hw,rw'⟩:=r1.got hy'
       obtain ⟨l2,m2⟩:=l.putL hi (Xat hy) (r1.erase j)
       have hk:=of_decide_eq_true hk
       exact ⟨_,vs,_,j,w,rfl,rfl,e1,by omega,by omega,by rw [r1.length];exact hj,hw,q _ _ ρ m2 l2 (rw'.mn m2)⟩
     ·cases e
    ·cases e
   ·cases e
  ·cases e
 ·cases e
noncomputable def gIndex:D→List D→Dm D
 | .tup ds,[.int v],st=>match mapO iV ds with
  | some ns=>match ns.findIdx? (fun i=>decide (i=v)) with
   | some j=>some (.int (j:Int),st)
   | none=>none
  | none=>none
 | _,_,_=>none
theorem ybQ:SoM K "tuple" (rIndex K) gIndex:=by
 intro ρ H st x xs a as b st' Q l rx rxs e q
 unfold gIndex at e
 split at e
 ·split at e
  ·next ns hn =>
   split at e
   ·next j hj =>
    cases e
    obtain ⟨v,rfl,r⟩:=rxs.one'
    cases r
    cases rx with
    | tup s r =>
     cases ybY r hn
     obtain ⟨h1,h2,h3⟩:=List.findIdx?_eq_some_iff_getElem.mp hj
     refine ⟨_,ns,_,j,rfl,rfl,s,?_,fun i hi z=>?_,q _ H ρ .refl l (.int _)⟩
     ·rw [List.getElem?_eq_getElem h1];exact congrArg some (of_decide_eq_true h2)
     ·have:=h3 i hi
      obtain ⟨hl,ez⟩:=List.getElem?_eq_some_iff.mp z
      rw [ez] at this
      simp at this
   ·cases e
  ·cases e
 ·cases e
noncomputable def tyNm (st:Store):D→Option String
 | .non=>some "NoneType"
 | .bl _=>some "bool"
 | .int _=>some "int"
 | .str _=>some "str"
 | .tup _=>some "tuple"
 | .ref i=>match st[i]? with
  | some (.lst _)=>some "list"
  | some (.dct _)=>some "dict"
  | _=>none
 | .ty _=>none
noncomputable def gIsinst:List D→Dm D
 | [a,.ty c],st=>match tyNm st a with
  | some T=>if T=c then some (.bl true,st) else none
  | none=>none
 | _,_=>none
end
end L4
namespace L4
open PySem PySem.Spec L2
section
variable {K:PySem.W.Frag}
theorem xa4:So2 K rRep gRep:=by
 intro ρ H st x y a c b st' Q l rx ry e q
 unfold gRep at e
 split at e
 ·split at e
  ·next ds hd =>
   split at e
   ·next ok =>
    cases e
    rw [Bool.and_eq_true,decide_eq_true_eq] at ok
    cases ry
    cases rx with
    | ref hi =>
     obtain ⟨vs,e1,r1⟩:=l.obj _ _ _ hi (Xat hd)
     exact ⟨_,_,vs,rfl,rfl,e1,by omega,by omega,by rw [r1.length];exact Ya4 ok.2,fun p hp=>q _ _ _ (Mn.new hp) (l.newL hp (r1.flat _)) (.ref (newR l))⟩
   ·cases e
  ·cases e
 ·cases e
theorem Rs.set {ρ:List Addr} {H:Hp} {σ:St} {δ:DSt} {v:V} {d:D} {i:Nat} (h:Rs K ρ H σ δ) (r:Rp K ρ H v d):Rs K ρ H (σ.set i (some v)) (δ.set i (some d)):=by
 refine ⟨by rw [List.length_set,List.length_set];exact h.1,fun j e hj=>?_⟩
 by_cases hij:i=j
 ·subst hij
  have hl:i < δ.length:=by
   have:=(List.getElem?_eq_some_iff.mp hj).1
   rwa [List.length_set] at this
  rw [List.getElem?_set_self hl] at hj
  cases hj
  exact ⟨v,by rw [List.getElem?_set_self (by rw [h.1];exact hl)],r⟩
 ·rw [List.getElem?_set_ne hij] at hj
  obtain ⟨w,hw,rw'⟩:=h.2 j e hj
  exact ⟨w,by rw [List.getElem?_set_ne hij];exact hw,rw'⟩
noncomputable def SoG (K:PySem.W.Frag) (g:TG) (f:D→DSt→Dm DSt):Prop :=
 ∀ (ρ:List Addr) (σ:St) (H:Hp) (δ:DSt) (st:Store) (v:V) (d:D) (δ':DSt) (st':Store) (Q:St→Hp→Prop),Rl K ρ H st→Rs K ρ H σ δ→Rp K ρ H v d→f d δ st=some (δ',st') →
  (∀ σ' H' ρ',Mn K ρ H ρ' H'→Rl K ρ' H' st'→Rs K ρ' H' σ' δ'→Q σ' H')→g v σ H Q
noncomputable def SoGs (K:PySem.W.Frag) (g:TGs) (f:List D→DSt→Dm DSt):Prop :=
 ∀ (ρ:List Addr) (σ:St) (H:Hp) (δ:DSt) (st:Store) (v:List V) (d:List D) (δ':DSt) (st':Store) (Q:St→Hp→Prop),Rl K ρ H st→Rs K ρ H σ δ→Rps K ρ H v d→f d δ st=some (δ',st') →
  (∀ σ' H' ρ',Mn K ρ H ρ' H'→Rl K ρ' H' st'→Rs K ρ' H' σ' δ'→Q σ' H')→g v σ H Q
noncomputable def hName (i:Nat):D→DSt→Dm DSt:=fun d δ st=>some (δ.set i (some d),st)
theorem zab (i:Nat):SoG K (gName i) (hName i):=by
 intro ρ σ H δ st v d δ' st' Q l rs r e q
 cases e
 exact q _ H ρ .refl l (rs.set r)
noncomputable def hNil:List D→DSt→Dm DSt
 | [],δ,st=>some (δ,st)
 | _,_,_=>none
noncomputable def hCons (f:D→DSt→Dm DSt) (g:List D→DSt→Dm DSt):List D→DSt→Dm DSt
 | d :: ds,δ,st=>bnd (f d δ st) fun δ1 st1=>g ds δ1 st1
 | _,_,_=>none
theorem xaI:SoGs K gNil hNil:=by
 intro ρ σ H δ st v d δ' st' Q l rs r e q
 cases r with
 | nil=>cases e;exact ⟨rfl,q _ H ρ .refl l rs⟩
 | cons a b=>cases e
theorem yak {t:TG} {u:TGs} {f:D→DSt→Dm DSt} {g:List D→DSt→Dm DSt} (hf:SoG K t f) (hg:SoGs K u g):SoGs K (gCons t u) (hCons f g):=by
 intro ρ σ H δ st v d δ' st' Q l rs r e q
 cases r with
 | nil=>cases e
 | cons a b =>
  obtain ⟨δ1,st1,e1,e⟩:=xac e
  exact ⟨_,_,rfl,hf ρ σ H δ st _ _ δ1 st1 _ l rs a e1 fun σ1 H1 ρ1 m1 l1 r1=>hg ρ1 σ1 H1 δ1 st1 _ _ δ' st' Q l1 r1 (b.mn m1) e fun σ2 H2 ρ2 m2 l2 r2=>q σ2 H2 ρ2 (m1.trans m2) l2 r2⟩
noncomputable def hTup (n:Nat) (f:List D→DSt→Dm DSt):D→DSt→Dm DSt
 | .tup ds,δ,st=>if ds.length=n then f ds δ st else none
 | _,_,_=>none
theorem XaI {n:Nat} {t:TGs} {f:List D→DSt→Dm DSt} (hf:SoGs K t f):SoG K (gTup K n t) (hTup n f):=by
 intro ρ σ H δ st v d δ' st' Q l rs r e q
 cases r <;> first | (cases e;done) | skip
 ·next s r =>
  simp only [hTup] at e
  split at e
  ·next hl=>exact ⟨_,_,rfl,s,by rw [r.length];exact hl,hf ρ σ H δ st _ _ δ' st' Q l rs r e q⟩
  ·cases e
noncomputable def hSub (fo fi:DSt→Dm D):D→DSt→Dm DSt:=fun d δ st=>bnd (fo δ st) fun o st1=>bnd (fi δ st1) fun i st2=>match o,i with
 | .ref r,.int k=>match own st2 r with
  | some xs=>match ixN xs.length k with
   | some j=>some (δ,st2.set r (.lst (xs.set j d)))
   | none=>none
  | none=>none
 | _,_=>none
theorem YaA {to ti:TE} {fo fi:DSt→Dm D} (ho:SoE K to fo) (hi:SoE K ti fi):SoG K (L2.gSub to ti rSetL) (hSub fo fi):=by
 intro ρ σ H δ st v d δ' st' Q l rs r e q
 obtain ⟨o,st1,e1,e⟩:=xac e
 obtain ⟨i,st2,e2,e⟩:=xac e
 refine ho ρ σ H δ st o st1 _ l rs e1 fun x H1 ρ1 m1 l1 r1=>hi ρ1 σ H1 δ st1 i st2 _ l1 (rs.mn m1) e2 fun y H2 ρ2 m2 l2 r2=>?_
 split at e
 ·split at e
  ·next xs hx =>
   split at e
   ·next j hj =>
    cases e
    cases r2
    cases r1 with
    | ref hr =>
     have hr2:=m2.r _ _ hr
     obtain ⟨vs,e3,r3⟩:=l2.obj _ _ _ hr2 (Xat hx)
     obtain ⟨l3,m3⟩:=l2.putL hr2 (Xat hx) (r3.set (r.mn (m1.trans m2)) j)
     exact ⟨_,vs,_,j,rfl,rfl,e3,by rw [r3.length];exact hj,q σ _ ρ2 ((m1.trans m2).trans m3) l3 (rs.mn ((m1.trans m2).trans m3))⟩
   ·cases e
  ·cases e
 ·cases e
noncomputable def Go (K:PySem.W.Frag) (ρ:List Addr) (H:Hp) (st':Store) (E:Ends):Fl→Prop
 | .nx δ=>∀ σ' H' ρ',Mn K ρ H ρ' H'→Rl K ρ' H' st'→Rs K ρ' H' σ' δ→E.nx σ' H'
 | .bk δ=>∀ σ' H' ρ',Mn K ρ H ρ' H'→Rl K ρ' H' st'→Rs K ρ' H' σ' δ→E.bk σ' H'
 | .ct δ=>∀ σ' H' ρ',Mn K ρ H ρ' H'→Rl K ρ' H' st'→Rs K ρ' H' σ' δ→E.ct σ' H'
 | .rt d=>∀ v H' ρ',Mn K ρ H ρ' H'→Rl K ρ' H' st'→Rp K ρ' H' v d→E.rt v H'
theorem Go.mn {ρ ρ1:List Addr} {H H1:Hp} {st':Store} {E:Ends} {fl:Fl} (g:Go K ρ H st' E fl) (m:Mn K ρ H ρ1 H1):Go K ρ1 H1 st' E fl:=by
 cases fl <;> exact fun v H' ρ' m' l r=>g v H' ρ' (m.trans m') l r
noncomputable def SoS (K:PySem.W.Frag) (t:TS) (f:DSt→Dm Fl):Prop :=
 ∀ (ρ:List Addr) (σ:St) (H:Hp) (δ:DSt) (st:Store) (fl:Fl) (st':Store) (E:Ends),Rl K ρ H st→Rs K ρ H σ δ→f δ st=some (fl,st')→Go K ρ H st' E fl→t E σ H
noncomputable def fNext:DSt→Dm Fl:=fun δ st=>some (.nx δ,st)
theorem zap:SoS K tNext fNext:=by
 intro ρ σ H δ st fl st' E l rs e g
 cases e
 exact g σ H ρ .refl l rs
noncomputable def fSeq (f g:DSt→Dm Fl):DSt→Dm Fl:=fun δ st=>bnd (f δ st) fun fl st1=>match fl with
 | .nx δ1=>g δ1 st1
 | x=>some (x,st1)
theorem zad {t u:TS} {f g:DSt→Dm Fl} (hf:SoS K t f) (hg:SoS K u g):SoS K (tSeq t u) (fSeq f g):=by
 intro ρ σ H δ st fl st' E l rs e q
 obtain ⟨x,st1,e1,e⟩:=xac e
 refine hf ρ σ H δ st x st1 _ l rs e1 ?_
 cases x with
 | nx δ1=>exact fun σ1 H1 ρ1 m1 l1 r1=>hg ρ1 σ1 H1 δ1 st1 fl st' E l1 r1 e (q.mn m1)
 | bk δ1=>cases e;exact q
 | ct δ1=>cases e;exact q
 | rt d=>cases e;exact q
theorem zaw {c:TT} {t u:TS} {fc:DSt→Dm Bool} {f g:DSt→Dm Fl} (hc:SoT K c fc) (hf:SoS K t f) (hg:SoS K u g):SoS K (tIfS c t u) (fIf fc f g):=by
 intro ρ σ H δ st fl st' E l rs e q
 obtain ⟨a,st1,e1,e⟩:=xac e
 refine hc ρ σ H δ st _ _ _ l rs e1 fun x H1 ρ1 m1 l1 r1=>?_
 subst r1
 cases x with
 | true =>
  refine iteT ?_
  rw [if_pos rfl] at e
  exact hf ρ1 σ H1 δ st1 fl st' E l1 (rs.mn m1) e (q.mn m1)
 | false =>
  refine iteF ?_
  rw [if_neg Bool.false_ne_true] at e
  exact hg ρ1 σ H1 δ st1 fl st' E l1 (rs.mn m1) e (q.mn m1)
noncomputable def fDrop (f:DSt→Dm D):DSt→Dm Fl:=fun δ st=>bnd (f δ st) fun _ st1=>some (.nx δ,st1)
theorem Ya8 {t:TE} {f:DSt→Dm D} (hf:SoE K t f):SoS K (tDrop t) (fDrop f):=by
 intro ρ σ H δ st fl st' E l rs e q
 obtain ⟨a,st1,e1,e⟩:=xac e
 cases e
 exact hf ρ σ H δ st a _ _ l rs e1 fun x H1 ρ1 m1 l1 r1=>q σ H1 ρ1 m1 l1 (rs.mn m1)
noncomputable def fRet (f:DSt→Dm D):DSt→Dm Fl:=fun δ st=>bnd (f δ st) fun d st1=>some (.rt d,st1)
theorem Xah {t:TE} {f:DSt→Dm D} (hf:SoE K t f):SoS K (tRet t) (fRet f):=by
 intro ρ σ H δ st fl st' E l rs e q
 obtain ⟨a,st1,e1,e⟩:=xac e
 cases e
 exact hf ρ σ H δ st a _ _ l rs e1 fun x H1 ρ1 m1 l1 r1=>q x H1 ρ1 m1 l1 r1
noncomputable def fAsg (f:DSt→Dm D) (h:D→DSt→Dm DSt):DSt→Dm Fl:=fun δ st=>bnd (f δ st) fun d st1=>bnd (h d δ st1) fun δ1 st2=>some (.nx δ1,st2)
theorem xad {t:TE} {g:TG} {f:DSt→Dm D} {h:D→DSt→Dm DSt} (hf:SoE K t f) (hh:SoG K g h):SoS K (tAsg t g) (fAsg f h):=by
 intro ρ σ H δ st fl st' E l rs e q
 obtain ⟨a,st1,e1,e⟩:=xac e
 obtain ⟨δ1,st2,e2,e⟩:=xac e
 cases e
 exact hf ρ σ H δ st a st1 _ l rs e1 fun x H1 ρ1 m1 l1 r1=>hh ρ1 σ H1 δ st1 x a δ1 _ _ l1 (rs.mn m1) r1 e2 fun σ2 H2 ρ2 m2 l2 r2=>q σ2 H2 ρ2 (m1.trans m2) l2 r2
noncomputable def fPar (i j:Nat) (fa:DSt→Dm (List D)):DSt→Dm Fl:=fun δ st=>bnd (fa δ st) fun as st1=>match as with
 | [a,b]=>some (.nx ((δ.set i (some a)).set j (some b)),st1)
 | _=>none
theorem ybo {i j:Nat} {t:TA} {fa:DSt→Dm (List D)} (ha:SoA K t fa):SoS K (tPar i j t) (fPar i j fa):=by
 intro ρ σ H δ st fl st' E l rs e q
 obtain ⟨as,st1,e1,e⟩:=xac e
 split at e
 ·cases e
  refine ha ρ σ H δ st _ _ _ l rs e1 fun x H1 ρ1 m1 l1 r1=>?_
  obtain ⟨v,w,rfl,r,r'⟩:=r1.two'
  exact ⟨v,w,rfl,q _ H1 ρ1 m1 l1 (((rs.mn m1).set r).set r')⟩
 ·cases e
noncomputable def fWhileGo (c:DSt→Dm Bool) (b:DSt→Dm Fl):Nat→DSt→Dm Fl
 | 0,_,_=>none
 | n + 1,δ,st=>bnd (c δ st) fun t st1=>if t=true then bnd (b δ st1) fun fl st2=>match fl with
   | .nx δ2=>fWhileGo c b n δ2 st2
   | .ct δ2=>fWhileGo c b n δ2 st2
   | .bk δ2=>some (.nx δ2,st2)
   | .rt d=>some (.rt d,st2)
  else some (.nx δ,st1)
noncomputable def fuel:Nat:=1000000
noncomputable def fWhile (c:DSt→Dm Bool) (b:DSt→Dm Fl):DSt→Dm Fl:=fWhileGo c b fuel
theorem YaX {tc:TT} {tb:TS} {c:DSt→Dm Bool} {b:DSt→Dm Fl} (hc:SoT K tc c) (hb:SoS K tb b):SoS K (tWhile tc tb) (fWhile c b):=by
 intro ρ σ H δ st fl st' E l rs e q
 refine ⟨fun m σ1 H1=>∃ ρ1 δ1 st1,Mn K ρ H ρ1 H1∧Rl K ρ1 H1 st1∧Rs K ρ1 H1 σ1 δ1∧fWhileGo c b m δ1 st1=some (fl,st'),⟨fuel,ρ,δ,st,.refl,l,rs,e⟩,?_⟩
 rintro m σ1 H1 ⟨ρ1,δ1,st1,m1,l1,rs1,e1⟩
 cases m with
 | zero=>cases e1
 | succ m =>
  obtain ⟨t,st2,e2,e1⟩:=xac e1
  refine hc ρ1 σ1 H1 δ1 st1 _ _ _ l1 rs1 e2 fun x H2 ρ2 m2 l2 r2=>?_
  subst r2
  cases x with
  | true =>
   refine iteT ?_
   rw [if_pos rfl] at e1
   obtain ⟨f2,st3,e3,e1⟩:=xac e1
   refine ⟨fun σ3 H3=>∃ m',m' < m + 1∧∃ ρ1 δ1 st1,Mn K ρ H ρ1 H3∧Rl K ρ1 H3 st1∧Rs K ρ1 H3 σ3 δ1∧fWhileGo c b m' δ1 st1=some (fl,st'),fun _ _ h=>h,hb ρ2 σ1 H2 δ1 st2 f2 st3 _ l2 (rs1.mn m2) e3 ?_⟩
   cases f2 with
   | nx δ3=>exact fun σ3 H3 ρ3 m3 l3 r3=>⟨m,Nat.lt_succ_self m,ρ3,δ3,st3,(m1.trans m2).trans m3,l3,r3,e1⟩
   | ct δ3=>exact fun σ3 H3 ρ3 m3 l3 r3=>⟨m,Nat.lt_succ_self m,ρ3,δ3,st3,(m1.trans m2).trans m3,l3,r3,e1⟩
   | bk δ3=>cases e1;exact q.mn (m1.trans m2)
   | rt d=>cases e1;exact q.mn (m1.trans m2)
  | false =>
   refine iteF ?_
   rw [if_neg Bool.false_ne_true] at e1
   cases e1
   exact q.mn (m1.trans m2) σ1 H2 ρ2 .refl l2 (rs1.mn m2)
inductive Src where
 | fix (ds:List D) | live (i:Nat) | enm (i:Nat) | zl (i:Nat) (es:List D) | zr (ds:List D) (i:Nat)
noncomputable def Src.at:Src→Nat→Store→Option (Option D)
 | .fix ds,i,_=>if i≤ds.length then some ds[i]? else none
 | .live r,i,st=>(items st r).map fun ds=>ds[i]?
 | .enm r,i,st=>(items st r).bind fun ds=>if i≤ds.length then some (ds.mapIdx fun i d=>D.tup [.int (i:Int),d])[i]? else none
 | .zl r es,i,st=>(items st r).bind fun ds=>if i≤(List.zipWith (fun a b=>D.tup [a,b]) ds es).length then some (List.zipWith (fun a b=>D.tup [a,b]) ds es)[i]? else none
 | .zr ds r,i,st=>(items st r).bind fun es=>if i≤(List.zipWith (fun a b=>D.tup [a,b]) ds es).length then some (List.zipWith (fun a b=>D.tup [a,b]) ds es)[i]? else none
theorem ZaB {ds:List D} {i:Nat} {st:Store} {o:Option D} (h:Src.at (.fix ds) i st=some o):i≤ds.length∧ds[i]?=o:=by
 simp only [Src.at] at h
 split at h
 ·next hl=>exact ⟨hl,Option.some.inj h⟩
 ·cases h
noncomputable def ItOk (K:PySem.W.Frag) (ρ:List Addr) (H:Hp) (J:It) (S:Src):Prop :=
 ∀ (ρ2:List Addr) (H2:Hp) (st2:Store) (i:Nat),Mn K ρ H ρ2 H2→Rl K ρ2 H2 st2 →
  (S.at i st2=some none→J.stop i H2)∧∀ d,S.at i st2=some (some d)→J.go i H2∧∀ x H3,J.yld i H2 x H3→Mn K ρ2 H2 ρ2 H3∧Rl K ρ2 H3 st2∧Rp K ρ2 H3 x d
abbrev SoI (K:PySem.W.Frag) (t:TI) (f:DSt→Dm Src):Prop:=So K (ItOk K) t f
noncomputable def fForGo (S:Src) (g:D→DSt→Dm DSt) (b:DSt→Dm Fl):Nat→Nat→DSt→Dm Fl
 | 0,_,_,_=>none
 | n + 1,i,δ,st=>match S.at i st with
  | none=>none
  | some none=>some (.nx δ,st)
  | some (some d)=>bnd (g d δ st) fun δ1 st1=>bnd (b δ1 st1) fun fl st2=>match fl with
   | .nx δ2=>fForGo S g b n (i + 1) δ2 st2
   | .ct δ2=>fForGo S g b n (i + 1) δ2 st2
   | .bk δ2=>some (.nx δ2,st2)
   | .rt d=>some (.rt d,st2)
noncomputable def fFor (fi:DSt→Dm Src) (g:D→DSt→Dm DSt) (b:DSt→Dm Fl):DSt→Dm Fl:=fun δ st=>bnd (fi δ st) fun S st1=>fForGo S g b fuel 0 δ st1
theorem zat {wi:TI} {tg:TG} {tb:TS} {fi:DSt→Dm Src} {g:D→DSt→Dm DSt} {b:DSt→Dm Fl} (hi:SoI K wi fi) (hg:SoG K tg g) (hb:SoS K tb b):SoS K (tFor wi tg tb) (fFor fi g b):=by
 intro ρ σ H δ st fl st' E l rs e q
 obtain ⟨S,st0,e0,e⟩:=xac e
 refine hi ρ σ H δ st S st0 _ l rs e0 fun J H0 ρ0 m0 l0 ok=>?_
 refine ⟨fun i m σ1 H1=>∃ ρ1 δ1 st1,Mn K ρ0 H0 ρ1 H1∧Rl K ρ1 H1 st1∧Rs K ρ1 H1 σ1 δ1∧fForGo S g b m i δ1 st1=some (fl,st'),⟨fuel,ρ0,δ,st0,.refl,l0,rs.mn m0,e⟩,?_⟩
 rintro i m σ1 H1 ⟨ρ1,δ1,st1,m1,l1,rs1,e1⟩
 cases m with
 | zero=>cases e1
 | succ m =>
  obtain ⟨hstop,hgo⟩:=ok ρ1 H1 st1 i m1 l1
  unfold fForGo at e1
  split at e1
  ·cases e1
  ·next hs=>cases e1;exact .inl ⟨hstop hs,q.mn (m0.trans m1) σ1 H1 ρ1 .refl l1 rs1⟩
  ·next d hs =>
   obtain ⟨δ2,st2,e2,e1⟩:=xac e1
   obtain ⟨f3,st3,e3,e1⟩:=xac e1
   obtain ⟨go,yld⟩:=hgo d hs
   refine .inr ⟨go,fun σ3 H3=>∃ m',m' < m + 1∧∃ ρ1 δ1 st1,Mn K ρ0 H0 ρ1 H3∧Rl K ρ1 H3 st1∧Rs K ρ1 H3 σ3 δ1∧fForGo S g b m' (i + 1) δ1 st1=some (fl,st'),fun _ _ h=>h,fun x H2 hy=>?_⟩
   obtain ⟨m2,l2,r2⟩:=yld x H2 hy
   refine hg ρ1 σ1 H2 δ1 st1 x d δ2 st2 _ l2 (rs1.mn m2) r2 e2 fun σ4 H4 ρ4 m4 l4 r4=>hb ρ4 σ4 H4 δ2 st2 f3 st3 _ l4 r4 e3 ?_
   have m5:=((m1.trans m2).trans m4)
   cases f3 with
   | nx δ3=>exact fun σ5 H5 ρ5 m6 l5 r5=>⟨m,Nat.lt_succ_self m,ρ5,δ3,st3,m5.trans m6,l5,r5,e1⟩
   | ct δ3=>exact fun σ5 H5 ρ5 m6 l5 r5=>⟨m,Nat.lt_succ_self m,ρ5,δ3,st3,m5.trans m6,l5,r5,e1⟩
   | bk δ3=>cases e1;exact q.mn (m0.trans m5)
   | rt d=>cases e1;exact q.mn (m0.trans m5)
noncomputable def iTupF (fa:DSt→Dm D):DSt→Dm Src:=fun δ st=>bnd (fa δ st) fun a st1=>match a with
 | .tup ds=>some (.fix ds,st1)
 | _=>none
theorem Ya0 {t:TE} {fa:DSt→Dm D} (ha:SoE K t fa):SoI K (iTup K t) (iTupF fa):=by
 intro ρ σ H δ st S st' Q l rs e q
 obtain ⟨a,st1,e1,e⟩:=xac e
 cases a <;> simp at e
 obtain ⟨rfl,rfl⟩:=e
 refine ha ρ σ H δ st _ _ _ l rs e1 fun x H1 ρ1 m1 l1 r1=>?_
 cases r1 with
 | tup s r =>
  refine ⟨_,rfl,⟨_,s⟩,q _ H1 ρ1 m1 l1 fun ρ2 H2 st2 i m2 l2=>⟨fun h=>?_,fun d h=>?_⟩⟩
  ·exact ⟨_,m2.t _ _ s,by rw [r.length];exact List.getElem?_eq_none_iff.mp (ZaB h).2⟩
  ·obtain ⟨v,hv,rv⟩:=r.got (ZaB h).2
   refine ⟨⟨_,v,m2.t _ _ s,hv⟩,fun x H3 y=>?_⟩
   obtain ⟨rfl,hx⟩:=y
   have:=hx _ (m2.t _ _ s)
   rw [hv] at this
   cases this
   exact ⟨.refl,l2,rv.mn m2⟩
noncomputable def iListF (fa:DSt→Dm D):DSt→Dm Src:=fun δ st=>bnd (fa δ st) fun a st1=>match a with
 | .ref i=>match items st1 i with
  | some _=>some (.live i,st1)
  | none=>none
 | _=>none
theorem xaX {t:TE} {fa:DSt→Dm D} (ha:SoE K t fa):SoI K (iList K t) (iListF fa):=by
 intro ρ σ H δ st S st' Q l rs e q
 obtain ⟨a,st1,e1,e⟩:=xac e
 split at e
 ·next k =>
  split at e
  ·next ds hd =>
   cases e
   refine ha ρ σ H δ st _ _ _ l rs e1 fun x H1 ρ1 m1 l1 r1=>?_
   cases r1 with
   | ref hi =>
    obtain ⟨vs,s,r⟩:=l1.items hi hd
    refine ⟨_,rfl,⟨_,s⟩,q _ H1 ρ1 m1 l1 fun ρ2 H2 st2 i m2 l2=>⟨fun h=>?_,fun d h=>?_⟩⟩
    ·obtain ⟨ds2,hd2,h⟩:=Option.map_eq_some_iff.mp h
     obtain ⟨vs2,s2,r2⟩:=l2.items (m2.r _ _ hi) hd2
     exact ⟨vs2,s2,by rw [r2.length];exact List.getElem?_eq_none_iff.mp h⟩
    ·obtain ⟨ds2,hd2,h⟩:=Option.map_eq_some_iff.mp h
     obtain ⟨vs2,s2,r2⟩:=l2.items (m2.r _ _ hi) hd2
     obtain ⟨v,hv,rv⟩:=r2.got h
     refine ⟨⟨_,v,s2,hv⟩,fun x H3 y=>?_⟩
     obtain ⟨rfl,hx⟩:=y
     have:=hx _ s2
     rw [hv] at this
     cases this
     exact ⟨.refl,l2,rv⟩
  ·cases e
 ·cases e
noncomputable def iRng1F (fa:DSt→Dm (List D)):DSt→Dm Src:=fun δ st=>bnd (fa δ st) fun as st1=>match as with
 | [.int j]=>if decide (-4611686018427387904≤j∧j < 4611686018427387904)=true then some (.fix (rangeD 0 j.toNat),st1) else none
 | _=>none
noncomputable def iRng2F (fa:DSt→Dm (List D)):DSt→Dm Src:=fun δ st=>bnd (fa δ st) fun as st1=>match as with
 | [.int i,.int j]=>if decide ((-4611686018427387904≤i∧i < 4611686018427387904)∧-4611686018427387904≤j∧j < 4611686018427387904)=true then some (.fix (rangeD i (j - i).toNat),st1) else none
 | _=>none
theorem Xab (lo:Int) (n:Nat):(rangeD lo n).length=n:=by simp [rangeD]
theorem xax {lo:Int} {n k:Nat} (h:k < n):(rangeD lo n)[k]?=some (.int (lo + k)):=by simp [rangeD,h]
theorem it_rng {ρ:List Addr} {H:Hp} (lo:Int) (n:Nat):ItOk K ρ H (Itr lo n) (.fix (rangeD lo n)):=by
 intro ρ2 H2 st2 i m2 l2
 refine ⟨fun h=>?_,fun d h=>?_⟩
 ·have:=List.getElem?_eq_none_iff.mp (ZaB h).2
  rw [Xab] at this
  exact this
 ·have h:=(ZaB h).2
  have hl:=(List.getElem?_eq_some_iff.mp h).1
  rw [Xab] at hl
  rw [xax hl] at h
  cases h
  refine ⟨hl,fun x H3 y=>?_⟩
  obtain ⟨rfl,rfl⟩:=y
  exact ⟨.refl,l2,.int _⟩
theorem xar {t:TA} {fa:DSt→Dm (List D)} (ha:SoA K t fa):SoI K (iRng1 t) (iRng1F fa):=by
 intro ρ σ H δ st S st' Q l rs e q
 obtain ⟨as,st1,e1,e⟩:=xac e
 split at e
 ·split at e
  ·next ok =>
   cases e
   have ok:=of_decide_eq_true ok
   refine ha ρ σ H δ st _ _ _ l rs e1 fun x H1 ρ1 m1 l1 r1=>?_
   obtain ⟨v,rfl,r⟩:=r1.one'
   cases r
   exact ⟨_,rfl,by omega,by omega,q _ H1 ρ1 m1 l1 (it_rng 0 _)⟩
  ·cases e
 ·cases e
noncomputable def enumD (ds:List D):List D:=ds.mapIdx fun i d=>.tup [.int (i:Int),d]
theorem Zaj (ds:List D):(enumD ds).length=ds.length:=by simp [enumD]
theorem XaG {ds:List D} {i:Nat} {x:D} (h:(enumD ds)[i]?=some x):∃ d,ds[i]?=some d∧x=.tup [.int (i:Int),d]:=by
 unfold enumD at h
 rw [List.getElem?_mapIdx] at h
 obtain ⟨d,h1,h2⟩:=Option.map_eq_some_iff.mp h
 exact ⟨d,h1,h2.symm⟩
noncomputable def iEnumF (fa:DSt→Dm (List D)):DSt→Dm Src:=fun δ st=>bnd (fa δ st) fun as st1=>match as with
 | [.tup ds]=>some (.fix (enumD ds),st1)
 | _=>none
theorem Zbo {t:TA} {fa:DSt→Dm (List D)} (ha:SoA K t fa):SoI K (iEnum K t) (iEnumF fa):=by
 intro ρ σ H δ st S st' Q l rs e q
 obtain ⟨as,st1,e1,e⟩:=xac e
 split at e
 ·cases e
  refine ha ρ σ H δ st _ _ _ l rs e1 fun x H1 ρ1 m1 l1 r1=>?_
  obtain ⟨v,rfl,r⟩:=r1.one'
  cases r with
  | tup s r =>
   refine ⟨_,rfl,⟨_,s⟩,q _ H1 ρ1 m1 l1 fun ρ2 H2 st2 i m2 l2=>⟨fun h=>?_,fun d h=>?_⟩⟩
   ·obtain ⟨h1,h2⟩:=ZaB h
    have h2:=List.getElem?_eq_none_iff.mp h2
    rw [Zaj] at h1 h2
    exact ⟨_,m2.t _ _ s,by rw [r.length];omega⟩
   ·obtain ⟨h1,h2⟩:=ZaB h
    obtain ⟨d',hd',rfl⟩:=XaG h2
    obtain ⟨v,hv,rv⟩:=r.got hd'
    refine ⟨⟨_,v,m2.t _ _ s,hv⟩,fun x H3 y=>?_⟩
    obtain ⟨p,z,rfl,hp,rfl,hx⟩:=y
    have:=hx _ (m2.t _ _ s)
    rw [hv] at this
    cases this
    have m3:Mn K ρ2 H2 ρ2 (upd H2 p (.tup [.int (i:Int),v])):=Mn.same (Same.up hp)
    exact ⟨m3,l2.same (Same.up hp),.tup (SqT.of Xaj) (.cons (.int _) (.one ((rv.mn m2).mn m3)))⟩
 ·cases e
noncomputable def fCompGo (S:Src) (g:D→DSt→Dm DSt) (tc:DSt→Dm Bool) (te:DSt→Dm D):Nat→Nat→List D→DSt→Dm (List D)
 | 0,_,_,_,_=>none
 | n + 1,i,ys,δ,st=>if lim ys.length=true then match S.at i st with
  | none=>none
  | some none=>some (ys,st)
  | some (some d)=>bnd (g d δ st) fun δ1 st1=>bnd (tc δ1 st1) fun t st2=>if t=true then bnd (te δ1 st2) fun y st3=>fCompGo S g tc te n (i + 1) (ys ++ [y]) δ1 st3 else fCompGo S g tc te n (i + 1) ys δ1 st2
  else none
noncomputable def compD (n:Nat) (js:List Nat) (δ:DSt):DSt:=List.replicate n none ++ js.map fun j=>δ.getD j none
noncomputable def fComp (fi:DSt→Dm Src) (n:Nat) (js:List Nat) (g:D→DSt→Dm DSt) (tc:DSt→Dm Bool) (te:DSt→Dm D):DSt→Dm D:=fun δ st=>bnd (fi δ st) fun S st1=>bnd (fCompGo S g tc te fuel 0 [] (compD n js δ) st1) fun ys st2=>some (.ref st2.length,st2 ++ [.lst ys])
theorem Rs.comp {ρ:List Addr} {H:Hp} {σ:St} {δ:DSt} (h:Rs K ρ H σ δ) (n:Nat) (js:List Nat):Rs K ρ H (compSt n js σ) (compD n js δ):=by
 unfold compSt compD
 refine ⟨by simp,fun i d hd=>?_⟩
 by_cases hi:i < n
 ·rw [List.getElem?_append_left (by simpa using hi),List.getElem?_replicate,if_pos hi] at hd
  cases hd
 ·rw [List.getElem?_append_right (by simpa using Nat.le_of_not_lt hi),List.getElem?_map] at hd
  rw [List.getElem?_append_right (by simpa using Nat.le_of_not_lt hi),List.getElem?_map]
  simp only [List.length_replicate] at hd ⊢
  cases hj:js[i - n]? with
  | none=>rw [hj] at hd;cases hd
  | some j =>
   rw [hj] at hd
   have hd:δ.getD j none=some d:=Option.some.inj hd
   rw [List.getD_eq_getElem?_getD] at hd
   have hd':δ[j]?=some (some d):=by
    cases hx:δ[j]? with
    | none=>rw [hx] at hd;cases hd
    | some y=>rw [hx] at hd;exact congrArg some hd
   obtain ⟨v,hv,r⟩:=h.2 j d hd'
   exact ⟨v,by show some (σ.getD j none)=_;rw [List.getD_eq_getElem?_getD,hv];rfl,r⟩
theorem yaD {wi:TI} {tg:TG} {tc:TT} {te:TE} {fi:DSt→Dm Src} {n:Nat} {js:List Nat} {g:D→DSt→Dm DSt} {c:DSt→Dm Bool} {f:DSt→Dm D} (hi:SoI K wi fi) (hg:SoG K tg g) (hc:SoT K tc c) (hf:SoE K te f):SoE K (tComp wi n js tg tc te) (fComp fi n js g c f):=by
 intro ρ σ H δ st b st' Q l rs e q
 obtain ⟨S,st0,e0,e⟩:=xac e
 obtain ⟨zs,st9,e9,e⟩:=xac e
 cases e
 refine hi ρ σ H δ st S st0 _ l rs e0 fun J H0 ρ0 m0 l0 ok=>?_
 refine ⟨fun i m ys σ1 H1=>∃ ρ1 δ1 st1 ws,Mn K ρ0 H0 ρ1 H1∧Rl K ρ1 H1 st1∧Rs K ρ1 H1 σ1 δ1∧Rps K ρ1 H1 ys ws∧fCompGo S g c f m i ws δ1 st1=some (zs,st9),⟨fuel,ρ0,_,st0,[],.refl,l0,(rs.mn m0).comp n js,.nil,e9⟩,?_⟩
 rintro i m ys σ1 H1 ⟨ρ1,δ1,st1,ws,m1,l1,rs1,rw1,e1⟩
 cases m with
 | zero=>cases e1
 | succ m =>
  obtain ⟨hstop,hgo⟩:=ok ρ1 H1 st1 i m1 l1
  unfold fCompGo at e1
  split at e1
  ·next hl =>
   refine ⟨by rw [rw1.length];exact ybD hl,?_⟩
   split at e1
   ·cases e1
   ·next hs =>
    cases e1
    exact .inl ⟨hstop hs,fun p hp=>q _ _ _ ((m0.trans m1).trans (Mn.new hp)) (l1.newL hp rw1) (.ref (newR l1))⟩
   ·next d hs =>
    obtain ⟨δ2,st2,e2,e1⟩:=xac e1
    obtain ⟨t,st3,e3,e1⟩:=xac e1
    obtain ⟨go,yld⟩:=hgo d hs
    refine .inr ⟨go,fun x H2 hy=>?_⟩
    obtain ⟨m2,l2,r2⟩:=yld x H2 hy
    refine hg ρ1 σ1 H2 δ1 st1 x d δ2 st2 _ l2 (rs1.mn m2) r2 e2 fun σ4 H4 ρ4 m4 l4 r4=>hc ρ4 σ4 H4 δ2 st2 t st3 _ l4 r4 e3 fun t' H5 ρ5 m5 l5 r5=>?_
    subst r5
    have m6:=(((m1.trans m2).trans m4).trans m5)
    cases t' with
    | true =>
     refine iteT ?_
     rw [if_pos rfl] at e1
     obtain ⟨y,st6,e6,e1⟩:=xac e1
     exact hf ρ5 σ4 H5 δ2 st3 y st6 _ l5 (r4.mn m5) e6 fun v H7 ρ7 m7 l7 r7=>⟨m,Nat.lt_succ_self m,ρ7,δ2,st6,ws ++ [y],m6.trans m7,l7,r4.mn (m5.trans m7),(rw1.mn (((m2.trans m4).trans m5).trans m7)).append (.one r7),e1⟩
    | false =>
     refine iteF ?_
     rw [if_neg Bool.false_ne_true] at e1
     exact ⟨m,Nat.lt_succ_self m,ρ5,δ2,st3,ws,m6,l5,r4.mn m5,rw1.mn ((m2.trans m4).trans m5),e1⟩
  ·cases e1
noncomputable def fTrue:DSt→Dm Bool:=fun _ st=>some (true,st)
noncomputable def fnF (n:Nat) (b:DSt→Dm Fl):List D→Dm D:=fun ds st=>bnd (b (ds.map some ++ List.replicate (n - ds.length) none) st) fun fl st1=>match fl with
 | .rt d=>some (d,st1)
 | .nx _=>some (.non,st1)
 | _=>none
theorem Rs.start {ρ:List Addr} {H:Hp} {vs:List V} {ds:List D} (r:Rps K ρ H vs ds) (N:List Str):Rs K ρ H (start N vs) (ds.map some ++ List.replicate (N.length - ds.length) none):=by
 unfold L2.start
 rw [r.length]
 refine ⟨by simp [r.length],fun i d hd=>?_⟩
 by_cases hi:i < ds.length
 ·rw [List.getElem?_append_left (by simpa using hi),List.getElem?_map] at hd
  rw [List.getElem?_append_left (by rw [List.length_map,r.length];exact hi),List.getElem?_map]
  cases hx:ds[i]? with
  | none=>rw [hx] at hd;cases hd
  | some y =>
   rw [hx] at hd
   cases hd
   obtain ⟨v,hv,rv⟩:=r.got hx
   exact ⟨v,by rw [hv];rfl,rv⟩
 ·rw [List.getElem?_append_right (by simpa using Nat.le_of_not_lt hi),List.getElem?_replicate] at hd
  split at hd <;> cases hd
theorem yaz {N:List Str} {k n:Nat} {t:TS} {b:DSt→Dm Fl} {vs:List V} {H:Hp} {Q:VK} {E:XK} (hb:SoS K t b) (hn:N.length=n) (h:spF K k (fnF n b) vs H Q E):t { nx:=fun _ H'=>Q .non H',rt:=Q } (start N vs) H:=by
 obtain ⟨hk,ρ,st,ds,d,st',l,r,e,q⟩:=h
 subst hn
 obtain ⟨fl,st1,e1,e⟩:=xac e
 refine hb ρ _ H _ st fl st1 _ l (Rs.start r N) e1 ?_
 cases fl with
 | rt v=>cases e;exact q
 | nx δ=>cases e;exact fun σ' H' ρ' m l' r'=>q .non H' ρ' m l' .non
 | bk δ=>cases e
 | ct δ=>cases e
end
end L4
namespace L4
open PySem PySem.Spec L2
section
variable {X:Cx} {K:PySem.W.Frag}
theorem zaM:SoT K (fun _ H Q=>Q true H) fTrue:=by
 intro ρ σ H δ st b st' Q l rs e q
 cases e
 exact q _ H ρ .refl l rfl
end
noncomputable def spLaw (K:PySem.W.Frag):Sp:=fun vs H Q _=>∃ (a:Addr) (ns:List Int),vs=[.ref a]∧SqF K H a (ns.map V.int)∧ns.length≤63∧∀ H',Q (.bl true) H'
theorem law_of {P:Program} {w:World} {K:PySem.W.Frag} {mg:Str→Option Value} {base:Heap} {k:Nat} {f:Addr} {fd:FuncData} {ps:List Str} {F:List D→Dm D} (G:FnOk P w K mg base CX0 k f fd ps (spF K 1 F))
  (h:∀ ns:List Int,ns.length≤63→∃ st',F [.ref 0] [.fzn (ns.map D.int)]=some (.bl true,st')):FnOk P w K mg base CX0 k f fd ps (spLaw K):=by
 refine G.imp fun vs H Q E hs=>?_
 obtain ⟨a,ns,rfl,hS,hn,q⟩:=hs
 obtain ⟨st',e⟩:=h ns hn
 have one:∀ i (b:Addr),([a]:List Addr)[i]?=some b→i=0∧b=a:=fun i b h=>by
  cases i with
  | zero=>exact ⟨rfl,(Option.some.inj h).symm⟩
  | succ i=>simp at h
 refine ⟨rfl,[a],[.fzn (ns.map D.int)],[.ref 0],.bl true,st',⟨rfl,fun i j b o o' h1 h2 _ _ _ _=>by rw [(one i b h1).1,(one j b h2).1],fun i b o h1 h2=>?_⟩,.one (.ref rfl),e,fun v H' ρ' m l r=>by cases r;exact q H'⟩
 obtain ⟨rfl,rfl⟩:=one i b h1
 cases (Option.some.inj h2)
 exact ⟨ns.map V.int,hS,Rps.ints ns⟩
noncomputable def Wp {α:Type} (m:Option (α×Store)) (Q:α→Store→Prop):Prop:=∃ a st,m=some (a,st)∧Q a st
section
variable {α β:Type} {Q Q':α→Store→Prop} {st:Store} {δ:DSt}
theorem xab {m:Option (α×Store)} (h:Wp m Q) (hq:∀ a st,Q a st→Q' a st):Wp m Q':=let ⟨a,st,e,q⟩:=h;⟨a,st,e,hq a st q⟩
theorem Yab {a:α}:Wp (some (a,st)) Q↔Q a st:=⟨fun ⟨_,_,e,q⟩=>by cases e;exact q,fun q=>⟨a,st,rfl,q⟩⟩
theorem yae:Wp (none:Option (α×Store)) Q↔False:=⟨fun ⟨_,_,e,_⟩=>(by cases e),False.elim⟩
theorem Zae {R:β→Store→Prop} {m:Option (α×Store)} {k:α→Dm β}:Wp (bnd m k) R↔Wp m fun a st1=>Wp (k a st1) R:=by
 cases m with
 | none=>exact ⟨fun ⟨_,_,e,_⟩=>(by cases e),fun ⟨_,_,e,_⟩=>(by cases e)⟩
 | some p=>exact ⟨fun h=>⟨p.1,p.2,rfl,h⟩,fun ⟨a,s,e,h⟩=>by cases e;exact h⟩
theorem Xau {c:Prop} [Decidable c] {m n:Option (α×Store)}:Wp (if c then m else n) Q↔if c then Wp m Q else Wp n Q:=by split <;> exact Iff.rfl
end
section
variable {st:Store} {δ:DSt} {Q:D→Store→Prop}
theorem wp_var {i:Nat}:Wp (fVar i δ st) Q↔∃ d,δ[i]?=some (some d)∧Q d st:=by
 unfold fVar
 split
 ·next d hd=>rw [Yab];exact ⟨fun h=>⟨d,hd,h⟩,fun ⟨e,he,h⟩=>by rw [hd] at he;cases he;exact h⟩
 ·next h=>rw [yae];exact ⟨False.elim,fun ⟨e,he,_⟩=>h e he⟩
theorem wp_c {d:D}:Wp (fC d δ st) Q↔Q d st:=Yab
theorem wp_op {g:D→D→Dm D} {fa fb:DSt→Dm D}:Wp (fOp g fa fb δ st) Q↔Wp (fa δ st) fun a st1=>Wp (fb δ st1) fun b st2=>Wp (g a b st2) Q:=by
 unfold fOp;rw [Zae];simp only [Zae]
theorem wp_un {g:D→Dm D} {fa:DSt→Dm D}:Wp (fUn g fa δ st) Q↔Wp (fa δ st) fun a st1=>Wp (g a st1) Q:=Zae
theorem wp_cb {g:List D→Dm D} {fa:DSt→Dm (List D)}:Wp (fCB g fa δ st) Q↔Wp (fa δ st) fun a st1=>Wp (g a st1) Q:=Zae
theorem wp_nil {R:List D→Store→Prop}:Wp (fNil δ st) R↔R [] st:=Yab
theorem zb5 {R:List D→Store→Prop} {fa:DSt→Dm D} {fr:DSt→Dm (List D)}:Wp (fCons fa fr δ st) R↔Wp (fa δ st) fun a st1=>Wp (fr δ st1) fun r st2=>R (a :: r) st2:=by
 unfold fCons;rw [Zae];simp only [Zae,Yab]
theorem wp_tup {fa:DSt→Dm (List D)}:Wp (fTup fa δ st) Q↔Wp (fa δ st) fun as st1=>lim as.length=true∧Q (.tup as) st1:=by
 unfold fTup;rw [Zae];simp only [Xau,Yab,yae]
 constructor <;> exact fun h=>xab h fun a s h=>by first | (split at h;exact ⟨by assumption,h⟩;exact h.elim) | (rw [if_pos h.1];exact h.2)
theorem wp_lst {fa:DSt→Dm (List D)}:Wp (fLst fa δ st) Q↔Wp (fa δ st) fun as st1=>lim as.length=true∧Q (.ref st1.length) (st1 ++ [.lst as]):=by
 unfold fLst;rw [Zae];simp only [Xau,Yab,yae]
 constructor <;> exact fun h=>xab h fun a s h=>by first | (split at h;exact ⟨by assumption,h⟩;exact h.elim) | (rw [if_pos h.1];exact h.2)
theorem yb5 {R:Bool→Store→Prop} {fa:DSt→Dm D}:Wp (fTest fa δ st) R↔Wp (fa δ st) fun a st1=>∃ b,a=.bl b∧R b st1:=by
 unfold fTest;rw [Zae]
 constructor <;> refine fun h=>xab h fun a s h=>?_
 ·cases a <;> simp only [Yab,yae] at h
  exact ⟨_,rfl,h⟩
 ·obtain ⟨b,rfl,h⟩:=h
  exact Yab.mpr h
theorem wp_not {R:Bool→Store→Prop} {fa:DSt→Dm Bool}:Wp (fNot fa δ st) R↔Wp (fa δ st) fun a st1=>R (!a) st1:=by
 unfold fNot;rw [Zae];simp only [Yab]
theorem wp_and {R:Bool→Store→Prop} {fa fb:DSt→Dm Bool}:Wp (fAnd fa fb δ st) R↔Wp (fa δ st) fun a st1=>if a=true then Wp (fb δ st1) R else R false st1:=by
 unfold fAnd;rw [Zae];simp only [Xau,Yab]
theorem wp_or {R:Bool→Store→Prop} {fa fb:DSt→Dm Bool}:Wp (fOr fa fb δ st) R↔Wp (fa δ st) fun a st1=>if a=true then R true st1 else Wp (fb δ st1) R:=by
 unfold fOr;rw [Zae];simp only [Xau,Yab]
theorem wp_if {α:Type} {R:α→Store→Prop} {c:DSt→Dm Bool} {fa fb:DSt→Dm α}:Wp (fIf c fa fb δ st) R↔Wp (c δ st) fun a st1=>if a=true then Wp (fa δ st1) R else Wp (fb δ st1) R:=by
 unfold fIf;rw [Zae];simp only [Xau]
theorem Zb5 {fa fb:DSt→Dm D}:Wp (fAndV fa fb δ st) Q↔Wp (fTest fa δ st) fun a st1=>if a=true then Wp (fb δ st1) Q else Q (.bl false) st1:=by
 unfold fAndV;rw [Zae];simp only [Xau,Yab]
theorem wp_orV {fa fb:DSt→Dm D}:Wp (fOrV fa fb δ st) Q↔Wp (fTest fa δ st) fun a st1=>if a=true then Q (.bl true) st1 else Wp (fb δ st1) Q:=by
 unfold fOrV;rw [Zae];simp only [Xau,Yab]
theorem Yb5 {fa:DSt→Dm D}:Wp (fNotV fa δ st) Q↔Wp (fTest fa δ st) fun a st1=>Q (.bl (!a)) st1:=by
 unfold fNotV;rw [Zae];simp only [Yab]
theorem XbE {R:Option Int→Store→Prop}:Wp (fNoPart δ st) R↔R none st:=Yab
theorem xb5 {R:Option Int→Store→Prop} {fa:DSt→Dm D}:Wp (fPart fa δ st) R↔Wp (fa δ st) fun a st1=>∃ i,a=.int i∧R (some i) st1:=by
 unfold fPart;rw [Zae]
 constructor <;> refine fun h=>xab h fun a s h=>?_
 ·cases a <;> simp only [Yab,yae] at h
  exact ⟨_,rfl,h⟩
 ·obtain ⟨b,rfl,h⟩:=h
  exact Yab.mpr h
theorem wp_sl {g:D→Option Int→Option Int→Dm D} {fa:DSt→Dm D} {fl fh:DSt→Dm (Option Int)}:Wp (fSl g fa fl fh δ st) Q↔Wp (fa δ st) fun a st1=>Wp (fl δ st1) fun lo st2=>Wp (fh δ st2) fun hi st3=>Wp (g a lo hi st3) Q:=by
 unfold fSl;rw [Zae];simp only [Zae]
theorem wp_bm {T:String} {g:D→List D→Dm D} {fo:DSt→Dm D} {fa:DSt→Dm (List D)}:Wp (fBM T g fo fa δ st) Q↔Wp (fo δ st) fun o st1=>tyD T st1 o=true∧Wp (fa δ st1) fun as st2=>Wp (g o as st2) Q:=by
 unfold fBM;rw [Zae];simp only [Xau,Zae,yae]
 constructor <;> exact fun h=>xab h fun a s h=>by first | (split at h;exact ⟨by assumption,h⟩;exact h.elim) | (rw [if_pos h.1];exact h.2)
variable {i j:Int} {ds es:List D} {k:Nat}
theorem wp_add:Wp (gAdd (.int i) (.int j) st) Q↔Q (.int (i + j)) st:=Yab
theorem wp_sub:Wp (gSub (.int i) (.int j) st) Q↔Q (.int (i - j)) st:=Yab
theorem wp_lt:Wp (gLt (.int i) (.int j) st) Q↔Q (.bl (decide (i < j))) st:=Yab
theorem wp_le:Wp (gLe (.int i) (.int j) st) Q↔Q (.bl (decide (i≤j))) st:=Yab
theorem wp_gt:Wp (gGt (.int i) (.int j) st) Q↔Q (.bl (decide (j < i))) st:=Yab
theorem wp_ge:Wp (gGe (.int i) (.int j) st) Q↔Q (.bl (decide (j≤i))) st:=Yab
theorem wp_neg:Wp (gNeg (.int i) st) Q↔Q (.int (-i)) st:=Yab
theorem ZbQ {c:Int→Int→Bool} {h:Int→Int→D}:Wp (gIC c h (.int i) (.int j) st) Q↔c i j=true∧Q (h i j) st:=by
 show Wp (if c i j=true then some (h i j,st) else none) Q↔_
 rw [Xau,Yab,yae]
 split
 ·next h=>exact ⟨fun q=>⟨h,q⟩,fun q=>q.2⟩
 ·next h=>exact ⟨False.elim,fun q=>h q.1⟩
theorem wp_mul:Wp (gMul (.int i) (.int j) st) Q↔((-18446744073709551616 < i∧i < 18446744073709551616)∨(-18446744073709551616 < j∧j < 18446744073709551616))∧Q (.int (i * j)) st:=by
 unfold gMul;rw [ZbQ,Bool.or_eq_true,decide_eq_true_eq,decide_eq_true_eq]
theorem Xb5:Wp (gFdiv (.int i) (.int j) st) Q↔(0 < j∧j < 1073741824)∧Q (.int (i / j)) st:=by unfold gFdiv;rw [ZbQ,decide_eq_true_eq]
theorem wp_mod:Wp (gMod (.int i) (.int j) st) Q↔0 < j∧Q (.int (i % j)) st:=by unfold gMod;rw [ZbQ,decide_eq_true_eq]
theorem wp_pow:Wp (gPow (.int i) (.int j) st) Q↔(0≤j∧j≤1000000∧i.natAbs < 18446744073709551616)∧Q (.int (i ^ j.toNat)) st:=by unfold gPow;rw [ZbQ,decide_eq_true_eq]
theorem wp_eqI {neg:Bool}:Wp (gEq neg (.int i) (.int j) st) Q↔Q (.bl (if neg then !decide (i=j) else decide (i=j))) st:=by
 have e:decide (V.int i=V.int j)=decide (i=j):=by
  by_cases h:i=j
  ·subst h;simp
  ·simp [h]
 show Wp (if scal (V.int i) (V.int j)=true then some (D.bl (if neg then !decide (V.int i=V.int j) else decide (V.int i=V.int j)),st) else none) Q↔_
 rw [if_pos (show scal _ _=true from rfl),Yab,e]
theorem wp_eqS {neg:Bool} {x y:Str}:Wp (gEq neg (.str x) (.str y) st) Q↔Q (.bl (if neg then !decide (x=y) else decide (x=y))) st:=by
 have e:decide (V.str x=V.str y)=decide (x=y):=by
  by_cases h:x=y
  ·subst h;simp
  ·simp [h]
 show Wp (if scal (V.str x) (V.str y)=true then some (D.bl (if neg then !decide (V.str x=V.str y) else decide (V.str x=V.str y)),st) else none) Q↔_
 rw [if_pos (show scal _ _=true from rfl),Yab,e]
theorem wp_ixT:Wp (gIxT (.tup ds) (.int i) st) Q↔∃ d,atI ds i=some d∧Q d st:=by
 show Wp (match atI ds i with | some d=>some (d,st) | none=>none) Q↔_
 cases atI ds i with
 | none=>rw [yae];exact ⟨False.elim,fun ⟨_,e,_⟩=>by cases e⟩
 | some d=>rw [Yab];exact ⟨fun q=>⟨d,rfl,q⟩,fun ⟨_,e,q⟩=>by cases e;exact q⟩
theorem wp_ixL:Wp (gIxL (.ref k) (.int i) st) Q↔∃ ds d,items st k=some ds∧atI ds i=some d∧Q d st:=by
 show Wp (match items st k with | some ds=>(match atI ds i with | some d=>some (d,st) | none=>none) | none=>none) Q↔_
 cases items st k with
 | none=>rw [yae];exact ⟨False.elim,fun ⟨_,_,e,_⟩=>by cases e⟩
 | some ds =>
  show Wp (match atI ds i with | some d=>some (d,st) | none=>none) Q↔_
  cases h:atI ds i with
  | none=>rw [yae];exact ⟨False.elim,fun ⟨_,_,e,e',_⟩=>by cases e;rw [h] at e';cases e'⟩
  | some d=>rw [Yab];exact ⟨fun q=>⟨ds,d,rfl,h,q⟩,fun ⟨_,_,e,e',q⟩=>by cases e;rw [h] at e';cases e';exact q⟩
theorem wp_slT {lo hi:Option Int}:Wp (gSlT (.tup ds) lo hi st) Q↔Q (.tup (cutD ds lo hi)) st:=Yab
theorem wp_slL {lo hi:Option Int}:Wp (gSlL (.ref k) lo hi st) Q↔∃ ds,items st k=some ds∧Q (.ref st.length) (st ++ [.lst (cutD ds lo hi)]):=by
 show Wp (match items st k with | some ds=>some (D.ref st.length,st ++ [O.lst (cutD ds lo hi)]) | none=>none) Q↔_
 cases items st k with
 | none=>rw [yae];exact ⟨False.elim,fun ⟨_,e,_⟩=>by cases e⟩
 | some ds=>rw [Yab];exact ⟨fun q=>⟨ds,rfl,q⟩,fun ⟨_,e,q⟩=>by cases e;exact q⟩
theorem zb6:Wp (gCatT (.tup ds) (.tup es) st) Q↔lim (ds.length + es.length)=true∧Q (.tup (ds ++ es)) st:=by
 show Wp (if lim (ds.length + es.length)=true then some (D.tup (ds ++ es),st) else none) Q↔_
 rw [Xau,Yab,yae]
 split
 ·next h=>exact ⟨fun q=>⟨h,q⟩,fun q=>q.2⟩
 ·next h=>exact ⟨False.elim,fun q=>h q.1⟩
theorem wp_cat {a b:Nat}:Wp (gCat (.ref a) (.ref b) st) Q↔∃ xs ys,own st a=some xs∧own st b=some ys∧lim (xs.length + ys.length)=true∧Q (.ref st.length) (st ++ [.lst (xs ++ ys)]):=by
 show Wp (match own st a,own st b with | some xs,some ys=>if lim (xs.length + ys.length)=true then some (D.ref st.length,st ++ [O.lst (xs ++ ys)]) else none | _,_=>none) Q↔_
 cases ha:own st a <;> cases hb:own st b
 ·simp only [yae];exact ⟨False.elim,fun ⟨_,_,e,_⟩=>by cases e⟩
 ·simp only [yae];exact ⟨False.elim,fun ⟨_,_,e,_⟩=>by cases e⟩
 ·simp only [yae];exact ⟨False.elim,fun ⟨_,_,_,e,_⟩=>by cases e⟩
 ·next xs ys =>
  show Wp (if lim (xs.length + ys.length)=true then some (D.ref st.length,st ++ [O.lst (xs ++ ys)]) else none) Q↔_
  rw [Xau,Yab,yae]
  split
  ·next h=>exact ⟨fun q=>⟨_,_,rfl,rfl,h,q⟩,fun ⟨_,_,e,e',_,q⟩=>by cases e;cases e';exact q⟩
  ·next h=>exact ⟨False.elim,fun ⟨_,_,e,e',q,_⟩=>by cases e;cases e';exact h q⟩
theorem wp_len {a:D}:Wp (gLen [a] st) Q↔∃ ds,seqOf st a=some ds∧Q (.int ds.length) st:=by
 show Wp (match seqOf st a with | some ds=>some (D.int ds.length,st) | none=>none) Q↔_
 cases seqOf st a with
 | none=>rw [yae];exact ⟨False.elim,fun ⟨_,e,_⟩=>by cases e⟩
 | some ds=>rw [Yab];exact ⟨fun q=>⟨ds,rfl,q⟩,fun ⟨_,e,q⟩=>by cases e;exact q⟩
theorem yb6 {a:D}:Wp (gList [a] st) Q↔∃ ds,seqOf st a=some ds∧Q (.ref st.length) (st ++ [.lst ds]):=by
 show Wp (match seqOf st a with | some ds=>some (D.ref st.length,st ++ [O.lst ds]) | none=>none) Q↔_
 cases seqOf st a with
 | none=>rw [yae];exact ⟨False.elim,fun ⟨_,e,_⟩=>by cases e⟩
 | some ds=>rw [Yab];exact ⟨fun q=>⟨ds,rfl,q⟩,fun ⟨_,e,q⟩=>by cases e;exact q⟩
theorem YbQ {a:D}:Wp (gTuple [a] st) Q↔∃ ds,seqOf st a=some ds∧Q (.tup ds) st:=by
 show Wp (match seqOf st a with | some ds=>some (D.tup ds,st) | none=>none) Q↔_
 cases seqOf st a with
 | none=>rw [yae];exact ⟨False.elim,fun ⟨_,e,_⟩=>by cases e⟩
 | some ds=>rw [Yab];exact ⟨fun q=>⟨ds,rfl,q⟩,fun ⟨_,e,q⟩=>by cases e;exact q⟩
theorem Zb6:Wp (gMax2 [.int i,.int j] st) Q↔Q (.int (if j > i then j else i)) st:=Yab
theorem Yb6:Wp (gMin2 [.int i,.int j] st) Q↔Q (.int (if j < i then j else i)) st:=Yab
theorem xb6:Wp (gInt1 [.int i] st) Q↔Q (.int i) st:=Yab
theorem Ybo {b:Bool}:Wp (gInt1 [.bl b] st) Q↔Q (.int (if b then 1 else 0)) st:=Yab
theorem zbF:Wp (gRange1 [.int j] st) Q↔Q (.ref st.length) (st ++ [.rng 0 j]):=Yab
theorem ybF:Wp (gRange2 [.int i,.int j] st) Q↔Q (.ref st.length) (st ++ [.rng i j]):=Yab
theorem ZbF {y:D}:Wp (gAppend (.ref k) [y] st) Q↔∃ xs,own st k=some xs∧lim xs.length=true∧Q .non (st.set k (.lst (xs ++ [y]))):=by
 show Wp (match own st k with | some xs=>if lim xs.length=true then some (D.non,st.set k (O.lst (xs ++ [y]))) else none | none=>none) Q↔_
 cases own st k with
 | none=>rw [yae];exact ⟨False.elim,fun ⟨_,e,_⟩=>by cases e⟩
 | some xs =>
  show Wp (if lim xs.length=true then some (D.non,st.set k (O.lst (xs ++ [y]))) else none) Q↔_
  rw [Xau,Yab,yae]
  split
  ·next h=>exact ⟨fun q=>⟨_,rfl,h,q⟩,fun ⟨_,e,_,q⟩=>by cases e;exact q⟩
  ·next h=>exact ⟨False.elim,fun ⟨_,e,q,_⟩=>by cases e;exact h q⟩
end
noncomputable def Ws (m:Option (Fl×Store)) (N B C:DSt→Store→Prop) (R:D→Store→Prop):Prop:=Wp m fun fl st=>match fl with
 | .nx δ=>N δ st
 | .bk δ=>B δ st
 | .ct δ=>C δ st
 | .rt d=>R d st
section
variable {st:Store} {δ:DSt} {N B C:DSt→Store→Prop} {R:D→Store→Prop} {f g:DSt→Dm Fl} {e:DSt→Dm D}
theorem xa0 {m:Option (Fl×Store)} {N':DSt→Store→Prop} (h:Ws m N B C R) (hn:∀ δ st,N δ st→N' δ st):Ws m N' B C R:=xab h fun fl st q=>by
 cases fl with
 | nx δ=>exact hn δ st q
 | bk δ=>exact q
 | ct δ=>exact q
 | rt d=>exact q
theorem Xac (h:Ws (f δ st) (fun δ1 st1=>Ws (g δ1 st1) N B C R) B C R):Ws (fSeq f g δ st) N B C R:=by
 unfold Ws fSeq
 rw [Zae]
 refine xab h fun fl st1 q=>?_
 cases fl with
 | nx δ1=>exact q
 | bk δ1=>exact Yab.mpr q
 | ct δ1=>exact Yab.mpr q
 | rt d=>exact Yab.mpr q
theorem Yak (h:N δ st):Ws (fNext δ st) N B C R:=Yab.mpr h
theorem YaK {t:D→DSt→Dm DSt} (h:Wp (e δ st) fun d st1=>Wp (t d δ st1) N):Ws (fAsg e t δ st) N B C R:=by
 unfold Ws fAsg
 rw [Zae]
 refine xab h fun d st1 q=>?_
 rw [Zae]
 exact xab q fun δ1 st2 q=>Yab.mpr q
theorem zaf {i:Nat} (h:Wp (e δ st) fun d st1=>N (δ.set i (some d)) st1):Ws (fAsg e (hName i) δ st) N B C R:=YaK (xab h fun d st1 q=>Yab.mpr q)
theorem xa8 (h:Wp (e δ st) fun _ st1=>N δ st1):Ws (fDrop e δ st) N B C R:=by
 unfold Ws fDrop
 rw [Zae]
 exact xab h fun d st1 q=>Yab.mpr q
theorem zai (h:Wp (e δ st) R):Ws (fRet e δ st) N B C R:=by
 unfold Ws fRet
 rw [Zae]
 exact xab h fun d st1 q=>Yab.mpr q
theorem yaw {c:DSt→Dm Bool} (h:Wp (c δ st) fun b st1=>(b=true→Ws (f δ st1) N B C R)∧(b=false→Ws (g δ st1) N B C R)):Ws (fIf c f g δ st) N B C R:=by
 unfold Ws
 rw [wp_if]
 refine xab h fun b st1 q=>?_
 cases b with
 | true=>rw [if_pos rfl];exact q.1 rfl
 | false=>rw [if_neg Bool.false_ne_true];exact q.2 rfl
theorem xbo {i j:Nat} {fa:DSt→Dm (List D)} (h:Wp (fa δ st) fun as st1=>∃ a b,as=[a,b]∧N ((δ.set i (some a)).set j (some b)) st1):Ws (fPar i j fa δ st) N B C R:=by
 unfold Ws fPar
 rw [Zae]
 refine xab h fun as st1 q=>?_
 obtain ⟨a,b,rfl,q⟩:=q
 exact Yab.mpr q
theorem Xax {n:Nat} {b:DSt→Dm Fl} {ds:List D} (h:Ws (b (ds.map some ++ List.replicate (n - ds.length) none) st) (fun _ st1=>R .non st1) (fun _ _=>False) (fun _ _=>False) R):Wp (fnF n b ds st) R:=by
 unfold fnF
 rw [Zae]
 refine xab h fun fl st1 q=>?_
 cases fl with
 | nx δ1=>exact Yab.mpr q
 | bk δ1=>exact q.elim
 | ct δ1=>exact q.elim
 | rt d=>exact Yab.mpr q
theorem XaX {c:DSt→Dm Bool} {b:DSt→Dm Fl} (W:Nat→DSt→Store→Prop) (m:Nat) (hm:m < fuel) (h0:W m δ st)
  (step:∀ m δ st,W m δ st→Wp (c δ st) fun t st1=>(t=true→Ws (b δ st1) (fun δ2 st2=>∃ m',m' < m∧W m' δ2 st2) N (fun δ2 st2=>∃ m',m' < m∧W m' δ2 st2) R)∧(t=false→N δ st1)):Ws (fWhile c b δ st) N B C R:=by
 have key:∀ (k m:Nat) (δ:DSt) (st:Store),m < k→W m δ st→Ws (fWhileGo c b k δ st) N B C R:=by
  intro k
  induction k with
  | zero=>intro m δ st h;exact absurd h (Nat.not_lt_zero _)
  | succ k ih =>
   intro m δ st hk hw
   unfold Ws fWhileGo
   rw [Zae]
   refine xab (step m δ st hw) fun t st1 q=>?_
   cases t with
   | false=>rw [if_neg Bool.false_ne_true];exact Yab.mpr (q.2 rfl)
   | true =>
    rw [if_pos rfl,Zae]
    refine xab (q.1 rfl) fun fl st2 q=>?_
    cases fl with
    | nx δ2=>obtain ⟨m',hm',w⟩:=q;exact ih m' δ2 st2 (by omega) w
    | ct δ2=>obtain ⟨m',hm',w⟩:=q;exact ih m' δ2 st2 (by omega) w
    | bk δ2=>exact Yab.mpr q
    | rt d=>exact Yab.mpr q
 exact key fuel m δ st hm h0
theorem YaB {fi:DSt→Dm Src} {t:D→DSt→Dm DSt} {b:DSt→Dm Fl} (ds:List D) (Pv:Nat→DSt→Store→Prop) (hi:Wp (fi δ st) fun S st1=>S=.fix ds∧Pv 0 δ st1) (hl:ds.length < 100000)
  (step:∀ i d δ st,ds[i]?=some d→Pv i δ st→Wp (t d δ st) fun δ1 st1=>Ws (b δ1 st1) (Pv (i + 1)) N (Pv (i + 1)) R) (fin:∀ δ st,Pv ds.length δ st→N δ st):Ws (fFor fi t b δ st) N B C R:=by
 unfold Ws fFor
 rw [Zae]
 refine xab hi fun S st0 q=>?_
 obtain ⟨rfl,h0⟩:=q
 have key:∀ (k i:Nat) (δ:DSt) (st:Store),i≤ds.length→ds.length - i < k→Pv i δ st→Ws (fForGo (.fix ds) t b k i δ st) N B C R:=by
  intro k
  induction k with
  | zero=>intro i δ st _ h;exact absurd h (Nat.not_lt_zero _)
  | succ k ih =>
   intro i δ st hi hk hw
   unfold Ws fForGo
   have e:Src.at (.fix ds) i st=some ds[i]?:=by show (if i≤ds.length then some ds[i]? else none)=_;rw [if_pos hi]
   rw [e]
   cases hd:ds[i]? with
   | none =>
    have:=List.getElem?_eq_none_iff.mp hd
    have e:i=ds.length:=by omega
    exact Yab.mpr (fin δ st (e ▸ hw))
   | some d =>
    have hlt:=(List.getElem?_eq_some_iff.mp hd).1
    show Wp (bnd _ _) _
    rw [Zae]
    refine xab (step i d δ st hd hw) fun δ1 st1 q=>?_
    rw [Zae]
    refine xab q fun fl st2 q=>?_
    cases fl with
    | nx δ2=>exact ih (i + 1) δ2 st2 (by omega) (by omega) q
    | ct δ2=>exact ih (i + 1) δ2 st2 (by omega) (by omega) q
    | bk δ2=>exact Yab.mpr q
    | rt d=>exact Yab.mpr q
 exact key fuel 0 δ st0 (Nat.zero_le _) (Nat.lt_trans (by omega) (show 100000 < fuel by decide)) h0
theorem Ybj {fi:DSt→Dm Src} {t:D→DSt→Dm DSt} {b:DSt→Dm Fl} (ds:List D) (r:Nat) (Pv:Nat→DSt→Store→Prop) (hi:Wp (fi δ st) fun S st1=>S=.live r∧Pv 0 δ st1) (hl:ds.length < 100000) (hk:∀ i δ st,Pv i δ st→items st r=some ds)
  (step:∀ i d δ st,ds[i]?=some d→Pv i δ st→Wp (t d δ st) fun δ1 st1=>Ws (b δ1 st1) (Pv (i + 1)) N (Pv (i + 1)) R) (fin:∀ δ st,Pv ds.length δ st→N δ st):Ws (fFor fi t b δ st) N B C R:=by
 unfold Ws fFor
 rw [Zae]
 refine xab hi fun S st0 q=>?_
 obtain ⟨rfl,h0⟩:=q
 have key:∀ (k i:Nat) (δ:DSt) (st:Store),i≤ds.length→ds.length - i < k→Pv i δ st→Ws (fForGo (.live r) t b k i δ st) N B C R:=by
  intro k
  induction k with
  | zero=>intro i δ st _ h;exact absurd h (Nat.not_lt_zero _)
  | succ k ih =>
   intro i δ st hi hk' hw
   unfold Ws fForGo
   have e:Src.at (.live r) i st=some ds[i]?:=by show (items st r).map _=_;rw [hk i δ st hw];rfl
   rw [e]
   cases hd:ds[i]? with
   | none =>
    have:=List.getElem?_eq_none_iff.mp hd
    have e:i=ds.length:=by omega
    exact Yab.mpr (fin δ st (e ▸ hw))
   | some d =>
    have hlt:=(List.getElem?_eq_some_iff.mp hd).1
    show Wp (bnd _ _) _
    rw [Zae]
    refine xab (step i d δ st hd hw) fun δ1 st1 q=>?_
    rw [Zae]
    refine xab q fun fl st2 q=>?_
    cases fl with
    | nx δ2=>exact ih (i + 1) δ2 st2 (by omega) (by omega) q
    | ct δ2=>exact ih (i + 1) δ2 st2 (by omega) (by omega) q
    | bk δ2=>exact Yab.mpr q
    | rt d=>exact Yab.mpr q
 exact key fuel 0 δ st0 (Nat.zero_le _) (Nat.lt_trans (by omega) (show 100000 < fuel by decide)) h0
theorem Xa0 {fi:DSt→Dm Src} {n:Nat} {js:List Nat} {t:D→DSt→Dm DSt} {c:DSt→Dm Bool} {f:DSt→Dm D} {Q:D→Store→Prop} (ds:List D) (Pv:Nat→List D→DSt→Store→Prop)
  (hi:Wp (fi δ st) fun S st1=>(∀ i ys δ st,i≤ds.length→Pv i ys δ st→S.at i st=some ds[i]?)∧Pv 0 [] (compD n js δ) st1) (hl:ds.length < 100000) (hy:∀ i ys δ st,Pv i ys δ st→ys.length≤i)
  (step:∀ i d ys δ st,ds[i]?=some d→Pv i ys δ st→Wp (t d δ st) fun δ1 st1=>Wp (c δ1 st1) fun b st2=>(b=true→Wp (f δ1 st2) fun y st3=>Pv (i + 1) (ys ++ [y]) δ1 st3)∧(b=false→Pv (i + 1) ys δ1 st2))
  (fin:∀ ys δ st,Pv ds.length ys δ st→Q (.ref st.length) (st ++ [.lst ys])):Wp (fComp fi n js t c f δ st) Q:=by
 unfold fComp
 rw [Zae]
 refine xab hi fun S st0 q=>?_
 obtain ⟨hS,h0⟩:=q
 have key:∀ (k i:Nat) (ys:List D) (δ:DSt) (st:Store),i≤ds.length→ds.length - i < k→Pv i ys δ st→Wp (fCompGo S t c f k i ys δ st) fun zs st9=>∃ δ9,Pv ds.length zs δ9 st9:=by
  intro k
  induction k with
  | zero=>intro i ys δ st _ h;exact absurd h (Nat.not_lt_zero _)
  | succ k ih =>
   intro i ys δ st hi hk' hw
   unfold fCompGo
   have hlim:lim ys.length=true:=Nat.ble_eq_true_of_le (by have:=hy i ys δ st hw;omega)
   rw [if_pos hlim,hS i ys δ st hi hw]
   cases hd:ds[i]? with
   | none =>
    have:=List.getElem?_eq_none_iff.mp hd
    have e:i=ds.length:=by omega
    exact Yab.mpr ⟨δ,e ▸ hw⟩
   | some d =>
    have hlt:=(List.getElem?_eq_some_iff.mp hd).1
    show Wp (bnd _ _) _
    rw [Zae]
    refine xab (step i d ys δ st hd hw) fun δ1 st1 q=>?_
    rw [Zae]
    refine xab q fun b st2 q=>?_
    cases b with
    | true =>
     rw [if_pos rfl,Zae]
     exact xab (q.1 rfl) fun y st3 q=>ih (i + 1) _ δ1 st3 (by omega) (by omega) q
    | false =>
     rw [if_neg Bool.false_ne_true]
     exact ih (i + 1) ys δ1 st2 (by omega) (by omega) (q.2 rfl)
 rw [Zae]
 exact xab (key fuel 0 [] _ st0 (Nat.zero_le _) (Nat.lt_trans (by omega) (show 100000 < fuel by decide)) h0) fun zs st9 ⟨δ9,q⟩=>Yab.mpr (fin zs δ9 st9 q)
end
end L4
namespace L4
open PySem PySem.Spec L2
noncomputable def keyOf:D→Option Key
 | .int i=>some (.inl i)
 | .str x=>some (.inr x)
 | _=>none
noncomputable def dctOf (st:Store):D→Option (List (Key×D))
 | .ref i=>match st[i]? with
  | some (.dct kvs)=>some kvs
  | _=>none
 | _=>none
noncomputable def valD (kvs:List (Key×D)) (k:Key):Option D:=(kvs.find? fun kv=>decide (kv.1=k)).map (·.2)
noncomputable def putD (kvs:List (Key×D)) (k:Key) (v:D):List (Key×D) :=
 if (kvs.any fun kv=>decide (kv.1=k))=true then kvs.map (fun kv=>if kv.1=k then (kv.1,v) else kv) else kvs ++ [(k,v)]
section
variable {K:PySem.W.Frag} {ρ:List Addr} {H:Hp} {st:Store}
theorem yaL {x:V} {y:D} {k:Key} (r:Rp K ρ H x y) (h:keyOf y=some k):x=kV k:=by
 cases r <;> first | (cases h;rfl) | cases h
theorem Xa4 {x:V} {a:D} {kvs:List (Key×D)} (l:Rl K ρ H st) (r:Rp K ρ H x a) (h:dctOf st a=some kvs):∃ p i ws,x=.ref p∧a=.ref i∧ρ[i]?=some p∧st[i]?=some (.dct kvs)∧H p=some (.dK ws)∧Rk K ρ H ws kvs:=by
 cases r <;> first | (cases h;done) | skip
 next hi =>
  simp only [dctOf] at h
  split at h
  ·next kvs' hs =>
   cases h
   obtain ⟨ws,e,r⟩:=l.obj _ _ _ hi hs
   exact ⟨_,_,ws,rfl,rfl,hi,hs,e,r⟩
  ·cases h
theorem Rk.val {ws:List (Key×V)} {kvs:List (Key×D)} (r:Rk K ρ H ws kvs) (k:Key):(∀ d,valD kvs k=some d→∃ v,valV ws k=some v∧Rp K ρ H v d)∧(valV ws k).isSome=(valD kvs k).isSome:=by
 induction r with
 | nil=>exact ⟨fun d h=>(by cases h),rfl⟩
 | @cons p q ps qs h t ih =>
  obtain ⟨h1,h2⟩:=h
  unfold valD valV at ih ⊢
  rw [List.find?_cons,List.find?_cons]
  by_cases e:p.1=k
  ·rw [decide_eq_true e,decide_eq_true (h1 ▸ e)]
   exact ⟨fun d hd=>by cases hd;exact ⟨_,rfl,h2⟩,rfl⟩
  ·rw [decide_eq_false e,decide_eq_false (h1 ▸ e)]
   exact ih
theorem Rk.app {ws ws':List (Key×V)} {kvs kvs':List (Key×D)} (r:Rk K ρ H ws kvs) (r':Rk K ρ H ws' kvs'):Rk K ρ H (ws ++ ws') (kvs ++ kvs'):=by
 induction r with
 | nil=>exact r'
 | cons h _ ih=>exact .cons h ih
theorem Rk.put {ws:List (Key×V)} {kvs:List (Key×D)} {v:V} {d:D} (r:Rk K ρ H ws kvs) (k:Key) (rv:Rp K ρ H v d):Rk K ρ H (putK ws k v) (putD kvs k d):=by
 have hany:(ws.any fun kv=>decide (kv.1=k))=(kvs.any fun kv=>decide (kv.1=k)):=by
  induction r with
  | nil=>rfl
  | cons h _ ih=>rw [List.any_cons,List.any_cons,ih,h.1]
 have hmap:Rk K ρ H (ws.map fun kv=>if kv.1=k then (kv.1,v) else kv) (kvs.map fun kv=>if kv.1=k then (kv.1,d) else kv):=by
  clear hany
  induction r with
  | nil=>exact .nil
  | @cons p q ps qs h _ ih =>
   refine .cons ?_ ih
   dsimp only
   by_cases e:p.1=k
   ·rw [if_pos e,if_pos (h.1 ▸ e)];exact ⟨h.1,rv⟩
   ·rw [if_neg e,if_neg (h.1 ▸ e)];exact h
 unfold putK putD
 rw [hany]
 split
 ·exact hmap
 ·exact r.app (.cons ⟨rfl,rv⟩ .nil)
theorem Rk.length {ws:List (Key×V)} {kvs:List (Key×D)} (r:Rk K ρ H ws kvs):ws.length=kvs.length:=by
 induction r with
 | nil=>rfl
 | cons _ _ ih=>rw [List.length_cons,List.length_cons,ih]
end
section
variable {K:PySem.W.Frag}
noncomputable def fDNew:DSt→Dm D:=fun _ st=>some (.ref st.length,st ++ [.dct []])
theorem YbF:SoE K tDNewK fDNew:=by
 intro ρ σ H δ st b st' Q l rs e q
 cases e
 exact fun p hp=>q _ _ _ (Mn.new hp) (l.newD hp .nil) (.ref (newR l))
noncomputable def fDGet (fd fy:DSt→Dm D):DSt→Dm D:=fun δ st=>bnd (fd δ st) fun x st1=>bnd (fy δ st1) fun y st2=>match dctOf st2 x,keyOf y with
 | some kvs,some k=>match valD kvs k with
  | some v=>some (v,st2)
  | none=>none
 | _,_=>none
theorem xbj {td ty:TE} {fd fy:DSt→Dm D} (hd:SoE K td fd) (hy:SoE K ty fy):SoE K (tDGet td ty) (fDGet fd fy):=by
 intro ρ σ H δ st b st' Q l rs e q
 obtain ⟨x,st1,e1,e⟩:=xac e
 obtain ⟨y,st2,e2,e⟩:=xac e
 refine hd ρ σ H δ st x st1 _ l rs e1 fun vx H1 ρ1 m1 l1 r1=>hy ρ1 σ H1 δ st1 y st2 _ l1 (rs.mn m1) e2 fun vy H2 ρ2 m2 l2 r2=>?_
 split at e
 ·next kvs k hx hk =>
  split at e
  ·next v hv =>
   cases e
   obtain ⟨p,i,ws,rfl,rfl,hi,hs,hp,rk⟩:=Xa4 l2 (r1.mn m2) hx
   obtain ⟨w,hw,rw'⟩:=(rk.val k).1 _ hv
   refine ⟨p,w,rfl,?_,q w H2 ρ2 (m1.trans m2) l2 rw'⟩
   rw [← hw,yaL r2 hk]
   exact DGet.k hp
  ·cases e
 ·cases e
noncomputable def fDIn (neg:Bool) (fy fd:DSt→Dm D):DSt→Dm D:=fun δ st=>bnd (fy δ st) fun y st1=>bnd (fd δ st1) fun x st2=>match dctOf st2 x,keyOf y with
 | some kvs,some k=>some (.bl (if neg then !(valD kvs k).isSome else (valD kvs k).isSome),st2)
 | _,_=>none
theorem xbF {td ty:TE} {fd fy:DSt→Dm D} (hy:SoE K ty fy) (hd:SoE K td fd):SoE K (tDNotIn ty td) (fDIn true fy fd):=by
 intro ρ σ H δ st b st' Q l rs e q
 obtain ⟨y,st1,e1,e⟩:=xac e
 obtain ⟨x,st2,e2,e⟩:=xac e
 refine hy ρ σ H δ st y st1 _ l rs e1 fun vy H1 ρ1 m1 l1 r1=>hd ρ1 σ H1 δ st1 x st2 _ l1 (rs.mn m1) e2 fun vx H2 ρ2 m2 l2 r2=>?_
 split at e
 ·next kvs k hx hk =>
  cases e
  obtain ⟨p,i,ws,rfl,rfl,hi,hs,hp,rk⟩:=Xa4 l2 r2 hx
  refine ⟨p,valV ws k,rfl,by rw [yaL r1 hk];exact DGet.k hp,q _ H2 ρ2 (m1.trans m2) l2 ?_⟩
  rw [(rk.val k).2]
  exact .bl _
 ·cases e
noncomputable def fDPut (fd fy fv:DSt→Dm D):DSt→Dm Fl:=fun δ st=>bnd (fv δ st) fun v st1=>bnd (fd δ st1) fun x st2=>bnd (fy δ st2) fun y st3=>match x,dctOf st3 x,keyOf y with
 | .ref i,some kvs,some k=>if lim kvs.length=true then some (.nx δ,st3.set i (.dct (putD kvs k v))) else none
 | _,_,_=>none
theorem Xbj {td ty tv:TE} {fd fy fv:DSt→Dm D} (hd:SoE K td fd) (hy:SoE K ty fy) (hv:SoE K tv fv):SoS K (sDPut td ty tv) (fDPut fd fy fv):=by
 intro ρ σ H δ st fl st' E l rs e q
 obtain ⟨v,st1,e1,e⟩:=xac e
 obtain ⟨x,st2,e2,e⟩:=xac e
 obtain ⟨y,st3,e3,e⟩:=xac e
 refine hv ρ σ H δ st v st1 _ l rs e1 fun vv H1 ρ1 m1 l1 r1=>hd ρ1 σ H1 δ st1 x st2 _ l1 (rs.mn m1) e2 fun vx H2 ρ2 m2 l2 r2=>hy ρ2 σ H2 δ st2 y st3 _ l2 (rs.mn (m1.trans m2)) e3 fun vy H3 ρ3 m3 l3 r3=>?_
 obtain ⟨i,rfl⟩:∃ i,x=.ref i:=by
  cases x <;> first | exact ⟨_,rfl⟩ | (simp at e;done) | cases e
 cases hx:dctOf st3 (.ref i) with
 | none=>rw [hx] at e;cases e
 | some kvs =>
 cases hk:keyOf y with
 | none=>rw [hx,hk] at e;cases e
 | some k =>
  rw [hx,hk] at e
  simp only at e
  split at e
  ·next hl =>
   cases e
   obtain ⟨p,j,ws,rfl,ej,hi,hs,hp,rk⟩:=Xa4 l3 (r2.mn m3) hx
   cases ej
   obtain ⟨l4,m4⟩:=l3.putDct hi hs (rk.put k (r1.mn (m2.trans m3)))
   have mm:=((m1.trans m2).trans m3).trans m4
   refine ⟨p,_,rfl,?_,q σ _ ρ3 mm l4 (rs.mn mm)⟩
   rw [yaL r3 hk]
   exact DPut.k hp (by rw [rk.length];exact ybD hl)
  ·cases e
noncomputable def fPNil:DSt→Dm (List (D×D)):=fun _ st=>some ([],st)
noncomputable def fPCons (fk fv:DSt→Dm D) (fr:DSt→Dm (List (D×D))):DSt→Dm (List (D×D)):=fun δ st=>bnd (fk δ st) fun k st1=>bnd (fv δ st1) fun v st2=>bnd (fr δ st2) fun r st3=>some ((k,v) :: r,st3)
noncomputable def Rpp (K:PySem.W.Frag) (ρ:List Addr) (H:Hp):List (V×V)→List (D×D)→Prop:=Paired fun p q=>Rp K ρ H p.1 q.1∧Rp K ρ H p.2 q.2
noncomputable def SoP (K:PySem.W.Frag) (trs:List (TE×TE)) (f:DSt→Dm (List (D×D))):Prop:=So K (Rpp K) (tPairs trs) f
theorem Xb6:SoP K [] fPNil:=by
 intro ρ σ H δ st b st' Q l rs e q
 cases e
 exact q [] H ρ .refl l .nil
theorem zaY {tk tv:TE} {trs:List (TE×TE)} {fk fv:DSt→Dm D} {fr:DSt→Dm (List (D×D))} (hk:SoE K tk fk) (hv:SoE K tv fv) (hr:SoP K trs fr):SoP K ((tk,tv) :: trs) (fPCons fk fv fr):=by
 intro ρ σ H δ st b st' Q l rs e q
 obtain ⟨k,st1,e1,e⟩:=xac e
 obtain ⟨v,st2,e2,e⟩:=xac e
 obtain ⟨r,st3,e3,e⟩:=xac e
 cases e
 exact hk ρ σ H δ st k st1 _ l rs e1 fun x H1 ρ1 m1 l1 r1=>hv ρ1 σ H1 δ st1 v st2 _ l1 (rs.mn m1) e2 fun y H2 ρ2 m2 l2 r2=>hr ρ2 σ H2 δ st2 r _ _ l2 (rs.mn (m1.trans m2)) e3 fun ps H3 ρ3 m3 l3 r3 =>
  q _ H3 ρ3 ((m1.trans m2).trans m3) l3 (.cons ⟨r1.mn (m2.trans m3),r2.mn m3⟩ r3)
noncomputable def keysOf:List (D×D)→Option (List (Key×D))
 | []=>some []
 | (k,v) :: r=>match keyOf k,keysOf r with
  | some k',some r'=>some ((k',v) :: r')
  | _,_=>none
theorem zb7 {ρ:List Addr} {H:Hp} {ps:List (V×V)} {qs:List (D×D)} (r:Rpp K ρ H ps qs):∀ {kvs:List (Key×D)},keysOf qs=some kvs→∃ ws:List (Key×V),ps=ws.map (fun kv=>(kV kv.1,kv.2))∧Rk K ρ H ws kvs:=by
 induction r with
 | nil=>intro kvs h;cases h;exact ⟨[],rfl,.nil⟩
 | @cons p q ps qs h _ ih =>
  intro kvs hk
  obtain ⟨q1,q2⟩:=q
  obtain ⟨p1,p2⟩:=p
  simp only [keysOf] at hk
  split at hk
  ·next k' r' h1 h2 =>
   cases hk
   obtain ⟨ws,rfl,rw'⟩:=ih h2
   refine ⟨(k',p2) :: ws,?_,.cons ⟨rfl,h.2⟩ rw'⟩
   rw [List.map_cons,← yaL h.1 h1]
  ·cases hk
noncomputable def mergeD (kvs more:List (Key×D)):List (Key×D):=more.foldl (fun acc kv=>putD acc kv.1 kv.2) kvs
theorem Rk.merge {ρ:List Addr} {H:Hp} {more:List (Key×V)} {more':List (Key×D)} (r:Rk K ρ H more more'):∀ {ws:List (Key×V)} {kvs:List (Key×D)},Rk K ρ H ws kvs→Rk K ρ H (mergeK ws more) (mergeD kvs more'):=by
 induction r with
 | nil=>intro ws kvs h;exact h
 | @cons p q _ _ h _ ih =>
  intro ws kvs r0
  have:=r0.put p.1 h.2
  rw [show putD kvs p.1 q.2=putD kvs q.1 q.2 by rw [h.1]] at this
  exact ih this
noncomputable def fDisp (fp:DSt→Dm (List (D×D))):DSt→Dm D:=fun δ st=>bnd (fp δ (st ++ [.dct []])) fun ps st2=>match st2[st.length]?,keysOf ps with
 | some (.dct []),some kvs=>if kvs.length≤15 then some (.ref st.length,st2.set st.length (.dct (mergeD [] kvs))) else none
 | _,_=>none
theorem yb7 {trs:List (TE×TE)} {fp:DSt→Dm (List (D×D))} (hp:SoP K trs fp):SoE K (tDisp trs) (fDisp fp):=by
 intro ρ σ H δ st b st' Q l rs e q
 obtain ⟨ps,st2,e1,e⟩:=xac e
 intro p hpn
 have m0:Mn K ρ H (ρ ++ [p]) (upd H p (.dK [])):=Mn.new hpn
 have l0:Rl K (ρ ++ [p]) (upd H p (.dK [])) (st ++ [.dct []]):=l.newD hpn .nil
 refine hp (ρ ++ [p]) σ _ δ _ ps st2 _ l0 (rs.mn m0) e1 fun vs H2 ρ2 m2 l2 r2=>?_
 split at e
 ·next kvs hs hk =>
  split at e
  ·next hl =>
   cases e
   have hi:=m2.r _ _ (newR (p:=p) l)
   obtain ⟨ws,e3,r3⟩:=l2.obj _ _ _ hi hs
   cases r3
   obtain ⟨kws,rfl,rk⟩:=zb7 r2 hk
   obtain ⟨l4,m4⟩:=l2.putDct hi hs (rk.merge .nil)
   exact ⟨e3,kws,rfl,by rw [rk.length];exact hl,q _ _ ρ2 ((m0.trans m2).trans m4) l4 (.ref (m4.r _ _ hi))⟩
  ·cases e
 ·cases e
end
section
variable {st:Store} {δ:DSt} {Q:D→Store→Prop}
theorem Zb7:Wp (fDNew δ st) Q↔Q (.ref st.length) (st ++ [.dct []]):=Yab
theorem Yb7 {fd fy:DSt→Dm D}:Wp (fDGet fd fy δ st) Q↔Wp (fd δ st) fun x st1=>Wp (fy δ st1) fun y st2=>∃ kvs k v,dctOf st2 x=some kvs∧keyOf y=some k∧valD kvs k=some v∧Q v st2:=by
 unfold fDGet;rw [Zae];simp only [Zae]
 constructor <;> refine fun h=>xab h fun x s h=>xab h fun y s2 h=>?_
 ·split at h
  ·next kvs k h1 h2 =>
   split at h
   ·next v h3=>exact ⟨kvs,k,v,by assumption,by assumption,h3,Yab.mp h⟩
   ·exact (yae.mp h).elim
  ·exact (yae.mp h).elim
 ·obtain ⟨kvs,k,v,h1,h2,h3,h⟩:=h
  rw [h1,h2]
  simp only [h3]
  exact Yab.mpr h
theorem wp_din {neg:Bool} {fd fy:DSt→Dm D}:Wp (fDIn neg fy fd δ st) Q↔Wp (fy δ st) fun y st1=>Wp (fd δ st1) fun x st2=>∃ kvs k,dctOf st2 x=some kvs∧keyOf y=some k∧Q (.bl (if neg then !(valD kvs k).isSome else (valD kvs k).isSome)) st2:=by
 unfold fDIn;rw [Zae];simp only [Zae]
 constructor <;> refine fun h=>xab h fun x s h=>xab h fun y s2 h=>?_
 ·split at h
  ·next kvs k h1 h2=>exact ⟨kvs,k,by assumption,by assumption,Yab.mp h⟩
  ·exact (yae.mp h).elim
 ·obtain ⟨kvs,k,h1,h2,h⟩:=h
  rw [h1,h2]
  exact Yab.mpr h
theorem xb7 {R:List (D×D)→Store→Prop}:Wp (fPNil δ st) R↔R [] st:=Yab
theorem xbQ {fk fv:DSt→Dm D} {fr:DSt→Dm (List (D×D))} {R:List (D×D)→Store→Prop}:Wp (fPCons fk fv fr δ st) R↔Wp (fk δ st) fun k st1=>Wp (fv δ st1) fun v st2=>Wp (fr δ st2) fun r st3=>R ((k,v) :: r) st3:=by
 unfold fPCons;rw [Zae];simp only [Zae,Yab]
theorem Xb7 {fp:DSt→Dm (List (D×D))}:Wp (fDisp fp δ st) Q↔Wp (fp δ (st ++ [.dct []])) fun ps st2=>st2[st.length]?=some (.dct [])∧∃ kvs,keysOf ps=some kvs∧kvs.length≤15∧Q (.ref st.length) (st2.set st.length (.dct (mergeD [] kvs))):=by
 unfold fDisp;rw [Zae]
 constructor <;> refine fun h=>xab h fun ps s h=>?_
 ·split at h
  ·next kvs h1 h2 =>
   rw [Xau,Yab,yae] at h
   split at h
   ·next hl=>exact ⟨by assumption,kvs,by assumption,hl,h⟩
   ·exact h.elim
  ·exact (yae.mp h).elim
 ·obtain ⟨h1,kvs,h2,h3,h⟩:=h
  rw [h1,h2]
  simp only [if_pos h3]
  exact Yab.mpr h
theorem zbk {fd fy fv:DSt→Dm D} {N B C:DSt→Store→Prop} {R:D→Store→Prop} (h:Wp (fv δ st) fun v st1=>Wp (fd δ st1) fun x st2=>Wp (fy δ st2) fun y st3=>∃ i kvs k,x=.ref i∧dctOf st3 x=some kvs∧keyOf y=some k∧lim kvs.length=true∧N δ (st3.set i (.dct (putD kvs k v)))):Ws (fDPut fd fy fv δ st) N B C R:=by
 unfold Ws fDPut
 rw [Zae]
 refine xab h fun v st1 h=>?_
 rw [Zae]
 refine xab h fun x st2 h=>?_
 rw [Zae]
 refine xab h fun y st3 h=>?_
 obtain ⟨i,kvs,k,rfl,h1,h2,h3,h⟩:=h
 rw [h1,h2]
 simp only [h3]
 exact Yab.mpr h
end
end L4
namespace L4
open PySem PySem.Spec L2
structure Ex (c:List Nat) (st st':Store):Prop where
 len:st.length≤st'.length
 keep:∀ (i:Nat) (o:O),st[i]?=some o→i ∉ c→st'[i]?=some o
section
variable {c c':List Nat} {st st1 st2:Store} {i:Nat} {o:O} {ds:List D}
theorem Ex.refl:Ex c st st:=⟨Nat.le_refl _,fun _ _ h _=>h⟩
theorem Ex.trans (a:Ex c st st1) (b:Ex c st1 st2):Ex c st st2:=⟨Nat.le_trans a.len b.len,fun i o h n=>b.keep i o (a.keep i o h n) n⟩
theorem Ex.mono (a:Ex c st st1) (h:∀ x∈c,x∈c'):Ex c' st st1:=⟨a.len,fun i o e n=>a.keep i o e fun z=>n (h i z)⟩
theorem Ex.any (a:Ex [] st st1):Ex c st st1:=a.mono fun x h=>nomatch h
theorem zac {α:Type} {l:List α} {i:Nat} {o:α} (h:l[i]?=some o):i < l.length:=(List.getElem?_eq_some_iff.mp h).1
theorem xak {l m:List O} (h:l[i]?=some o):(l ++ m)[i]?=some o:=by rw [List.getElem?_append_left (zac h)];exact h
theorem Xag {l:List O}:(l ++ [o])[l.length]?=some o:=by rw [List.getElem?_append_right (Nat.le_refl _),Nat.sub_self];rfl
theorem Ex.app (a:Ex c st st1) (m:List O):Ex c st (st1 ++ m):=⟨by rw [List.length_append];exact Nat.le_trans a.len (Nat.le_add_right _ _),fun i o h n=>xak (a.keep i o h n)⟩
theorem Ex.app0 (m:List O):Ex c st (st ++ m):=Ex.refl.app m
theorem Ex.put (a:Ex c st st1) (h:i∈c):Ex c st (st1.set i o):=⟨by rw [List.length_set];exact a.len,fun j u e n=>by rw [List.getElem?_set_ne (fun z=>n (by rw [← z];exact h))];exact a.keep j u e n⟩
theorem Ex.loc (a:Ex c st st1) (h:st.length≤i):Ex c st (st1.set i o):=⟨by rw [List.length_set];exact a.len,fun j u e n=>by rw [List.getElem?_set_ne (by have:=zac e;omega)];exact a.keep j u e n⟩
theorem Zad (h:st[i]?=some (.lst ds)):items st i=some ds:=by unfold items;rw [h]
theorem XbF (h:st[i]?=some (.fzn ds)):items st i=some ds:=by unfold items;rw [h]
theorem zaj (h:st[i]?=some (.lst ds)):own st i=some ds:=by unfold own;rw [h]
theorem zaq:items (st ++ [.lst ds]) st.length=some ds:=Zad Xag
theorem Xa8:own (st ++ [.lst ds]) st.length=some ds:=zaj Xag
theorem zbv {o':O}:items (st ++ [.lst ds] ++ [o']) st.length=some ds:=Zad (xak Xag)
theorem XbQ {o':O}:own (st ++ [.lst ds] ++ [o']) st.length=some ds:=zaj (xak Xag)
theorem ybv {o' o2:O}:items (st ++ [.lst ds] ++ [o'] ++ [o2]) st.length=some ds:=Zad (xak (xak Xag))
theorem zbR {o' o2:O}:own (st ++ [.lst ds] ++ [o'] ++ [o2]) st.length=some ds:=zaj (xak (xak Xag))
theorem zbG {lo hi:Int}:rngOf (st ++ [.rng lo hi]) (.ref st.length)=some (lo,hi):=by simp only [rngOf,Xag]
theorem zb8:seqOf st (.tup ds)=some ds:=rfl
theorem yb8:seqOf st (.ref i)=items st i:=rfl
theorem zaR (h:(items st i).isSome=true):tyD "list" st (.ref i)=true:=by simp only [tyD,h];rfl
theorem ybG:tyD "tuple" st (.tup ds)=true:=by simp only [tyD];rfl
theorem zan {n:Nat} (h:n≤100000):lim n=true:=Nat.ble_eq_true_of_le h
end
section
variable {st:Store} {Q:D→Store→Prop} {i j:Int} {k:Nat} {ds es:List D}
theorem ybR {a:D}:Wp (gListR [a] st) Q↔∃ p,rngOf st a=some p∧okR p.1 p.2=true∧Q (.ref st.length) (st ++ [.lst (rangeD p.1 (p.2 - p.1).toNat)]):=by
 show Wp (match rngOf st a with | some (lo,hi)=>if okR lo hi=true then some (D.ref st.length,st ++ [O.lst (rangeD lo (hi - lo).toNat)]) else none | none=>none) Q↔_
 cases rngOf st a with
 | none=>rw [yae];exact ⟨False.elim,fun ⟨_,e,_⟩=>by cases e⟩
 | some p =>
  obtain ⟨lo,hi⟩:=p
  show Wp (if okR lo hi=true then some (D.ref st.length,st ++ [O.lst (rangeD lo (hi - lo).toNat)]) else none) Q↔_
  rw [Xau,Yab,yae]
  split
  ·next h=>exact ⟨fun q=>⟨_,rfl,h,q⟩,fun ⟨_,e,_,q⟩=>by cases e;exact q⟩
  ·next h=>exact ⟨False.elim,fun ⟨_,e,q,_⟩=>by cases e;exact h q⟩
theorem ZbG {a:D}:Wp (gTupleR [a] st) Q↔∃ p,rngOf st a=some p∧okR p.1 p.2=true∧Q (.tup (rangeD p.1 (p.2 - p.1).toNat)) st:=by
 show Wp (match rngOf st a with | some (lo,hi)=>if okR lo hi=true then some (D.tup (rangeD lo (hi - lo).toNat),st) else none | none=>none) Q↔_
 cases rngOf st a with
 | none=>rw [yae];exact ⟨False.elim,fun ⟨_,e,_⟩=>by cases e⟩
 | some p =>
  obtain ⟨lo,hi⟩:=p
  show Wp (if okR lo hi=true then some (D.tup (rangeD lo (hi - lo).toNat),st) else none) Q↔_
  rw [Xau,Yab,yae]
  split
  ·next h=>exact ⟨fun q=>⟨_,rfl,h,q⟩,fun ⟨_,e,_,q⟩=>by cases e;exact q⟩
  ·next h=>exact ⟨False.elim,fun ⟨_,e,q,_⟩=>by cases e;exact h q⟩
theorem wp_rep:Wp (gRep (.ref k) (.int j) st) Q↔∃ xs,own st k=some xs∧(-9223372036854775808≤j∧j < 9223372036854775808)∧lim (xs.length * j.toNat)=true∧Q (.ref st.length) (st ++ [.lst (List.replicate j.toNat xs).flatten]):=by
 show Wp (match own st k with | some a=>if (decide (-9223372036854775808≤j∧j < 9223372036854775808) && lim (a.length * j.toNat))=true then some (D.ref st.length,st ++ [O.lst (List.replicate j.toNat a).flatten]) else none | _=>none) Q↔_
 cases own st k with
 | none=>simp only [yae];exact ⟨False.elim,fun ⟨_,e,_⟩=>by cases e⟩
 | some xs =>
  show Wp (if (decide (-9223372036854775808≤j∧j < 9223372036854775808) && lim (xs.length * j.toNat))=true then some (D.ref st.length,st ++ [O.lst (List.replicate j.toNat xs).flatten]) else none) Q↔_
  rw [Xau,Yab,yae]
  split
  ·next h=>rw [Bool.and_eq_true,decide_eq_true_eq] at h;exact ⟨fun q=>⟨_,rfl,h.1,h.2,q⟩,fun ⟨_,e,_,_,q⟩=>by cases e;exact q⟩
  ·next h=>rw [Bool.and_eq_true,decide_eq_true_eq] at h;exact ⟨False.elim,fun ⟨_,e,q,q',_⟩=>by cases e;exact h ⟨q,q'⟩⟩
theorem ZbR:Wp (gPopAt (.ref k) [.int i] st) Q↔∃ xs j y,own st k=some xs∧(-9223372036854775808≤i∧i < 9223372036854775808)∧seqIndex? i xs.length=some j∧xs[j]?=some y∧Q y (st.set k (.lst (xs.eraseIdx j))):=by
 constructor
 ·rintro ⟨a,s,e,q⟩
  simp only [gPopAt] at e
  split at e
  ·next xs hx =>
   split at e
   ·next hk =>
    split at e
    ·next j hj =>
     split at e
     ·next y hy=>cases e;exact ⟨xs,j,_,hx,of_decide_eq_true hk,hj,hy,q⟩
     ·cases e
    ·cases e
   ·cases e
  ·cases e
 ·rintro ⟨xs,j,y,hx,hk,hj,hy,q⟩
  refine ⟨_,_,?_,q⟩
  simp only [gPopAt,hx,hj,hy,decide_eq_true hk]
  rfl
theorem YbG {b:Nat}:Wp (gExtend (.ref k) [.ref b] st) Q↔∃ xs ys,own st k=some xs∧own st b=some ys∧lim (xs.length + ys.length)=true∧Q .non (st.set k (.lst (xs ++ ys))):=by
 constructor
 ·rintro ⟨a,s,e,q⟩
  simp only [gExtend] at e
  split at e
  ·next xs ys hx hy =>
   split at e
   ·next hl=>cases e;exact ⟨xs,ys,hx,hy,hl,q⟩
   ·cases e
  ·cases e
 ·rintro ⟨xs,ys,hx,hy,hl,q⟩
  refine ⟨_,_,?_,q⟩
  simp only [gExtend,hx,hy,hl]
  rfl
theorem Xbo {v:Int}:Wp (gIndex (.tup ds) [.int v] st) Q↔∃ ns j,mapO iV ds=some ns∧ns.findIdx? (fun i=>decide (i=v))=some j∧Q (.int (j:Int)) st:=by
 constructor
 ·rintro ⟨a,s,e,q⟩
  simp only [gIndex] at e
  split at e
  ·next ns hn =>
   split at e
   ·next j hj=>cases e;exact ⟨ns,j,hn,hj,q⟩
   ·cases e
  ·cases e
 ·rintro ⟨ns,j,hn,hj,q⟩
  refine ⟨_,_,?_,q⟩
  simp only [gIndex,hn,hj]
theorem wp_all:Wp (gAll [.ref k] st) Q↔∃ ds bs,items st k=some ds∧mapO bV ds=some bs∧Q (.bl (bs.all id)) st:=by
 constructor
 ·rintro ⟨a,s,e,q⟩
  simp only [gAll] at e
  split at e
  ·next bs hb =>
   cases e
   obtain ⟨ds,h1,h2⟩:=Option.bind_eq_some_iff.mp hb
   exact ⟨ds,bs,h1,h2,q⟩
  ·cases e
 ·rintro ⟨ds,bs,h1,h2,q⟩
  refine ⟨_,_,?_,q⟩
  simp only [gAll,h1,Option.bind_some,h2]
theorem wp_in {neg:Bool} {a c:D}:Wp (gIn neg a c st) Q↔∃ x ds vs,sV a=some x∧seqOf st c=some ds∧mapO sV ds=some vs∧Q (.bl (if neg then !inV x vs else inV x vs)) st:=by
 constructor
 ·rintro ⟨b,s,e,q⟩
  simp only [gIn] at e
  split at e
  ·next x vs h1 h2 =>
   cases e
   obtain ⟨ds,h3,h4⟩:=Option.bind_eq_some_iff.mp h2
   exact ⟨x,ds,vs,h1,h3,h4,q⟩
  ·cases e
 ·rintro ⟨x,ds,vs,h1,h2,h3,q⟩
  refine ⟨_,_,?_,q⟩
  simp only [gIn,h1,h2,Option.bind_some,h3]
theorem xbG (ns:List Int):mapO sV (ns.map D.int)=some (ns.map V.int):=XaM (f:=sV) (g:=D.int) (k:=V.int) (fun _=>rfl) ns
theorem XbG (ns:List Int):mapO iV (ns.map D.int)=some ns:=by
 have:=XaM (f:=iV) (g:=D.int) (k:=id) (fun _=>rfl) ns
 rw [this,List.map_id]
theorem wp_eqD {neg:Bool} {a b:D}:Wp (gEqD neg a b st) Q↔∃ p q,toP st 20 a=some p∧toP st 20 b=some q∧(PyData.canLay0 p=true∧PyData.canLay0 q=true∧min p.depth q.depth≤60)∧Q (.bl (if neg then !PyData.eqv p q else PyData.eqv p q)) st:=by
 constructor
 ·rintro ⟨c,s,e,q⟩
  simp only [gEqD] at e
  split at e
  ·next x y h1 h2 =>
   split at e
   ·next hs =>
    cases e
    rw [Bool.and_eq_true,Bool.and_eq_true,decide_eq_true_eq] at hs
    exact ⟨x,y,h1,h2,⟨hs.1.1,hs.1.2,hs.2⟩,q⟩
   ·cases e
  ·cases e
 ·rintro ⟨x,y,h1,h2,⟨h3,h4,h5⟩,q⟩
  refine ⟨_,_,?_,q⟩
  simp only [gEqD,h1,h2,h3,h4,decide_eq_true h5]
  rfl
theorem wp_ixS {z:Str}:Wp (gIxS (.str z) (.int i) st) Q↔∃ c,lim z.length=true∧atI z.cps.toList i=some c∧Q (.str ⟨#[c]⟩) st:=by
 constructor
 ·rintro ⟨c,s,e,q⟩
  simp only [gIxS] at e
  split at e
  ·next h1 =>
   split at e
   ·next c hc=>cases e;exact ⟨c,h1,hc,q⟩
   ·cases e
  ·cases e
 ·rintro ⟨c,h1,h2,q⟩
  refine ⟨_,_,?_,q⟩
  simp only [gIxS,h1,h2]
  rfl
theorem Zb8 {δ:DSt} {fa:DSt→Dm (List D)} {R:Src→Store→Prop}:Wp (iRng1F fa δ st) R↔Wp (fa δ st) fun as st1=>∃ j,as=[.int j]∧(-4611686018427387904≤j∧j < 4611686018427387904)∧R (.fix (rangeD 0 j.toNat)) st1:=by
 unfold iRng1F;rw [Zae]
 constructor <;> refine fun h=>xab h fun as s h=>?_
 ·split at h
  ·next j =>
   rw [Xau,Yab,yae] at h
   split at h
   ·next hk=>exact ⟨j,rfl,of_decide_eq_true hk,h⟩
   ·exact h.elim
  ·exact (yae.mp h).elim
 ·obtain ⟨j,rfl,h1,h⟩:=h
  simp only [decide_eq_true h1,if_true]
  exact Yab.mpr h
theorem Yb8 {δ:DSt} {fa:DSt→Dm (List D)} {R:Src→Store→Prop}:Wp (iRng2F fa δ st) R↔Wp (fa δ st) fun as st1=>∃ i j,as=[.int i,.int j]∧((-4611686018427387904≤i∧i < 4611686018427387904)∧-4611686018427387904≤j∧j < 4611686018427387904)∧R (.fix (rangeD i (j - i).toNat)) st1:=by
 unfold iRng2F;rw [Zae]
 constructor <;> refine fun h=>xab h fun as s h=>?_
 ·split at h
  ·next i j =>
   rw [Xau,Yab,yae] at h
   split at h
   ·next hk=>exact ⟨i,j,rfl,of_decide_eq_true hk,h⟩
   ·exact h.elim
  ·exact (yae.mp h).elim
 ·obtain ⟨i,j,rfl,h1,h⟩:=h
  simp only [decide_eq_true h1,if_true]
  exact Yab.mpr h
theorem xb8 {δ:DSt} {fa:DSt→Dm D} {R:Src→Store→Prop}:Wp (iTupF fa δ st) R↔Wp (fa δ st) fun a st1=>∃ ds,a=.tup ds∧R (.fix ds) st1:=by
 unfold iTupF;rw [Zae]
 constructor <;> refine fun h=>xab h fun a s h=>?_
 ·cases a <;> simp only [Yab,yae] at h
  exact ⟨_,rfl,h⟩
 ·obtain ⟨j,rfl,h⟩:=h
  exact Yab.mpr h
theorem YbR {δ:DSt} {fa:DSt→Dm D} {R:Src→Store→Prop}:Wp (iListF fa δ st) R↔Wp (fa δ st) fun a st1=>∃ i ds,a=.ref i∧items st1 i=some ds∧R (.live i) st1:=by
 unfold iListF;rw [Zae]
 constructor <;> refine fun h=>xab h fun a s h=>?_
 ·split at h
  ·split at h
   ·next i ds hd=>exact ⟨_,ds,rfl,hd,Yab.mp h⟩
   ·exact (yae.mp h).elim
  ·exact (yae.mp h).elim
 ·obtain ⟨i,ds,rfl,hd,h⟩:=h
  simp only [hd]
  exact Yab.mpr h
theorem xbR {δ:DSt} {fa:DSt→Dm (List D)} {R:Src→Store→Prop}:Wp (iEnumF fa δ st) R↔Wp (fa δ st) fun as st1=>∃ ds,as=[.tup ds]∧R (.fix (enumD ds)) st1:=by
 unfold iEnumF;rw [Zae]
 constructor <;> refine fun h=>xab h fun as s h=>?_
 ·split at h
  ·exact ⟨_,rfl,Yab.mp h⟩
  ·exact (yae.mp h).elim
 ·obtain ⟨ds,rfl,h⟩:=h
  exact Yab.mpr h
theorem zaN {i:Nat} {d:D} {δ:DSt} {R:DSt→Store→Prop}:Wp (hName i d δ st) R↔R (δ.set i (some d)) st:=Yab
theorem zbH {δ:DSt} {R:DSt→Store→Prop}:Wp (hNil [] δ st) R↔R δ st:=Yab
theorem za9 {f:D→DSt→Dm DSt} {g:List D→DSt→Dm DSt} {d:D} {ds:List D} {δ:DSt} {R:DSt→Store→Prop}:Wp (hCons f g (d :: ds) δ st) R↔Wp (f d δ st) fun δ1 st1=>Wp (g ds δ1 st1) R:=Zae
theorem ybH {n:Nat} {f:List D→DSt→Dm DSt} {ds:List D} {δ:DSt} {R:DSt→Store→Prop}:Wp (hTup n f (.tup ds) δ st) R↔ds.length=n∧Wp (f ds δ st) R:=by
 show Wp (if ds.length=n then f ds δ st else none) R↔_
 rw [Xau,yae]
 split
 ·next h=>exact ⟨fun q=>⟨h,q⟩,fun q=>q.2⟩
 ·next h=>exact ⟨False.elim,fun q=>h q.1⟩
theorem Xb8 {fo fi:DSt→Dm D} {d:D} {δ:DSt} {R:DSt→Store→Prop}:Wp (hSub fo fi d δ st) R↔Wp (fo δ st) fun o st1=>Wp (fi δ st1) fun i st2=>∃ r k xs j,o=.ref r∧i=.int k∧own st2 r=some xs∧ixN xs.length k=some j∧R δ (st2.set r (.lst (xs.set j d))):=by
 unfold hSub;rw [Zae];simp only [Zae]
 constructor <;> refine fun h=>xab h fun o s h=>xab h fun i s2 h=>?_
 ·split at h
  ·split at h
   ·next xs hx =>
    split at h
    ·next j hj=>exact ⟨_,_,xs,j,rfl,rfl,hx,hj,Yab.mp h⟩
    ·exact (yae.mp h).elim
   ·exact (yae.mp h).elim
  ·exact (yae.mp h).elim
 ·obtain ⟨r,k,xs,j,rfl,rfl,hx,hj,h⟩:=h
  simp only [hx,hj]
  exact Yab.mpr h
theorem ZbH {a:D} {c:String}:Wp (gIsinst [a,.ty c] st) Q↔tyNm st a=some c∧Q (.bl true) st:=by
 constructor
 ·rintro ⟨b,s,e,q⟩
  simp only [gIsinst] at e
  split at e
  ·next T hT =>
   split at e
   ·next h=>cases e;subst h;exact ⟨hT,q⟩
   ·cases e
  ·cases e
 ·rintro ⟨h,q⟩
  refine ⟨_,_,?_,q⟩
  simp only [gIsinst,h,if_true]
theorem ya9 {δ:DSt} {R:Bool→Store→Prop}:Wp (fTrue δ st) R↔R true st:=Yab
end
theorem at0 {α:Type} (x:α) (xs:List α):atI (x :: xs) 0=some x:=by
 unfold atI ixN
 rw [if_pos (by decide),if_pos (by simp only [List.length_cons];omega)]
 rfl
theorem at1 {α:Type} (x y:α) (xs:List α):atI (x :: y :: xs) 1=some y:=by
 unfold atI ixN
 rw [if_pos (by decide),if_pos (by simp only [List.length_cons];omega)]
 rfl
theorem s_get0 {α:Type} {a:α} {l:List α}:(a :: l)[0]?=some a:=List.getElem?_cons_zero
theorem s_getS {α:Type} {a:α} {l:List α} {i:Nat}:(a :: l)[i + 1]?=l[i]?:=List.getElem?_cons_succ
theorem s_set0 {α:Type} {a b:α} {l:List α}:(a :: l).set 0 b=b :: l:=List.set_cons_zero
theorem s_setS {α:Type} {a b:α} {l:List α} {i:Nat}:(a :: l).set (i + 1) b=a :: l.set i b:=List.set_cons_succ
theorem s_some {α:Type} (a b:α):(some a=some b)=(a=b):=Option.some.injEq a b
theorem s_ex' {α:Type} {p:α→Prop} {a':α}:(∃ a,a'=a∧p a)↔p a':=exists_eq_left'
theorem s_ex {α:Type} {p:α→Prop} {a':α}:(∃ a,a=a'∧p a)↔p a':=exists_eq_left
theorem s_exa {α:Type} {p:α→Prop} {b:Prop}:(∃ x,b∧p x)↔b∧∃ x,p x:=exists_and_left
theorem s_int (a b:Int):(D.int a=D.int b)=(a=b):=D.int.injEq a b
theorem s_bl (a b:Bool):(D.bl a=D.bl b)=(a=b):=D.bl.injEq a b
theorem s_str (a b:Str):(D.str a=D.str b)=(a=b):=D.str.injEq a b
theorem s_tup (a b:List D):(D.tup a=D.tup b)=(a=b):=D.tup.injEq a b
theorem s_ref (a b:Nat):(D.ref a=D.ref b)=(a=b):=D.ref.injEq a b
theorem s_cons {α:Type} (a:α) (l:List α) (b:α) (m:List α):(a :: l=b :: m)=(a=b∧l=m):=List.cons.injEq a l b m
theorem s_pair {α β:Type} (a:α) (b:β) (c:α) (d:β):((a,b)=(c,d))=(a=c∧b=d):=Prod.mk.injEq a b c d
theorem s_andT (p:Prop):(p∧True)=p:=and_true p
theorem s_Tand (p:Prop):(True∧p)=p:=true_and p
theorem s_notT:(!true)=false:=rfl
theorem s_notF:(!false)=true:=rfl
theorem s_FT:(false=true)=False:=by simp
theorem s_ifF {α:Type} {h:Decidable False} (t e:α):@ite α False h t e=e:=if_false t e
theorem s_ifT {α:Type} {h:Decidable True} (t e:α):@ite α True h t e=t:=if_true t e
noncomputable def wpB:=And.intro @wp_var (And.intro @wp_c (And.intro @wp_op (And.intro @wp_un (And.intro @wp_cb (And.intro @wp_nil (And.intro @zb5 (And.intro @wp_tup (And.intro @wp_lst (And.intro @yb5 (And.intro @wp_not (And.intro @wp_and (And.intro @wp_or (And.intro @wp_if (And.intro @Zb5 (And.intro @wp_orV (And.intro @Yb5 (And.intro @XbE (And.intro @xb5 (And.intro @wp_sl (And.intro @wp_bm (And.intro @wp_add (And.intro @wp_sub (And.intro @wp_lt (And.intro @wp_le (And.intro @wp_gt (And.intro @wp_ge (And.intro @wp_neg (And.intro @wp_mul (And.intro @Xb5 (And.intro @wp_mod (And.intro @wp_pow (And.intro @wp_eqI (And.intro @wp_eqS (And.intro @wp_ixT (And.intro @wp_ixL (And.intro @wp_slT (And.intro @wp_slL (And.intro @zb6 (And.intro @wp_cat (And.intro @wp_len (And.intro @yb6 (And.intro @YbQ (And.intro @Zb6 (And.intro @Yb6 (And.intro @xb6 (And.intro @Ybo (And.intro @zbF (And.intro @ybF (And.intro @ZbF (And.intro @Zb7 (And.intro @Yb7 (And.intro @wp_din (And.intro @xb7 (And.intro @xbQ (And.intro @Xb7 (And.intro @zaq (And.intro @Xa8 (And.intro @zbv (And.intro @XbQ (And.intro @ybv (And.intro @zbR (And.intro @zbG (And.intro @zb8 (And.intro @yb8 (And.intro @ybR (And.intro @ZbG (And.intro @wp_rep (And.intro @ZbR (And.intro @YbG (And.intro @Xbo (And.intro @wp_all (And.intro @wp_ixS (And.intro @Zb8 (And.intro @Yb8 (And.intro @xb8 (And.intro @YbR (And.intro @xbR (And.intro @zaN (And.intro @zbH (And.intro @za9 (And.intro @ybH (And.intro @Xb8 (And.intro @ZbH (And.intro @ya9 (And.intro @at0 (And.intro @at1 (And.intro @s_get0 (And.intro @s_getS (And.intro @s_set0 (And.intro @s_setS (And.intro @s_some (And.intro @s_ex' (And.intro @s_ex (And.intro @s_exa (And.intro @s_int (And.intro @s_bl (And.intro @s_str (And.intro @s_tup (And.intro @s_ref (And.intro @s_cons (And.intro @s_pair (And.intro @s_andT (And.intro @s_Tand (And.intro @s_notT (And.intro @s_notF (And.intro @s_FT (And.intro @s_ifF (@s_ifT))))))))))))))))))))))))))))))))))))))))))))))))))))))))))))))))))))))))))))))))))))))))))))))))))))))))))))
theorem Yaa {α:Type} {m:Option (α×Store)} {Q:α→Store→Prop} (h:∀ Q':α→Store→Prop,(∀ a st,Q a st→Q' a st)→Wp m Q'):Wp m Q:=h Q fun _ _ h=>h
end L4
namespace L4
open PySem PySem.Spec L2
section
variable {X:Cx} {K:PySem.W.Frag}
end
section
variable {st:Store} {Q:D→Store→Prop}
theorem XbR (n:Nat) (L:List Int):mapO (toP st (n + 1)) (L.map D.int)=some (intsD L):=XaM (f:=toP st (n + 1)) (g:=D.int) (k:=PyData.int) (fun _=>by simp only [toP]) L
theorem xbe (a b:List PyData):PyData.eqv (.list a) (.list b)=PyData.eqvAll a b:=by simp only [PyData.eqv]
theorem YbH {neg:Bool} {a b:Nat} {L M:List Int} (ha:items st a=some (L.map D.int)) (hb:items st b=some (M.map D.int)):Wp (gEqD neg (.ref a) (.ref b) st) Q↔Q (.bl (if neg then !decide (L=M) else decide (L=M))) st:=by
 have p1:∀ (i:Nat) (N:List Int),items st i=some (N.map D.int)→toP st 20 (.ref i)=some (.list (intsD N)):=fun i N h=>by
  simp only [toP,h]
  rw [XbR];rfl
 have dp:∀ N:List Int,PyData.depth (.list (intsD N))≤1:=fun N=>by show PyData.depthAll (intsD N) + 1≤1;rw [Xa3];omega
 rw [wp_eqD]
 constructor
 ·rintro ⟨p,q,h1,h2,_,h⟩
  rw [p1 a L ha] at h1
  rw [p1 b M hb] at h2
  cases h1
  cases h2
  rw [xbe,xa7] at h
  exact h
 ·intro h
  refine ⟨_,_,p1 a L ha,p1 b M hb,⟨zaP L,zaP M,by have:=dp L;omega⟩,?_⟩
  rw [xbe,xa7]
  exact h
noncomputable def tts (rs:List (List Int)):D:=.tup (rs.map fun r=>.tup (r.map D.int))
end
end L4
namespace L4
open PySem PySem.Spec L2
noncomputable def FeedIs (st:Store) (f:Nat):Prop:=∃ o m:Int,st[f]?=some (.lst [.int o,.int m])∧0≤o∧0≤m∧m < 4294967296
theorem ix2_0:ixN 2 0=some 0:=by decide
theorem ix2_1:ixN 2 1=some 1:=by decide
theorem ZaD (n:Nat):rangeD 0 n=(Mth.upto n).map D.int:=by
 unfold rangeD Mth.upto
 rw [List.map_map]
 apply List.map_congr_left
 intro i _
 simp
theorem Zbv (L:List Int) (j:Nat):(L.map D.int).eraseIdx j=(L.eraseIdx j).map D.int:=by
 induction L generalizing j with
 | nil=>rfl
 | cons a r ih =>
  cases j with
  | zero=>rfl
  | succ j=>show D.int a :: (r.map D.int).eraseIdx j=_;rw [ih];rfl
theorem ybk {L:List Int} {j:Nat} (h:j < L.length):(L[j] :: L.eraseIdx j).Perm L:=by
 induction L generalizing j with
 | nil=>exact absurd h (Nat.not_lt_zero _)
 | cons a r ih =>
  cases j with
  | zero=>exact List.Perm.refl _
  | succ j =>
   have:=ih (j:=j) (by simpa using h)
   exact (List.Perm.swap _ _ _).trans (this.cons a)
theorem FeedIs.keep {st st':Store} {f:Nat} (h:FeedIs st f) (e:Ex [] st st'):FeedIs st' f:=by
 obtain ⟨o,m,e1,r⟩:=h
 exact ⟨o,m,e.keep _ _ e1 (by simp),r⟩
theorem FeedIs.ne {st:Store} {f i:Nat} {o:O} (h:FeedIs st f) (hi:i≠f):FeedIs (st.set i o) f:=by
 obtain ⟨x,m,e1,r⟩:=h
 exact ⟨x,m,by rw [List.getElem?_set_ne hi];exact e1,r⟩
theorem FeedIs.lt {st:Store} {f:Nat} (h:FeedIs st f):f < st.length:=let ⟨_,_,e,_⟩:=h;zac e
theorem Zak {xs:List Int} {i:Int} (h0:0≤i) (h1:i < (xs.length:Int)):atI (xs.map D.int) i=some (.int (Mth.app xs i)):=by
 have e:(xs.map D.int)[i.toNat]?=some (.int (Mth.app xs i)):=by rw [List.getElem?_map,Mth.xaj h0 h1];rfl
 have:=ZaT e
 rwa [Int.toNat_of_nonneg h0] at this
theorem yaR {xs:List Int} {i:Nat} {d:D} (h:(xs.map D.int)[i]?=some d):∃ x,xs[i]?=some x∧d=.int x:=by
 rw [List.getElem?_map] at h
 obtain ⟨x,h1,h2⟩:=Option.map_eq_some_iff.mp h
 exact ⟨x,h1,h2.symm⟩
theorem za1 (x:Int):∀ (ns:List Int),inV (.int x) (ns.map V.int)=ns.contains x
 | []=>rfl
 | n :: r=>by
  have e:=za1 x r
  unfold inV at e ⊢
  rw [List.map_cons,List.any_cons,e,List.contains_cons]
  congr 1
  show (n == x)=(x == n)
  exact Bool.beq_comm
theorem xbY {st:Store} {Q:D→Store→Prop} {neg:Bool} {x:Int} {c:D} {ns:List Int} (hc:seqOf st c=some (ns.map D.int)):Wp (gIn neg (.int x) c st) Q↔Q (.bl (if neg then !ns.contains x else ns.contains x)) st:=by
 rw [wp_in]
 constructor
 ·rintro ⟨v,ds,vs,h1,h2,h3,h⟩
  cases h1
  rw [hc] at h2
  cases h2
  rw [xbG] at h3
  cases h3
  rw [za1] at h
  exact h
 ·intro h
  refine ⟨_,_,_,rfl,hc,xbG ns,?_⟩
  rw [za1]
  exact h
noncomputable def flD (xs ys:List Int):D:=.tup [.tup (xs.map D.int),.tup (ys.map D.int)]
structure Two (st0 st:Store) (f r u:Nat) (n:Nat) (X Y:List Int):Prop where
 hr:st[r]?=some (.lst (X.map D.int))
 hu:st[u]?=some (.lst (Y.map D.int))
 ne:r≠u
 r0:st0.length≤r
 u0:st0.length≤u
 tX:Mth.Tn n X
 tY:Mth.Tn n Y
 fd:FeedIs st f
 ex:Ex [f] st0 st
section
variable {st0 st st':Store} {f r u n:Nat} {X Y Z:List Int} {o:O}
theorem Two.keep (h:Two st0 st f r u n X Y) (e:Ex [] st st'):Two st0 st' f r u n X Y:=⟨e.keep _ _ h.hr (by simp),e.keep _ _ h.hu (by simp),h.ne,h.r0,h.u0,h.tX,h.tY,h.fd.keep e,h.ex.trans e.any⟩
theorem Two.setR (h:Two st0 st f r u n X Y) (t:Mth.Tn n Z):Two st0 (st ++ [.lst (Z.map D.int)]) f st.length u n Z Y:=⟨Xag,xak h.hu,by have:=zac h.hu;omega,h.ex.len,h.u0,t,h.tY,h.fd.keep (Ex.app0 _),h.ex.app _⟩
theorem Two.setU (h:Two st0 st f r u n X Y) (t:Mth.Tn n Z):Two st0 (st ++ [.lst (Z.map D.int)]) f r st.length n X Z:=⟨xak h.hr,Xag,by have:=zac h.hr;omega,h.r0,h.ex.len,h.tX,t,h.fd.keep (Ex.app0 _),h.ex.app _⟩
theorem Two.put (h:Two st0 st f r u n X Y) (t:Mth.Tn n Z) (hf:f < st0.length):Two st0 (st.set r (.lst (Z.map D.int))) f r u n Z Y:=⟨List.getElem?_set_self (zac h.hr),by rw [List.getElem?_set_ne h.ne];exact h.hu,h.ne,h.r0,h.u0,t,h.tY,h.fd.ne (by have:=h.r0;omega),h.ex.loc h.r0⟩
end
theorem xbH (n:Nat):(Mth.form1 n).map D.int=rangeD 1 ((n:Int) - 1).toNat ++ [.int 0]:=by
 unfold Mth.form1 rangeD
 rw [List.map_append,List.map_map,show ((n:Int) - 1).toNat=n - 1 by omega]
 rfl
theorem yaM {lo hi:Int} (h:0≤lo∧lo≤10000∧0≤hi∧hi≤10000):okR lo hi=true:=by
 unfold okR;rw [Bool.and_eq_true,decide_eq_true_eq];exact ⟨by omega,zan (by omega)⟩
theorem rowR_D (w n:Nat):(Mth.rowR w n).map D.int=rangeD 1 ((w:Int) - 1).toNat ++ [.int 0] ++ rangeD (w:Int) ((n:Int) - (w:Int)).toNat:=by
 unfold Mth.rowR rangeD
 rw [List.map_append,List.map_append,List.map_map,List.map_map,show ((w:Int) - 1).toNat=w - 1 by omega,show ((n:Int) - (w:Int)).toNat=n - w by omega]
 rfl
theorem Za9 (xs:List D) (j:Nat):cutD xs none (some (j:Int))=xs.take j:=by
 unfold cutD
 rw [HT.Zbm,HT.xby,List.drop_zero,Nat.sub_zero,List.take_eq_take_iff];omega
theorem XbH (xs:List D) (i:Nat):cutD xs (some (i:Int)) none=xs.drop i:=by
 unfold cutD
 rw [HT.xby,HT.Zbm]
 by_cases h:i≤xs.length
 ·rw [Nat.min_eq_left h,List.take_of_length_le (by rw [List.length_drop];exact Nat.le_refl _)]
 ·rw [Nat.min_eq_right (by omega),List.drop_eq_nil_of_le (Nat.le_refl _),List.drop_eq_nil_of_le (by omega)];simp
theorem colU_D {w n:Nat} (h0:0 < w) (h:w < n):(Mth.colU w n).map D.int=cutD ([D.int (w:Int)] ++ rangeD 1 ((w:Int) - 1).toNat ++ rangeD ((w:Int) + 1) ((n:Int) - ((w:Int) + 1)).toNat ++ [.int 0]) none (some (n:Int)):=by
 rw [Za9,List.take_of_length_le (by simp [Xab];omega)]
 unfold Mth.colU rangeD
 rw [List.map_append,List.map_append,List.map_append,List.map_map,List.map_map,show ((w:Int) - 1).toNat=w - 1 by omega,show ((n:Int) - ((w:Int) + 1)).toNat=n - (w + 1) by omega]
 rfl
noncomputable def IsFl (n:Nat) (xs ys:List Int):Prop:=Mth.Tn n xs∧Mth.Tn n ys∧∀ x:Int,0≤x→x < (n:Int)→Mth.Rch xs ys x
theorem zbp {xs:List Int} {v:Int} (h:v∈xs):xs.findIdx? (fun i=>decide (i=v))=some (xs.idxOf v):=by
 induction xs with
 | nil=>exact nomatch h
 | cons a r ih =>
  rw [List.findIdx?_cons]
  by_cases e:a=v
  ·subst e;simp
  ·have hm:v∈r:=by
    rcases List.mem_cons.mp h with h | h
    ·exact absurd h.symm e
    ·exact h
   rw [decide_eq_false e,ih hm,List.idxOf_cons,show (a == v)=false by simpa using e]
   rfl
theorem zbI (xs:List D) (lo hi:Option Int):(cutD xs lo hi).length≤xs.length:=by
 unfold cutD;rw [List.length_take,List.length_drop];omega
theorem zb9 (n:Nat):mapO bV (List.replicate n (.bl true))=some (List.replicate n true):=by
 have:=XaM (f:=bV) (g:=D.bl) (k:=id) (fun _=>rfl) (List.replicate n true)
 simpa using this
noncomputable def SrcOk (S:Src) (ds:List D) (st:Store):Prop:=∀ (i:Nat) (st2:Store),i≤ds.length→Ex [] st st2→S.at i st2=some ds[i]?
theorem yaN {st st':Store} {r:Nat} {ds:List D} (h:items st r=some ds) (e:Ex [] st st'):items st' r=some ds:=by
 unfold items at h ⊢
 cases hx:st[r]? with
 | none=>rw [hx] at h;cases h
 | some o=>rw [e.keep _ _ hx (by simp)];rw [hx] at h;exact h
theorem ZaP (ds:List D) (st:Store):SrcOk (.fix ds) ds st:=fun i st2 hi _=>by
 show (if i≤ds.length then some ds[i]? else none)=_
 rw [if_pos hi]
theorem zbS {ds:List D} {st:Store} {r:Nat} (h:items st r=some ds):SrcOk (.live r) ds st:=fun i st2 hi e=>by
 show (items st2 r).map _=_
 rw [yaN h e];rfl
theorem ZaN {δ:DSt} {st:Store} {fi:DSt→Dm Src} {js:List Nat} {f:DSt→Dm D} {Q:D→Store→Prop} (ds:List D) (h:D→D) (hi:Wp (fi δ st) fun S st1=>SrcOk S ds st1∧Ex [] st st1) (hl:ds.length < 100000)
  (step:∀ d∈ds,∀ st1,Ex [] st st1→Wp (f (some d :: js.map fun j=>δ.getD j none) st1) fun y st2=>y=h d∧Ex [] st1 st2) (fin:∀ st',Ex [] st st'→Q (.ref st'.length) (st' ++ [.lst (ds.map h)])):Wp (fComp fi 1 js (hName 0) fTrue f δ st) Q:=by
 obtain ⟨S,st1,e1,hS,k1⟩:=hi
 refine Xa0 ds (fun i ys δ' st8=>(∃ v,δ'=v :: js.map fun j=>δ.getD j none)∧ys=(ds.take i).map h∧Ex [] st1 st8) ⟨S,st1,e1,fun i ys δ' st8 hi' hp=>hS i st8 hi' hp.2.2,⟨none,rfl⟩,rfl,Ex.refl⟩ hl ?_ ?_ ?_
 ·rintro i ys δ' st8 ⟨_,rfl,_⟩
  rw [List.length_map,List.length_take];omega
 ·rintro i d ys δ' st8 hd ⟨⟨v,rfl⟩,rfl,k8⟩
  rw [zaN]
  show Wp (fTrue _ _) _
  rw [ya9]
  refine ⟨fun _=>?_,fun h=>absurd h (by decide)⟩
  refine xab (step d (List.mem_of_getElem? hd) st8 (k1.trans k8)) ?_
  rintro y st9 ⟨rfl,k9⟩
  refine ⟨⟨some d,rfl⟩,?_,k8.trans k9⟩
  obtain ⟨hlt,e⟩:=List.getElem?_eq_some_iff.mp hd
  rw [List.take_succ_eq_append_getElem hlt,List.map_append,e];rfl
 ·rintro ys δ' st8 ⟨_,rfl,k8⟩
  rw [List.take_length]
  exact fin st8 (k1.trans k8)
theorem ZaR {xs:List Int} {d:D} (h:d∈xs.map D.int):∃ x∈xs,d=.int x:=by
 obtain ⟨x,hx,rfl⟩:=List.mem_map.mp h
 exact ⟨x,hx,rfl⟩
theorem ybI {xs:List Int} {f:Int→Int} {h:D→D} (e:∀ x∈xs,h (.int x)=.int (f x)):(xs.map D.int).map h=(xs.map f).map D.int:=by
 rw [List.map_map,List.map_map]
 exact List.map_congr_left fun x hx=>e x hx
noncomputable def inD:D→Int
 | .int i=>i
 | _=>0
section
variable {st:Store} {Q:D→Store→Prop}
end
end L4
namespace L4
open PySem PySem.Spec L2
theorem YaD (p:Key×D) (r:List (Key×D)) (k:Key):valD (p :: r) k=if p.1=k then some p.2 else valD r k:=by
 unfold valD
 rw [List.find?_cons]
 by_cases e:p.1=k
 ·rw [decide_eq_true e,if_pos e];rfl
 ·rw [decide_eq_false e,if_neg e]
theorem ybp (kvs:List (Key×D)) (k j:Key) (y:D):valD (putD kvs k y) j=if j=k then some y else valD kvs j:=by
 unfold putD
 by_cases a:(kvs.any fun kv=>decide (kv.1=k))=true
 ·rw [if_pos a]
  induction kvs with
  | nil=>simp at a
  | cons p r ih =>
   rw [List.map_cons,YaD,YaD]
   by_cases e:p.1=k
   ·rw [if_pos e]
    by_cases ej:j=k
    ·rw [if_pos ej,if_pos (show (p.1,y).1=j from e.trans ej.symm)]
    ·rw [if_neg ej,if_neg (show ¬ (p.1,y).1=j from fun z=>ej (z.symm.trans e)),if_neg (fun z=>ej (z.symm.trans e))]
     have:∀ l:List (Key×D),valD (l.map fun kv=>if kv.1=k then (kv.1,y) else kv) j=valD l j:=by
      intro l
      induction l with
      | nil=>rfl
      | cons q l ihl =>
       rw [List.map_cons,YaD,YaD,ihl]
       by_cases eq:q.1=k
       ·rw [if_pos eq,if_neg (show ¬ (q.1,y).1=j from fun z=>ej (z.symm.trans eq)),if_neg (fun z=>ej (z.symm.trans eq))]
       ·rw [if_neg eq]
     exact this r
   ·rw [if_neg e]
    have a':(r.any fun kv=>decide (kv.1=k))=true:=by
     rw [List.any_cons,decide_eq_false e,Bool.false_or] at a
     exact a
    rw [ih a']
    by_cases ej:j=k
    ·rw [if_pos ej,if_neg (fun z=>e (z.trans ej)),if_pos ej]
    ·rw [if_neg ej,if_neg ej]
 ·rw [if_neg a]
  induction kvs with
  | nil =>
   show valD [(k,y)] j=_
   rw [YaD]
   by_cases ej:j=k
   ·rw [if_pos ej.symm,if_pos ej]
   ·rw [if_neg (fun z=>ej z.symm),if_neg ej]
  | cons p r ih =>
   have a':¬ (r.any fun kv=>decide (kv.1=k))=true:=fun z=>a (by rw [List.any_cons,z,Bool.or_true])
   have ep:p.1≠k:=fun z=>a (by rw [List.any_cons,decide_eq_true z,Bool.true_or])
   rw [List.cons_append,YaD,ih a',YaD]
   by_cases ej:j=k
   ·rw [if_pos ej,if_pos ej,if_neg (fun z=>ep (z.trans ej))]
   ·rw [if_neg ej,if_neg ej]
theorem YaP (kvs:List (Key×D)) (k:Key) (v:D):(putD kvs k v).length≤kvs.length + 1:=by
 unfold putD
 split
 ·rw [List.length_map];omega
 ·rw [List.length_append,List.length_cons,List.length_nil];omega
theorem zau {st:Store} {i:Nat} {kvs:List (Key×D)} (h:st[i]?=some (.dct kvs)):dctOf st (.ref i)=some kvs:=by simp only [dctOf,h]
theorem Xbe (i:Int):keyOf (.int i)=some (.inl i):=rfl
theorem Za2 {r:List Int} {j:Nat} (h:j < r.length) (x:Int):(r.take (j + 1)).contains x=((r.take j).contains x || x == r[j]):=by
 rw [List.take_succ_eq_append_getElem h,List.contains_append]
 congr 1
 show ([r[j]]:List Int).contains x=(x == r[j])
 rw [List.contains_cons,List.contains_nil,Bool.or_false]
end L4
namespace L4
open PySem PySem.Spec L2
end L4
namespace L4
open PySem PySem.Spec L2
section
variable {X:Cx} {K:PySem.W.Frag}
end
end L4
namespace L4
open PySem PySem.Spec L2
section
variable {K:PySem.W.Frag}
end
section
variable {X:Cx}
end
section
variable {st:Store} {Q:D→Store→Prop}
theorem XbY {neg a b:Bool}:Wp (gEq neg (.bl a) (.bl b) st) Q↔Q (.bl (if neg then !decide (a=b) else decide (a=b))) st:=by
 have e:decide (V.bl a=V.bl b)=decide (a=b):=by
  by_cases h:a=b
  ·subst h;simp
  ·simp [h]
 show Wp (if scal (V.bl a) (V.bl b)=true then some (D.bl (if neg then !decide (V.bl a=V.bl b) else decide (V.bl a=V.bl b)),st) else none) Q↔_
 rw [if_pos (show scal _ _=true from rfl),Yab,e]
end
theorem ybS {δ:DSt} {st:Store} {fi:DSt→Dm Src} {js:List Nat} {f:DSt→Dm D} {Q:D→Store→Prop} (ds:List D) (P:Nat→D→Prop) (I:Store→Prop)
  (hi:Wp (fi δ st) fun S st1=>(∀ i st2,i≤ds.length→I st2→S.at i st2=some ds[i]?)∧I st1) (hl:ds.length < 100000)
  (step:∀ i d,ds[i]?=some d→∀ st1,I st1→Wp (f (some d :: js.map fun j=>δ.getD j none) st1) fun y st2=>P i y∧I st2)
  (fin:∀ ys st',I st'→ys.length=ds.length→(∀ i y,ys[i]?=some y→P i y)→Q (.ref st'.length) (st' ++ [.lst ys])):Wp (fComp fi 1 js (hName 0) fTrue f δ st) Q:=by
 obtain ⟨S,st1,e1,hS,k1⟩:=hi
 refine Xa0 ds (fun i ys δ' st8=>(∃ v,δ'=v :: js.map fun j=>δ.getD j none)∧ys.length=i∧(∀ i y,ys[i]?=some y→P i y)∧I st8) ⟨S,st1,e1,fun i ys δ' st8 hi' hp=>hS i st8 hi' hp.2.2.2,⟨none,rfl⟩,rfl,(fun i y h=>by simp at h),k1⟩ hl ?_ ?_ ?_
 ·rintro i ys δ' st8 ⟨_,h,_⟩
  omega
 ·rintro i d ys δ' st8 hd ⟨⟨v,rfl⟩,hlen,hP,k8⟩
  rw [zaN]
  show Wp (fTrue _ _) _
  rw [ya9]
  refine ⟨fun _=>?_,fun h=>absurd h (by decide)⟩
  refine xab (step i d hd st8 k8) ?_
  rintro y st9 ⟨hp,k9⟩
  refine ⟨⟨some d,rfl⟩,by rw [List.length_append,hlen];rfl,fun j z hz=>?_,k9⟩
  by_cases hj:j < ys.length
  ·rw [List.getElem?_append_left hj] at hz;exact hP j z hz
  ·have hb:=zac hz
   rw [List.length_append,List.length_singleton] at hb
   have e:j=ys.length:=by omega
   subst e
   rw [List.getElem?_append_right (Nat.le_refl _),Nat.sub_self] at hz
   cases hz
   rw [hlen];exact hp
 ·rintro ys δ' st8 ⟨_,hlen,hP,k8⟩
  exact fin ys st8 k8 hlen hP
theorem Ex.drop {st st1 st2:Store} {f:Nat} (a:Ex [] st st1) (b:Ex [f] st1 st2) (h:st.length≤f):Ex [] st st2:=⟨Nat.le_trans a.len b.len,fun i o e n=>b.keep i o (a.keep i o e n) (by have:=zac e;simp;omega)⟩
end L4
namespace L4
open PySem PySem.Spec L2
noncomputable def strD:D→Option Str
 | .str x=>some x
 | _=>none
noncomputable def gAddS:D→D→Dm D
 | .str x,.str y,st=>if lim (x.length + y.length)=true then some (.str (x ++ y),st) else none
 | _,_,_=>none
noncomputable def gInS (neg:Bool):D→D→Dm D
 | .str x,.str y,st=>some (.bl (if neg then !(!(Builtin.Str.occurrences y x 0 y.length 1).isEmpty) else !(Builtin.Str.occurrences y x 0 y.length 1).isEmpty),st)
 | _,_,_=>none
noncomputable def chD (x:Str):List D:=x.cps.toList.map fun c=>.str ⟨#[c]⟩
noncomputable def iStrF (fa:DSt→Dm D):DSt→Dm Src:=fun δ st=>bnd (fa δ st) fun a st1=>match a with
 | .str x=>if x.length≤100000 then some (.fix (chD x),st1) else none
 | _=>none
section
variable {K:PySem.W.Frag}
theorem zbZ (neg:Bool):So2 K (fun x y H Q=>∃ i j,x=.str i∧y=.str j∧Q (.bl (if neg then !(!(Builtin.Str.occurrences j i 0 j.length 1).isEmpty) else !(Builtin.Str.occurrences j i 0 j.length 1).isEmpty)) H) (gInS neg):=by
 intro ρ H st x y a c b st' Q l rx ry e q
 unfold gInS at e
 split at e
 ·cases e
  cases rx
  cases ry
  exact ⟨_,_,rfl,rfl,q _ H ρ .refl l (.bl _)⟩
 ·cases e
theorem ZbI {t:TE} {fa:DSt→Dm D} (ha:SoE K t fa):SoI K (iStr t) (iStrF fa):=by
 intro ρ σ H δ st S st' Q l rs e q
 obtain ⟨a,st1,e1,e⟩:=xac e
 split at e
 ·next x =>
  split at e
  ·next hl =>
   cases e
   refine ha ρ σ H δ st _ _ _ l rs e1 fun y H1 ρ1 m1 l1 r1=>?_
   cases r1
   refine ⟨_,rfl,q _ H1 ρ1 m1 l1 fun ρ2 H2 st2 i m2 l2=>⟨fun h=>?_,fun d h=>?_⟩⟩
   ·have h2:=List.getElem?_eq_none_iff.mp (ZaB h).2
    show x.cps.size≤i
    simpa [chD] using h2
   ·have h2:=(ZaB h).2
    unfold chD at h2
    rw [List.getElem?_map] at h2
    obtain ⟨c,hc,e⟩:=Option.map_eq_some_iff.mp h2
    subst e
    have hc':x.cps[i]?=some c:=by simpa using hc
    refine ⟨?_,fun y H3 hy=>?_⟩
    ·show i < x.cps.size
     exact (Array.getElem?_eq_some_iff.mp hc').1
    ·obtain ⟨rfl,c',hc2,rfl⟩:=hy
     rw [hc'] at hc2
     cases hc2
     exact ⟨.refl,l2,.str _⟩
  ·cases e
 ·cases e
end
section
variable {st:Store} {Q:D→Store→Prop}
theorem YbI {δ:DSt} {fa:DSt→Dm D} {R:Src→Store→Prop}:Wp (iStrF fa δ st) R↔Wp (fa δ st) fun a st1=>∃ x,a=.str x∧x.length≤100000∧R (.fix (chD x)) st1:=by
 unfold iStrF;rw [Zae]
 constructor <;> refine fun h=>xab h fun a s h=>?_
 ·cases a <;> simp only [yae] at h
  ·next x =>
   rw [Xau,Yab,yae] at h
   split at h
   ·next hl=>exact ⟨_,rfl,hl,h⟩
   ·exact h.elim
 ·obtain ⟨j,rfl,hl,h⟩:=h
  simp only [if_pos hl]
  exact Yab.mpr h
theorem zbf {neg:Bool} {x y:Str}:Wp (gInS neg (.str x) (.str y) st) Q↔Q (.bl (if neg then !(!(Builtin.Str.occurrences y x 0 y.length 1).isEmpty) else !(Builtin.Str.occurrences y x 0 y.length 1).isEmpty)) st:=Yab
end
end L4
namespace L4
open PySem PySem.Spec L2
noncomputable def zsD:D→Option (List D)
 | .tup ds=>some ds
 | .str x=>some (chD x)
 | _=>none
noncomputable def zipD:List D→List D→List D
 | a :: r,b :: t=>.tup [a,b] :: zipD r t
 | _,_=>[]
theorem Ya9:∀ {ds es:List D} {i:Nat} {d:D},(zipD ds es)[i]?=some d→∃ a b,ds[i]?=some a∧es[i]?=some b∧d=.tup [a,b]
 | a :: r,b :: t,0,d,h=>⟨a,b,rfl,rfl,(Option.some.inj h).symm⟩
 | a :: r,b :: t,i + 1,d,h=>Ya9 (ds:=r) (es:=t) (i:=i) h
 | [],_,_,_,h=>by simp [zipD] at h
 | _ :: _,[],_,_,h=>by simp [zipD] at h
theorem xa9:∀ {ds es:List D} {i:Nat},i≤(zipD ds es).length→(zipD ds es)[i]?=none→(i=ds.length∧i≤es.length)∨(i < ds.length∧i=es.length)
 | [],es,i,h,_=>by
  have:i=0:=by simpa [zipD] using h
  subst this
  exact .inl ⟨rfl,Nat.zero_le _⟩
 | a :: r,[],i,h,_=>by
  have:i=0:=by simpa [zipD] using h
  subst this
  exact .inr ⟨Nat.succ_pos _,rfl⟩
 | a :: r,b :: t,0,_,h=>by simp [zipD] at h
 | a :: r,b :: t,i + 1,h,hn=>by
  have h1:i≤(zipD r t).length:=by simp only [zipD,List.length_cons] at h;omega
  have h2:(zipD r t)[i]?=none:=by simpa [zipD] using hn
  have:=xa9 (ds:=r) (es:=t) h1 h2
  simp only [List.length_cons]
  omega
theorem Zbp {α:Type} (f g:α→D):∀ (l:List α),zipD (l.map f) (l.map g)=l.map fun x=>.tup [f x,g x]
 | []=>rfl
 | a :: r=>by simp only [List.map_cons,zipD,Zbp f g r]
noncomputable def iZipF (fa:DSt→Dm (List D)):DSt→Dm Src:=fun δ st=>bnd (fa δ st) fun as st1=>match as with
 | [a,b]=>match zsD a,zsD b with
  | some ds,some es=>some (.fix (zipD ds es),st1)
  | _,_=>none
 | _=>none
section
variable {K:PySem.W.Frag}
theorem yb9 {ρ:List Addr} {H:Hp} {x:V} {a:D} {ds:List D} (r:Rp K ρ H x a) (h:zsD a=some ds):∃ src:ZS,src.val K H x∧∀ (ρ2:List Addr) (H2:Hp),Mn K ρ H ρ2 H2→∀ i,(∀ d,ds[i]?=some d→∃ v,src.has K H2 i v∧Rp K ρ2 H2 v d)∧(i=ds.length→src.fin K H2 i):=by
 cases r with
 | non=>cases h
 | bl b=>cases h
 | int i=>cases h
 | ty n=>cases h
 | ref e=>cases h
 | str x =>
  cases h
  refine ⟨.str x,rfl,fun ρ2 H2 m i=>⟨fun d hd=>?_,fun e=>?_⟩⟩
  ·unfold chD at hd
   rw [List.getElem?_map] at hd
   obtain ⟨c,hc,rfl⟩:=Option.map_eq_some_iff.mp hd
   exact ⟨_,⟨c,by simpa using hc,rfl⟩,.str _⟩
  ·show x.cps.size=i
   rw [e];simp [chD]
 | tup s r =>
  cases h
  refine ⟨.tup _,⟨rfl,_,s⟩,fun ρ2 H2 m i=>⟨fun d hd=>?_,fun e=>?_⟩⟩
  ·obtain ⟨v,hv,rv⟩:=r.got hd
   exact ⟨v,⟨_,m.t _ _ s,hv⟩,rv.mn m⟩
  ·exact ⟨_,m.t _ _ s,by rw [r.length];exact e.symm⟩
theorem xbI {t:TA} {fa:DSt→Dm (List D)} (ha:SoA K t fa):SoI K (iZip K t) (iZipF fa):=by
 intro ρ σ H δ st S st' Q l rs e q
 obtain ⟨as,st1,e1,e⟩:=xac e
 split at e
 ·next a b =>
  split at e
  ·next ds es h1 h2 =>
   cases e
   refine ha ρ σ H δ st _ _ _ l rs e1 fun xs H1 ρ1 m1 l1 r1=>?_
   obtain ⟨x,y,rfl,rx,ry⟩:=r1.two'
   obtain ⟨s1,v1,g1⟩:=yb9 rx h1
   obtain ⟨s2,v2,g2⟩:=yb9 ry h2
   refine ⟨x,y,s1,s2,rfl,v1,v2,q _ H1 ρ1 m1 l1 fun ρ2 H2 st2 i m2 l2=>⟨fun h=>?_,fun d h=>?_⟩⟩
   ·obtain ⟨hl,hn⟩:=ZaB h
    have has2:i < es.length→∃ y,s2.has K H2 i y:=fun hi=>by
     obtain ⟨v,hv,_⟩:=(g2 ρ2 H2 m2 i).1 es[i] (List.getElem?_eq_getElem hi)
     exact ⟨v,hv⟩
    rcases xa9 hl hn with ⟨e1,e2⟩ | ⟨e1,e2⟩
    ·refine .inl ⟨(g1 ρ2 H2 m2 i).2 e1,?_⟩
     rcases Nat.lt_or_ge i es.length with hi | hi
     ·exact .inr (has2 hi)
     ·exact .inl ((g2 ρ2 H2 m2 i).2 (by omega))
    ·obtain ⟨v,hv,_⟩:=(g1 ρ2 H2 m2 i).1 ds[i] (List.getElem?_eq_getElem e1)
     exact .inr ⟨⟨v,hv⟩,(g2 ρ2 H2 m2 i).2 e2⟩
   ·obtain ⟨c,b,hc,hb,rfl⟩:=Ya9 (ZaB h).2
    obtain ⟨v,hv,rv⟩:=(g1 ρ2 H2 m2 i).1 c hc
    obtain ⟨w,hw,rw'⟩:=(g2 ρ2 H2 m2 i).1 b hb
    refine ⟨⟨v,w,hv,hw⟩,fun z H3 hz=>?_⟩
    obtain ⟨p,v',w',rfl,hp,rfl,k1,k2⟩:=hz
    cases k1 _ hv
    cases k2 _ hw
    have m3:Mn K ρ2 H2 ρ2 (upd H2 p (.tup [v,w])):=Mn.same (Same.up hp)
    exact ⟨m3,l2.same (Same.up hp),.tup (SqT.of Xaj) (.cons (rv.mn m3) (.one (rw'.mn m3)))⟩
  ·cases e
 ·cases e
end
section
variable {st:Store}
theorem XbI {δ:DSt} {fa:DSt→Dm (List D)} {R:Src→Store→Prop}:Wp (iZipF fa δ st) R↔Wp (fa δ st) fun as st1=>∃ a b ds es,as=[a,b]∧zsD a=some ds∧zsD b=some es∧R (.fix (zipD ds es)) st1:=by
 unfold iZipF;rw [Zae]
 constructor <;> refine fun h=>xab h fun as s h=>?_
 ·split at h
  ·next a b =>
   split at h
   ·next ds es h1 h2=>exact ⟨a,b,ds,es,rfl,h1,h2,Yab.mp h⟩
   ·exact (yae.mp h).elim
  ·exact (yae.mp h).elim
 ·obtain ⟨a,b,ds,es,rfl,h1,h2,h⟩:=h
  simp only [h1,h2]
  exact Yab.mpr h
end
noncomputable def isaN:List String:=["NoneType","bool","int","str","tuple","list","dict"]
noncomputable def isaC:List String:=["bool","int","str","tuple","list","dict"]
noncomputable def isaT (T c:String):Option Bool:=if isaN.contains T && isaC.contains c then some (T == c || (T == "bool" && c == "int")) else none
noncomputable def isaAny (T:String):List String→Option Bool
 | []=>some false
 | c :: r=>match isaT T c with
  | some true=>some true
  | some false=>isaAny T r
  | none=>none
noncomputable def tyS:D→Option String
 | .ty n=>some n
 | _=>none
noncomputable def tysD:D→Option (List String)
 | .ty n=>some [n]
 | .tup ds=>mapO tyS ds
 | _=>none
noncomputable def gIsA:List D→Dm D
 | [a,c],st=>match tyNm st a,tysD c with
  | some T,some cs=>match isaAny T cs with
   | some b=>some (.bl b,st)
   | none=>none
  | _,_=>none
 | _,_=>none
theorem za5 {st:Store} {Q:D→Store→Prop} {a c:D} {T:String} {cs:List String} {b:Bool} (h:tyNm st a=some T) (hc:tysD c=some cs) (hb:isaAny T cs=some b):Wp (gIsA [a,c] st) Q↔Q (.bl b) st:=by
 have e:gIsA [a,c] st=some (.bl b,st):=by simp only [gIsA,h,hc,hb]
 rw [e,Yab]
section
variable {X:Cx} {K:PySem.W.Frag}
theorem Xa9 (K:PySem.W.Frag) {T c:String} {b:Bool} (h:isaT T c=some b):PySem.W.kitOne K (.type T) (.type c)=some b:=by
 have hh:isaN.contains T=true∧isaC.contains c=true:=by
  unfold isaT at h
  split at h
  ·next g=>simpa using g
  ·cases h
 have h1:T∈isaN:=List.contains_iff_mem.mp hh.1
 have h2:c∈isaC:=List.contains_iff_mem.mp hh.2
 unfold isaN at h1
 unfold isaC at h2
 simp only [List.mem_cons,List.not_mem_nil,or_false] at h1 h2
 rcases h1 with rfl | rfl | rfl | rfl | rfl | rfl | rfl <;> rcases h2 with rfl | rfl | rfl | rfl | rfl | rfl <;> (cases h;rfl)
theorem zbJ (K:PySem.W.Frag) {T:String}:∀ {cs:List String} {b:Bool},isaAny T cs=some b→PySem.W.kitAny K (.type T) (cs.map Value.type)=some b
 | [],b,h=>by cases h;rfl
 | c :: r,b,h=>by
  simp only [isaAny] at h
  split at h
  ·next e=>cases h;simp only [List.map_cons,PySem.W.kitAny,Xa9 K e]
  ·next e=>simp only [List.map_cons,PySem.W.kitAny,Xa9 K e];exact zbJ K h
  ·cases h
noncomputable def TyN (K:PySem.W.Frag) (H:Hp) (x:V) (T:String):Prop:=TyOf K H x (.type T)∨(T="tuple" ∧ ∃ a ys,x=.ref a∧SqT K H a ys)
noncomputable def rIsA (K:PySem.W.Frag):List V→Hp→VK→Prop:=fun xs H Q=>∃ x c T cs b,xs=[x,c]∧TyN K H x T∧((∃ n,c=.ty n∧cs=[n])∨∃ p,c=.ref p∧SqT K H p (cs.map V.ty))∧isaAny T cs=some b∧Q (.bl b) H
theorem Zb9 {pins:List (Addr×Obj)} {σ:St} {H:Hp} {s:Shared} {x:V} {u:Value} {T:String} (I:Inv X pins σ H s) (rx:RelV x u) (ty:TyN X.K H x T):∃ Hh,PySem.W.KitX X.K u (.type T) Hh∧Hh s.heap∧u≠.builtin "__main__.__loader__#opaque" := by
 rcases ty with ty | ⟨rfl,a,ys,rfl,hs⟩
 ·generalize ht:Value.type T=t at ty
  cases ty with
  | non=>cases ht;cases (show u=Value.none from rx);exact ⟨_,PySem.W.kitx_none,True.intro,fun z=>nomatch z⟩
  | bl y=>cases ht;cases (show u=Value.bool y from rx);exact ⟨_,PySem.W.kitx_bool,True.intro,fun z=>nomatch z⟩
  | int i=>cases ht;obtain ⟨t,q⟩:=(show ∃ t,u=Value.int i t from rx);cases q;exact ⟨_,PySem.W.kitx_int,True.intro,fun z=>nomatch z⟩
  | str y=>cases ht;obtain ⟨t,q⟩:=(show ∃ t,u=Value.str y t from rx);cases q;exact ⟨_,PySem.W.kitx_str,True.intro,fun z=>nomatch z⟩
  | flt y=>cases ht;obtain ⟨t,q⟩:=(show ∃ t,u=Value.float y t from rx);cases q;exact ⟨_,PySem.W.kitx_float,True.intro,fun z=>nomatch z⟩
  | @lst a xs ea =>
   cases ht
   cases (show u=Value.ref a from rx)
   obtain ⟨_,_,n,_,h1⟩:=(show ObjOk X.prog X.w H s.heap a (.lst xs) from I.hok a _ ea)
   exact ⟨_,PySem.W.kitx_list,⟨_,h1,rfl⟩,fun z=>nomatch z⟩
  | @frz a ob xs ea =>
   cases ht
   cases (show u=Value.ref a from rx)
   obtain ⟨_,_,_,n,_,h1⟩:=(show ObjOk X.prog X.w H s.heap a (.frz ob (.lst xs)) from I.hok a _ ea)
   exact ⟨_,PySem.W.kitx_list,⟨_,h1,rfl⟩,fun z=>nomatch z⟩
  | @tup a xs ea =>
   cases ht
   cases (show u=Value.ref a from rx)
   obtain ⟨_,_,_,p⟩:=(show ObjOk X.prog X.w H s.heap a (.tup xs) from I.hok a _ ea)
   obtain ⟨o,h1,h2,_⟩:=p
   exact ⟨_,PySem.W.kitx_tuple,⟨o,h1,h2⟩,fun z=>nomatch z⟩
  | @dK a kvs ea =>
   cases ht
   cases (show u=Value.ref a from rx)
   obtain ⟨_,_,vs,_,p⟩:=(show ObjOk X.prog X.w H s.heap a (.dK kvs) from I.hok a _ ea)
   obtain ⟨o,es,ep,h1,h2,_⟩:=p
   exact ⟨_,PySem.W.kitx_dict,⟨o,h1,h2.1⟩,fun z=>nomatch z⟩
  | @dT a kvs ea =>
   cases ht
   cases (show u=Value.ref a from rx)
   obtain ⟨_,_,xs,_,o,es,ep,h1,h2,_⟩:=(show ObjOk X.prog X.w H s.heap a (.dT kvs) from I.hok a _ ea)
   exact ⟨_,PySem.W.kitx_dict,⟨o,h1,h2.1⟩,fun z=>nomatch z⟩
  | ins=>cases ht
 ·cases (show u=Value.ref a from rx)
  obtain ⟨its,_,⟨o,h1,h2,_⟩,_⟩:=I.tuple hs
  exact ⟨_,PySem.W.kitx_tuple,⟨o,h1,h2⟩,fun z=>nomatch z⟩
theorem ybZ:∀ {cs:List String} {us:List Value},Vals (cs.map V.ty) us→us=cs.map Value.type
 | [],us,h=>by
  cases us with
  | nil=>rfl
  | cons a b=>cases h
 | x :: xs,us,h=>by
  cases us with
  | nil=>cases h
  | cons u us =>
   cases h with
   | cons r t =>
    rw [ybZ t]
    cases (show u=Value.type x from r)
    rfl
theorem zaC:CallR X (.builtin "isinstance") (rIsA X.K):=by
 intro pins s σ H xs us Q I r h
 obtain ⟨x,c,T,cs,b,rfl,ty,hc,hb,q⟩:=h
 obtain ⟨u,u',rfl,ru,ru'⟩:=vals2 r
 obtain ⟨Hh,Z,hh,hx⟩:=Zb9 I ru ty
 have fin:∀ tk,EP X pins σ Q (.bool b) { s with toks:=tk }:=fun tk=>⟨.bl b,H,I.tok tk,rfl,q⟩
 have ka:=zbJ X.K hb
 rcases hc with ⟨n,rfl,rfl⟩ | ⟨p,rfl,hp⟩
 ·cases (show u'=Value.type n from ru')
  refine PySem.W.kia_one Z I.kIn hh ?_ hx fin
  simp only [isaAny] at hb
  split at hb
  ·next e=>cases hb;exact Xa9 _ e
  ·next e=>cases hb;exact Xa9 _ e
  ·cases hb
 ·cases (show u'=Value.ref p from ru')
  obtain ⟨its,rv,⟨⟨oc,od,odt,osl⟩,e,h2,h3,n,h4⟩,_⟩:=I.tupleP hp
  cases (show oc=.type "tuple" from h2)
  cases (show odt=.seq its.toArray n from h4)
  cases ybZ rv
  exact PySem.W.kia_tup Z I.kIn hh e ka hx fin
theorem tyN_of {ρ:List Addr} {H:Hp} {st:Store} {v:V} {a:D} {T:String} (l:Rl K ρ H st) (r1:Rp K ρ H v a) (hT:tyNm st a=some T):TyN K H v T:=by
 cases r1 <;> simp only [tyNm] at hT
 ·cases hT;exact .inl .non
 ·cases hT;exact .inl (.bl _)
 ·cases hT;exact .inl (.int _)
 ·cases hT;exact .inl (.str _)
 ·cases hT
 ·next hi =>
  split at hT
  ·next ds hs=>cases hT;obtain ⟨vs,e1,_⟩:=l.obj _ _ _ hi hs;exact .inl (.lst e1)
  ·next ds hs=>cases hT;obtain ⟨vs,e1,_⟩:=l.obj _ _ _ hi hs;exact .inl (.dK e1)
  ·cases hT
 ·next hs hr=>cases hT;exact .inr ⟨rfl,_,_,rfl,hs⟩
theorem ybJ {ρ:List Addr} {H:Hp}:∀ {ws:List V} {ds:List D} {ns:List String},Rps K ρ H ws ds→mapO tyS ds=some ns→ws=ns.map V.ty
 | _,_,_,.nil,h=>by cases h;rfl
 | _,_,_,.cons a b,h=>by
  obtain ⟨x,t,h1,h2,rfl⟩:=YaG h
  rw [ybJ b h2]
  cases a <;> first | (cases h1;rfl) | cases h1
theorem YaR:SoC K (rIsA K) gIsA:=by
 intro ρ H st xs as b st' Q l rx e q
 unfold gIsA at e
 split at e
 ·next a c =>
  split at e
  ·next T cs h1 h2 =>
   split at e
   ·next bb hb =>
    cases e
    obtain ⟨v,w,rfl,r1,r2⟩:=rx.two'
    refine ⟨v,w,T,cs,bb,rfl,tyN_of l r1 h1,?_,hb,q _ H ρ .refl l (.bl _)⟩
    cases r2 with
    | non=>cases h2
    | bl _=>cases h2
    | int _=>cases h2
    | str _=>cases h2
    | ref _=>cases h2
    | ty n=>cases h2;exact .inl ⟨n,rfl,rfl⟩
    | tup s r=>exact .inr ⟨_,rfl,ybJ r h2 ▸ s⟩
   ·cases e
  ·cases e
 ·cases e
end
theorem ZbJ {P:Program} {w:World} {K:PySem.W.Frag} {mg:Str→Option Value} {base:Heap} {CX:CXT} {k:Nat} {f:Addr} {fd:FuncData} {ps:List Str} {n:Nat} (hn:n=ps.length):FnOk P w K mg base CX k f fd ps (spF K n fun _ _=>none):=by
 refine ⟨fun vs H Q E h=>h.1.trans hn,fun A outer s H args us vs Q E _ _ _ _ h=>?_⟩
 obtain ⟨_,ρ,st,ds,b,st',_,_,e,_⟩:=h
 cases e
theorem ybf {δ:DSt} {st:Store} {fi:DSt→Dm Src} {js:List Nat} {f:DSt→Dm D} {Q:D→Store→Prop} (ps:List (D×D)) (h:D×D→D) (hi:Wp (fi δ st) fun S st1=>SrcOk S (ps.map fun p=>.tup [p.1,p.2]) st1∧Ex [] st st1) (hl:ps.length < 100000)
  (step:∀ p∈ps,∀ st1,Ex [] st st1→Wp (f (some p.1 :: some p.2 :: js.map fun j=>δ.getD j none) st1) fun y st2=>y=h p∧Ex [] st1 st2) (fin:∀ st',Ex [] st st'→Q (.ref st'.length) (st' ++ [.lst (ps.map h)])):Wp (fComp fi 2 js (hTup 2 (hCons (hName 0) (hCons (hName 1) hNil))) fTrue f δ st) Q:=by
 obtain ⟨S,st1,e1,hS,k1⟩:=hi
 refine Xa0 (ps.map fun p=>.tup [p.1,p.2]) (fun i ys δ' st8=>(∃ v w,δ'=v :: w :: js.map fun j=>δ.getD j none)∧ys=(ps.take i).map h∧Ex [] st1 st8) ⟨S,st1,e1,fun i ys δ' st8 hi' hp=>hS i st8 hi' hp.2.2,⟨none,none,rfl⟩,rfl,Ex.refl⟩ (by rw [List.length_map];exact hl) ?_ ?_ ?_
 ·rintro i ys δ' st8 ⟨_,rfl,_⟩
  rw [List.length_map,List.length_take];omega
 ·rintro i d ys δ' st8 hd ⟨⟨v,w,rfl⟩,rfl,k8⟩
  rw [List.getElem?_map] at hd
  obtain ⟨p,hp,rfl⟩:=Option.map_eq_some_iff.mp hd
  rw [ybH]
  refine ⟨rfl,?_⟩
  rw [za9,zaN,za9,zaN,zbH]
  show Wp (fTrue _ _) _
  rw [ya9]
  refine ⟨fun _=>?_,fun h=>absurd h (by decide)⟩
  refine xab (step p (List.mem_of_getElem? hp) st8 (k1.trans k8)) ?_
  rintro y st9 ⟨rfl,k9⟩
  refine ⟨⟨some p.1,some p.2,rfl⟩,?_,k8.trans k9⟩
  obtain ⟨hlt,e⟩:=List.getElem?_eq_some_iff.mp hp
  rw [List.take_succ_eq_append_getElem hlt,List.map_append,e];rfl
 ·rintro ys δ' st8 ⟨_,rfl,k8⟩
  rw [List.length_map,List.take_length]
  exact fin st8 (k1.trans k8)
theorem ZbS {st:Store} {Q:D→Store→Prop} {a:D} {v:V} (h:sV a=some v) (hs:scal v v=true):Wp (gEq false a a st) Q↔Q (.bl true) st:=by
 have e:gEq false a a st=some (.bl true,st):=by
  simp only [gEq,h,hs,if_true,decide_true]
  rfl
 rw [e,Yab]
end L4
namespace L4
open PySem PySem.Spec L2
end L4
namespace L4
open PySem PySem.Spec L2
section
variable {K:PySem.W.Frag}
end
end L4
namespace L4
open PySem PySem.Spec L2
section
variable {K:PySem.W.Frag}
end
section
variable {st:Store}
end
end L4
namespace L4
open PySem PySem.Spec L2
section
variable {K:PySem.W.Frag}
end
section
variable {st:Store} {Q:D→Store→Prop}
end
end L4
namespace L4
open PySem PySem.Spec L2
section
variable {K:PySem.W.Frag}
end
end L4
namespace L4
open PySem PySem.Spec L2
noncomputable def tvD:TV→D
 | .int i=>.int i
 | .str x=>.str x
noncomputable def fTab (T:List (Str×TV)) (f:DSt→Dm D):DSt→Dm D:=fun δ st=>bnd (f δ st) fun y st1=>match y with
 | .str z=>match valT T z with
  | some v=>some (tvD v,st1)
  | none=>none
 | _=>none
section
variable {K:PySem.W.Frag}
theorem rp_tv (ρ:List Addr) (H:Hp) (v:TV):Rp K ρ H v.v (tvD v):=by
 cases v with
 | int i=>exact .int i
 | str x=>exact .str x
theorem so_tab {T:List (Str×TV)} {t:TE} {f:DSt→Dm D} (h:SoE K t f):SoE K (tTab T t) (fTab T f):=by
 intro ρ σ H δ st d st' Q l rs e q
 obtain ⟨y,st1,e1,e⟩:=xac e
 refine h ρ σ H δ st _ _ _ l rs e1 fun x H1 ρ1 m1 l1 r1=>?_
 split at e
 ·next z =>
  split at e
  ·next v hv =>
   cases e
   cases r1
   exact ⟨z,v,rfl,hv,q _ H1 ρ1 m1 l1 (rp_tv _ _ v)⟩
  ·cases e
 ·cases e
end
theorem wp_tab {T:List (Str×TV)} {f:DSt→Dm D} {δ:DSt} {st:Store} {R:D→Store→Prop}:Wp (fTab T f δ st) R↔Wp (f δ st) fun y st1=>∃ z v,y=.str z∧valT T z=some v∧R (tvD v) st1:=by
 unfold fTab;rw [Zae]
 constructor <;> refine fun h=>xab h fun y s h=>?_
 ·split at h
  ·next z =>
   split at h
   ·next v hv=>exact ⟨z,v,rfl,hv,Yab.mp h⟩
   ·exact (yae.mp h).elim
  ·exact (yae.mp h).elim
 ·obtain ⟨z,v,rfl,hv,h⟩:=h
  simp only [hv]
  exact Yab.mpr h
end L4
namespace L4
open PySem PySem.Spec L2
noncomputable def keysD (T:List (Str×TV)):List D:=T.map fun p=>.str p.1
noncomputable def iKeysF (T:List (Str×TV)):DSt→Dm Src:=fun _ st=>some (.fix (keysD T),st)
section
variable {K:PySem.W.Frag}
theorem YbS {T:List (Str×TV)}:SoI K (iKeys T) (iKeysF T):=by
 intro ρ σ H δ st S st' Q l rs e q
 unfold iKeysF at e
 cases e
 refine q _ H ρ .refl l fun ρ2 H2 st2 i m2 l2=>⟨fun h=>?_,fun d h=>?_⟩
 ·have h2:=List.getElem?_eq_none_iff.mp (ZaB h).2
  show (T.map (·.1)).length≤i
  simpa [keysD] using h2
 ·have h2:=(ZaB h).2
  unfold keysD at h2
  rw [List.getElem?_map] at h2
  obtain ⟨c,hc,e⟩:=Option.map_eq_some_iff.mp h2
  subst e
  refine ⟨?_,fun y H3 hy=>?_⟩
  ·show i < (T.map (·.1)).length
   rw [List.length_map]
   exact (List.getElem?_eq_some_iff.mp hc).1
  ·obtain ⟨rfl,z,hz,rfl⟩:=hy
   rw [List.getElem?_map,hc] at hz
   cases hz
   exact ⟨.refl,l2,.str _⟩
end
theorem xbS {T:List (Str×TV)} {δ:DSt} {st:Store} {R:Src→Store→Prop}:Wp (iKeysF T δ st) R↔R (.fix (keysD T)) st:=Yab
end L4
namespace L4
open PySem PySem.Spec L2
noncomputable def iEnumEF (fa:DSt→Dm (List D)):DSt→Dm Src:=fun δ st=>bnd (fa δ st) fun as st1=>match as with
 | [.tup ds]=>some (.fix (enumD ds),st1)
 | [.ref r]=>match items st1 r with
  | some _=>some (.enm r,st1)
  | none=>none
 | _=>none
section
variable {K:PySem.W.Frag}
theorem ZbZ {r i:Nat} {st:Store} {o:Option D} (h:Src.at (.enm r) i st=some o):∃ ds,items st r=some ds∧i≤ds.length∧(enumD ds)[i]?=o:=by
 simp only [Src.at] at h
 cases hi:items st r with
 | none=>rw [hi] at h;cases h
 | some ds =>
  rw [hi] at h
  simp only [Option.bind_some] at h
  split at h
  ·next hl=>exact ⟨ds,rfl,hl,Option.some.inj h⟩
  ·cases h
theorem YbJ {t:TA} {fa:DSt→Dm (List D)} (ha:SoA K t fa):SoI K (iEnumE K t) (iEnumEF fa):=by
 intro ρ σ H δ st S st' Q l rs e q
 obtain ⟨as,st1,e1,e⟩:=xac e
 split at e
 ·cases e
  refine ha ρ σ H δ st _ _ _ l rs e1 fun x H1 ρ1 m1 l1 r1=>?_
  obtain ⟨v,rfl,r⟩:=r1.one'
  cases r with
  | tup s r =>
   refine ⟨_,rfl,.inl ⟨⟨_,s⟩,q _ H1 ρ1 m1 l1 fun ρ2 H2 st2 i m2 l2=>⟨fun h=>?_,fun d h=>?_⟩⟩⟩
   ·obtain ⟨h1,h2⟩:=ZaB h
    have h2:=List.getElem?_eq_none_iff.mp h2
    rw [Zaj] at h1 h2
    exact ⟨_,m2.t _ _ s,by rw [r.length];omega⟩
   ·obtain ⟨h1,h2⟩:=ZaB h
    obtain ⟨d',hd',rfl⟩:=XaG h2
    obtain ⟨v,hv,rv⟩:=r.got hd'
    refine ⟨⟨_,v,m2.t _ _ s,hv⟩,fun x H3 y=>?_⟩
    obtain ⟨p,z,rfl,hp,rfl,hx⟩:=y
    have:=hx _ (m2.t _ _ s)
    rw [hv] at this
    cases this
    have m3:Mn K ρ2 H2 ρ2 (upd H2 p (.tup [.int (i:Int),v])):=Mn.same (Same.up hp)
    exact ⟨m3,l2.same (Same.up hp),.tup (SqT.of Xaj) (.cons (.int _) (.one ((rv.mn m2).mn m3)))⟩
 ·next k =>
  split at e
  ·next ds hd =>
   cases e
   refine ha ρ σ H δ st _ _ _ l rs e1 fun x H1 ρ1 m1 l1 r1=>?_
   obtain ⟨v,rfl,r⟩:=r1.one'
   cases r with
   | ref hi =>
    obtain ⟨vs,s,r⟩:=l1.items hi hd
    refine ⟨_,rfl,.inr ⟨⟨_,s⟩,q _ H1 ρ1 m1 l1 fun ρ2 H2 st2 i m2 l2=>⟨fun h=>?_,fun d h=>?_⟩⟩⟩
    ·obtain ⟨ds2,hd2,h1,h⟩:=ZbZ h
     obtain ⟨vs2,s2,r2⟩:=l2.items (m2.r _ _ hi) hd2
     have h:=List.getElem?_eq_none_iff.mp h
     rw [Zaj] at h
     exact ⟨vs2,s2,by rw [r2.length];omega⟩
    ·obtain ⟨ds2,hd2,h1,h⟩:=ZbZ h
     obtain ⟨vs2,s2,r2⟩:=l2.items (m2.r _ _ hi) hd2
     obtain ⟨d',hd',rfl⟩:=XaG h
     obtain ⟨v,hv,rv⟩:=r2.got hd'
     refine ⟨⟨_,v,s2,hv⟩,fun x H3 y=>?_⟩
     obtain ⟨p,z,rfl,hp,rfl,hx⟩:=y
     have:=hx _ s2
     rw [hv] at this
     cases this
     have m3:Mn K ρ2 H2 ρ2 (upd H2 p (.tup [.int (i:Int),v])):=Mn.same (Same.up hp)
     exact ⟨m3,l2.same (Same.up hp),.tup (SqT.of Xaj) (.cons (.int _) (.one (rv.mn m3)))⟩
  ·cases e
 ·cases e
end
section
variable {δ:DSt} {st:Store} {N B C:DSt→Store→Prop} {R:D→Store→Prop}
theorem xbJ {fi:DSt→Dm Src} {t:D→DSt→Dm DSt} {b:DSt→Dm Fl} (ds:List D) (Pv:Nat→DSt→Store→Prop) (hi:Wp (fi δ st) fun S st1=>(∀ i δ st,i≤ds.length→Pv i δ st→S.at i st=some ds[i]?)∧Pv 0 δ st1) (hl:ds.length < 100000)
  (step:∀ i d δ st,ds[i]?=some d→Pv i δ st→Wp (t d δ st) fun δ1 st1=>Ws (b δ1 st1) (Pv (i + 1)) N (Pv (i + 1)) R) (fin:∀ δ st,Pv ds.length δ st→N δ st):Ws (fFor fi t b δ st) N B C R:=by
 unfold Ws fFor
 rw [Zae]
 refine xab hi fun S st0 q=>?_
 obtain ⟨hS,h0⟩:=q
 have key:∀ (k i:Nat) (δ:DSt) (st:Store),i≤ds.length→ds.length - i < k→Pv i δ st→Ws (fForGo S t b k i δ st) N B C R:=by
  intro k
  induction k with
  | zero=>intro i δ st _ h;exact absurd h (Nat.not_lt_zero _)
  | succ k ih =>
   intro i δ st hi hk' hw
   unfold Ws fForGo
   rw [hS i δ st hi hw]
   cases hd:ds[i]? with
   | none =>
    have:=List.getElem?_eq_none_iff.mp hd
    have e:i=ds.length:=by omega
    exact Yab.mpr (fin δ st (e ▸ hw))
   | some d =>
    have hlt:=(List.getElem?_eq_some_iff.mp hd).1
    show Wp (bnd _ _) _
    rw [Zae]
    refine xab (step i d δ st hd hw) fun δ1 st1 q=>?_
    rw [Zae]
    refine xab q fun fl st2 q=>?_
    cases fl with
    | nx δ2=>exact ih (i + 1) δ2 st2 (by omega) (by omega) q
    | ct δ2=>exact ih (i + 1) δ2 st2 (by omega) (by omega) q
    | bk δ2=>exact Yab.mpr q
    | rt d=>exact Yab.mpr q
 exact key fuel 0 δ st0 (Nat.zero_le _) (Nat.lt_trans (by omega) (show 100000 < fuel by decide)) h0
theorem enm_at {st:Store} {r i:Nat} {ds:List D} (h:items st r=some ds) (hi:i≤(enumD ds).length):Src.at (.enm r) i st=some (enumD ds)[i]?:=by
 rw [Zaj] at hi
 simp only [Src.at,h,Option.bind_some]
 rw [if_pos hi]
 rfl
theorem fix_at {st:Store} {i:Nat} {ds:List D} (hi:i≤ds.length):Src.at (.fix ds) i st=some ds[i]?:=by
 simp only [Src.at]
 rw [if_pos hi]
end
theorem XbJ {δ:DSt} {st:Store} {fa:DSt→Dm (List D)} {R:Src→Store→Prop} (h:Wp (fa δ st) fun as st1=>(∃ ds,as=[.tup ds]∧R (.fix (enumD ds)) st1)∨∃ r ds,as=[.ref r]∧items st1 r=some ds∧R (.enm r) st1):Wp (iEnumEF fa δ st) R:=by
 unfold iEnumEF
 rw [Zae]
 refine xab h fun as s h=>?_
 rcases h with ⟨ds,rfl,h⟩ | ⟨r,ds,rfl,hi,h⟩
 ·exact Yab.mpr h
 ·simp only [hi]
  exact Yab.mpr h
end L4
namespace L4
open PySem PySem.Spec L2
section
variable {K:PySem.W.Frag}
end
section
variable {δ:DSt} {st:Store} {N B C:DSt→Store→Prop} {R:D→Store→Prop}
end
end L4
namespace L4
open PySem PySem.Spec L2
section
variable {K:PySem.W.Frag}
end
end L4
namespace L4
open PySem PySem.Spec L2
section
variable {K:PySem.W.Frag}
end
end L4
namespace L4
open PySem PySem.Spec L2
section
variable {K:PySem.W.Frag}
end
section
variable {st:Store} {Q:D→Store→Prop} {i:Nat}
end
end L4
namespace L4
open PySem PySem.Spec L2
section
variable {K:PySem.W.Frag}
theorem Rk.vals {ρ:List Addr} {H:Hp} {ws:List (Key×V)} {kvs:List (Key×D)} (r:Rk K ρ H ws kvs):Rps K ρ H (ws.map (·.2)) (kvs.map (·.2)):=by
 induction r with
 | nil=>exact .nil
 | cons h _ ih=>exact .cons h.2 ih
end
section
variable {st:Store} {Q:D→Store→Prop} {δ:DSt}
end
end L4
namespace L4
open PySem PySem.Spec L2
section
variable {K:PySem.W.Frag}
end
section
variable {st:Store} {Q:D→Store→Prop}
end
end L4
namespace L4
open PySem PySem.Spec L2
noncomputable def zW (ds es:List D):List D:=List.zipWith (fun a b=>D.tup [a,b]) ds es
theorem zbK:∀ ds es:List D,zW ds es=zipD ds es
 | [],es=>by simp [zW,zipD]
 | a :: r,[]=>by simp [zW,zipD]
 | a :: r,b :: t=>by
  have:=zbK r t
  simp only [zW,zipD,List.zipWith_cons_cons] at this ⊢
  rw [this]
theorem at_zr {r i:Nat} {ds:List D} {st:Store} {o:Option D} (h:Src.at (.zr ds r) i st=some o):∃ es,items st r=some es∧i≤(zipD ds es).length∧(zipD ds es)[i]?=o:=by
 simp only [Src.at] at h
 obtain ⟨es,h1,h2⟩:=Option.bind_eq_some_iff.mp h
 refine ⟨es,h1,?_⟩
 rw [← zbK]
 split at h2
 ·next hl=>exact ⟨hl,Option.some.inj h2⟩
 ·cases h2
noncomputable def iZipLF (fa:DSt→Dm (List D)):DSt→Dm Src:=fun δ st=>bnd (fa δ st) fun as st1=>match as with
 | [.ref r,b]=>match items st1 r,zsD b with
  | some _,some es=>some (.zl r es,st1)
  | _,_=>none
 | _=>none
noncomputable def iZipRF (fa:DSt→Dm (List D)):DSt→Dm Src:=fun δ st=>bnd (fa δ st) fun as st1=>match as with
 | [a,.ref r]=>match zsD a,items st1 r with
  | some ds,some _=>some (.zr ds r,st1)
  | _,_=>none
 | _=>none
section
variable {K:PySem.W.Frag}
theorem Ybp {ρ2:List Addr} {H2:Hp} {st2:Store} {s1 s2:ZS} {i:Nat} {ds es:List D} (l2:Rl K ρ2 H2 st2)
  (g1:(∀ d,ds[i]?=some d→∃ v,s1.has K H2 i v∧Rp K ρ2 H2 v d)∧(i=ds.length→s1.fin K H2 i)) (g2:(∀ d,es[i]?=some d→∃ v,s2.has K H2 i v∧Rp K ρ2 H2 v d)∧(i=es.length→s2.fin K H2 i)) (hl:i≤(zipD ds es).length) :
  ((zipD ds es)[i]?=none→(Itz K s1 s2).stop i H2)∧∀ d,(zipD ds es)[i]?=some d→(Itz K s1 s2).go i H2∧∀ x H3,(Itz K s1 s2).yld i H2 x H3→Mn K ρ2 H2 ρ2 H3∧Rl K ρ2 H3 st2∧Rp K ρ2 H3 x d:=by
 refine ⟨fun hn=>?_,fun d h=>?_⟩
 ·have has2:i < es.length→∃ y,s2.has K H2 i y:=fun hi=>by
   obtain ⟨v,hv,_⟩:=g2.1 es[i] (List.getElem?_eq_getElem hi)
   exact ⟨v,hv⟩
  rcases xa9 hl hn with ⟨e1,e2⟩ | ⟨e1,e2⟩
  ·refine .inl ⟨g1.2 e1,?_⟩
   rcases Nat.lt_or_ge i es.length with hi | hi
   ·exact .inr (has2 hi)
   ·exact .inl (g2.2 (by omega))
  ·obtain ⟨v,hv,_⟩:=g1.1 ds[i] (List.getElem?_eq_getElem e1)
   exact .inr ⟨⟨v,hv⟩,g2.2 e2⟩
 ·obtain ⟨c,b,hc,hb,rfl⟩:=Ya9 h
  obtain ⟨v,hv,rv⟩:=g1.1 c hc
  obtain ⟨w,hw,rw'⟩:=g2.1 b hb
  refine ⟨⟨v,w,hv,hw⟩,fun z H3 hz=>?_⟩
  obtain ⟨p,v',w',rfl,hp,rfl,k1,k2⟩:=hz
  cases k1 _ hv
  cases k2 _ hw
  have m3:Mn K ρ2 H2 ρ2 (upd H2 p (.tup [v,w])):=Mn.same (Same.up hp)
  exact ⟨m3,l2.same (Same.up hp),.tup (SqT.of Xaj) (.cons (rv.mn m3) (.one (rw'.mn m3)))⟩
theorem YbZ {ρ2:List Addr} {H2:Hp} {st2:Store} {k:Nat} {p:Addr} {ds:List D} (l2:Rl K ρ2 H2 st2) (hi:ρ2[k]?=some p) (h:items st2 k=some ds) (i:Nat):(∀ d,ds[i]?=some d→∃ v,(ZS.lst p).has K H2 i v∧Rp K ρ2 H2 v d)∧(i=ds.length→(ZS.lst p).fin K H2 i):=by
 obtain ⟨vs,s,r⟩:=l2.items hi h
 refine ⟨fun d hd=>?_,fun e=>?_⟩
 ·obtain ⟨v,hv,rv⟩:=r.got hd
  exact ⟨v,⟨_,s,hv⟩,rv⟩
 ·exact ⟨_,s,by rw [r.length];exact e.symm⟩
theorem XbS {t:TA} {fa:DSt→Dm (List D)} (ha:SoA K t fa):SoI K (iZip K t) (iZipRF fa):=by
 intro ρ σ H δ st S st' Q l rs e q
 obtain ⟨as,st1,e1,e⟩:=xac e
 split at e
 ·next a r =>
  split at e
  ·next ds es0 h1 h2 =>
   cases e
   refine ha ρ σ H δ st _ _ _ l rs e1 fun xs H1 ρ1 m1 l1 r1=>?_
   obtain ⟨x,y,rfl,rx,ry⟩:=r1.two'
   cases ry with
   | ref hi =>
    obtain ⟨vs,s,_⟩:=l1.items hi h2
    obtain ⟨s1,v1,g1⟩:=yb9 rx h1
    refine ⟨x,_,s1,.lst _,rfl,v1,⟨rfl,_,s⟩,q _ H1 ρ1 m1 l1 fun ρ2 H2 st2 i m2 l2=>⟨fun h=>?_,fun d h=>?_⟩⟩
    ·obtain ⟨es,h3,hl,h4⟩:=at_zr h
     exact (Ybp l2 (g1 ρ2 H2 m2 i) (YbZ l2 (m2.r _ _ hi) h3 i) hl).1 h4
    ·obtain ⟨es,h3,hl,h4⟩:=at_zr h
     exact (Ybp l2 (g1 ρ2 H2 m2 i) (YbZ l2 (m2.r _ _ hi) h3 i) hl).2 d h4
  ·cases e
 ·cases e
end
section
variable {st:Store} {δ:DSt}
theorem zbT {fa:DSt→Dm (List D)} {R:Src→Store→Prop}:Wp (iZipRF fa δ st) R↔Wp (fa δ st) fun as st1=>∃ a r ds es,as=[a,.ref r]∧zsD a=some ds∧items st1 r=some es∧R (.zr ds r) st1:=by
 unfold iZipRF;rw [Zae]
 constructor <;> refine fun h=>xab h fun as s h=>?_
 ·split at h
  ·next a r =>
   split at h
   ·next ds es h1 h2=>exact ⟨a,r,ds,es,rfl,h1,h2,Yab.mp h⟩
   ·exact (yae.mp h).elim
  ·exact (yae.mp h).elim
 ·obtain ⟨a,r,ds,es,rfl,h1,h2,h⟩:=h
  simp only [h1,h2]
  exact Yab.mpr h
theorem zr_at {r i:Nat} {ds es:List D} (h:items st r=some es) (hi:i≤(zipD ds es).length):Src.at (.zr ds r) i st=some (zipD ds es)[i]?:=by
 simp only [Src.at,h,Option.bind_some]
 rw [← zbK] at hi ⊢
 exact if_pos hi
theorem src_zr {r:Nat} {ds es:List D} (h:items st r=some es):SrcOk (.zr ds r) (zipD ds es) st:=fun i st2 hi k=>zr_at (yaN h k) hi
end
end L4
namespace L4
open PySem PySem.Spec L2
section
variable {K:PySem.W.Frag}
end
end L4
namespace L4
open PySem PySem.Spec L2
section
variable {K:PySem.W.Frag}
end
end L4
namespace L4
open PySem PySem.Spec L2
section
variable {K:PySem.W.Frag}
end
section
variable {st:Store} {Q:D→Store→Prop}
end
end L4
namespace L4
open PySem PySem.Spec L2
section
variable {K:PySem.W.Frag}
end
end L4
namespace L4
open PySem PySem.Spec L2
section
variable {K:PySem.W.Frag} {ρ:List Addr} {H:Hp} {st:Store}
end
section
variable {K:PySem.W.Frag}
end
section
variable {st:Store} {δ:DSt} {Q:D→Store→Prop}
end
end L4
namespace L4
open PySem PySem.Spec L2
section
variable {K:PySem.W.Frag}
end
section
variable {st:Store} {δ:DSt} {Q:D→Store→Prop}
end
end L4
namespace L4
open PySem PySem.Spec L2
section
variable {K:PySem.W.Frag} {ρ:List Addr} {H:Hp} {st:Store} {a:Addr} {i:Nat} {ho:HO} {o:O}
theorem Rl.lose {ws:List (Key×V)} (l:Rl K ρ H st) (hi:ρ[i]?=some a) (hs:st[i]?=some o) (hm:o.mut=true) (e:H a=some (.dK ws)):Rl K ρ (upd H a ho) (st.set i .any):=by
 have m:Mn K ρ H ρ (upd H a ho):=Mn.putD e
 have ils:i < st.length:=(List.getElem?_eq_some_iff.mp hs).1
 have old:∀ (j:Nat) (u:O),(st.set i .any)[j]?=some u→(j=i∧u=.any)∨(j≠i∧st[j]?=some u):=fun j u h=>by
  by_cases hj:i=j
  ·subst hj
   rw [List.getElem?_set_self ils] at h
   exact .inl ⟨rfl,(Option.some.inj h).symm⟩
  ·rw [List.getElem?_set_ne hj] at h
   exact .inr ⟨fun z=>hj z.symm,h⟩
 refine ⟨by rw [List.length_set];exact l.len,fun j k b u u' h1 h2 h3 h4 m1 m2=>?_,fun j b u h1 h2=>?_⟩
 ·rcases old j u h3 with ⟨rfl,rfl⟩ | ⟨nj,g3⟩
  ·cases m1
  ·rcases old k u' h4 with ⟨rfl,rfl⟩ | ⟨nk,g4⟩
   ·cases m2
   ·exact l.nd _ _ b u u' h1 h2 g3 g4 m1 m2
 ·rcases old j u h2 with ⟨rfl,rfl⟩ | ⟨nj,g2⟩
  ·exact trivial
  ·by_cases hb:b=a
   ·subst hb
    cases u with
    | fzn ds =>
     obtain ⟨vs,e1,q⟩:=l.obj j b _ h1 g2
     refine ⟨vs,?_,q.mn m⟩
     rcases e1 with ⟨x,e1⟩ | e1
     ·rw [e] at e1;cases e1
     ·exact .inr e1
    | any=>trivial
    | lst ds=>exact absurd (l.nd j i b _ o h1 hi g2 hs rfl hm) nj
    | dct ds=>exact absurd (l.nd j i b _ o h1 hi g2 hs rfl hm) nj
    | dcu ds=>exact absurd (l.nd j i b _ o h1 hi g2 hs rfl hm) nj
    | rng lo up=>exact absurd (l.nd j i b _ o h1 hi g2 hs rfl hm) nj
   ·exact (l.obj j b u h1 g2).keep m fun w e=>by rw [Zai hb];exact e
end
section
variable {K:PySem.W.Frag}
noncomputable def iValsF (fd:DSt→Dm D):DSt→Dm Src:=fun δ st=>bnd (fd δ st) fun x st1=>match x,dctOf st1 x with
 | .ref i,some kvs=>some (.fix (kvs.map (·.2)),st1.set i .any)
 | _,_=>none
theorem ybT {td:TE} {fd:DSt→Dm D} (hd:SoE K td fd):SoI K (iVals td) (iValsF fd):=by
 intro ρ σ H δ st S st' Q l rs e q
 obtain ⟨x,st1,e1,e⟩:=xac e
 refine hd ρ σ H δ st x st1 _ l rs e1 fun vx H1 ρ1 m1 l1 r1=>?_
 split at e
 ·next i kvs hx =>
  cases e
  obtain ⟨p,j,ws,rfl,ej,hi,hs,hp,rk⟩:=Xa4 l1 r1 hx
  cases ej
  refine ⟨p,ws,rfl,hp,fun o=>?_⟩
  have m2:Mn K ρ1 H1 ρ1 (upd H1 p (.frz o (.dK ws))):=Mn.putD hp
  have rv:=rk.vals
  refine q _ _ ρ1 (m1.trans m2) (l1.lose hi hs rfl hp) fun ρ2 H2 st2 k m3 l3=>⟨fun h=>?_,fun d h=>?_⟩
  ·have h2:=List.getElem?_eq_none_iff.mp (ZaB h).2
   rw [← rv.length,List.length_map] at h2
   exact ⟨m3.f _ _ _ Xaj,h2⟩
  ·obtain ⟨v,hv,rr⟩:=rv.got (ZaB h).2
   have hk:=(List.getElem?_eq_some_iff.mp hv).1
   rw [List.length_map] at hk
   refine ⟨⟨m3.f _ _ _ Xaj,hk⟩,fun x H3 y=>?_⟩
   obtain ⟨rfl,hx⟩:=(show H3=H2∧(ws.map (·.2))[k]?=some x from y)
   rw [hv] at hx
   cases hx
   exact ⟨.refl,l3,rr.mn (m2.trans m3)⟩
 ·cases e
noncomputable def fDGet2 (fd fy fz:DSt→Dm D):DSt→Dm D:=fun δ st=>bnd (fd δ st) fun x st1=>match dctOf st1 x with
 | some _=>bnd (fy δ st1) fun y st2=>bnd (fz δ st2) fun z st3=>match dctOf st3 x,keyOf y with
  | some kvs,some k=>some ((valD kvs k).getD z,st3)
  | _,_=>none
 | none=>none
theorem xbp {td ty tz:TE} {fd fy fz:DSt→Dm D} (hd:SoE K td fd) (hy:SoE K ty fy) (hz:SoE K tz fz):SoE K (tDGet2 td ty tz) (fDGet2 fd fy fz):=by
 intro ρ σ H δ st b st' Q l rs e q
 obtain ⟨x,st1,e1,e⟩:=xac e
 refine hd ρ σ H δ st x st1 _ l rs e1 fun vx H1 ρ1 m1 l1 r1=>?_
 split at e
 ·next kvs0 hx0 =>
  obtain ⟨y,st2,e2,e⟩:=xac e
  obtain ⟨z,st3,e3,e⟩:=xac e
  obtain ⟨p,i,ws0,rfl,rfl,hi0,hs0,hp0,rk0⟩:=Xa4 l1 r1 hx0
  refine ⟨p,rfl,.inl ⟨ws0,.inl hp0⟩,?_⟩
  refine hy ρ1 σ H1 δ st1 y st2 _ l1 (rs.mn m1) e2 fun vy H2 ρ2 m2 l2 r2=>hz ρ2 σ H2 δ st2 z st3 _ l2 (rs.mn (m1.trans m2)) e3 fun vz H3 ρ3 m3 l3 r3=>?_
  split at e
  ·next kvs k hx hk =>
   cases e
   obtain ⟨p',i',ws,ep,ei,hi,hs,hp,rk⟩:=Xa4 l3 (r1.mn (m2.trans m3)) hx
   cases ep
   refine ⟨valV ws k,by rw [yaL r2 hk];exact DGet.k hp,q _ H3 ρ3 ((m1.trans m2).trans m3) l3 ?_⟩
   have hv:=rk.val k
   cases hd':valD kvs k with
   | none =>
    have:valV ws k=none:=by
     have:=hv.2
     rw [hd'] at this
     cases hw:valV ws k with
     | none=>rfl
     | some w=>rw [hw] at this;cases this
    rw [this]
    exact r3
   | some d =>
    obtain ⟨w,hw,rw'⟩:=hv.1 d hd'
    rw [hw]
    exact rw'
  ·cases e
 ·cases e
end
section
variable {st:Store} {δ:DSt}
theorem ZbT {fd:DSt→Dm D} {R:Src→Store→Prop}:Wp (iValsF fd δ st) R↔Wp (fd δ st) fun x st1=>∃ i kvs,x=.ref i∧dctOf st1 x=some kvs∧R (.fix (kvs.map (·.2))) (st1.set i .any):=by
 unfold iValsF;rw [Zae]
 constructor <;> refine fun h=>xab h fun x s h=>?_
 ·split at h
  ·next i kvs h1=>exact ⟨i,kvs,rfl,h1,Yab.mp h⟩
  ·exact (yae.mp h).elim
 ·obtain ⟨i,kvs,rfl,h1,h⟩:=h
  simp only [h1]
  exact Yab.mpr h
theorem Xbp {fd fy fz:DSt→Dm D} {Q:D→Store→Prop} (h:Wp (fd δ st) fun x st1=>(∃ kvs,dctOf st1 x=some kvs)∧Wp (fy δ st1) fun y st2=>Wp (fz δ st2) fun z st3=>∃ kvs k,dctOf st3 x=some kvs∧keyOf y=some k∧Q ((valD kvs k).getD z) st3):Wp (fDGet2 fd fy fz δ st) Q:=by
 unfold fDGet2;rw [Zae]
 refine xab h fun x s h=>?_
 obtain ⟨⟨kvs0,h0⟩,h⟩:=h
 simp only [h0,Zae]
 refine xab h fun y s2 h=>xab h fun z s3 h=>?_
 obtain ⟨kvs,k,h1,h2,h⟩:=h
 rw [h1,h2]
 exact Yab.mpr h
end
end L4
namespace My
open PySem L2 L4
noncomputable def top (i:Nat):Stmt:=PySem.Challenge.pw_shearfloor_k43_rims_and_closed_seams.main.body.getD i (.Pass ⟨0,0,0,0⟩)
structure Txt (mg:Str→Option Value):Prop where
 n_all:mg "all" = none
 n_bool:mg "bool" = none
 n_enumerate:mg "enumerate" = none
 n_int:mg "int" = none
 n_isinstance:mg "isinstance" = none
 n_len:mg "len" = none
 n_list:mg "list" = none
 n_max:mg "max" = none
 n_min:mg "min" = none
 n_range:mg "range" = none
 n_str:mg "str" = none
 n_tuple:mg "tuple" = none
 n_zip:mg "zip" = none
section
variable {P:Program} {w:World} {K:PySem.W.Frag} {mg:Str→Option Value} {base:Heap}
noncomputable def zaJ:DSt→Dm Fl :=
 (fSeq (fIf (fTest (fOp gGt (fOp gIxL (fVar 0) (fC (.int 0))) (fC (.int 0)))) (fSeq (fAsg (fOp gMod (fOp gIxL (fVar 0) (fC (.int 0))) (fVar 1)) (hName 2))
 (fSeq (fAsg (fOp gFdiv (fOp gIxL (fVar 0) (fC (.int 0))) (fVar 1)) (hSub (fVar 0) (fC (.int 0))))
 (fRet (fVar 2)))) fNext)
 (fSeq (fAsg (fOp gMod (fOp gMul (fOp gIxL (fVar 0) (fC (.int 1))) (fC (.int 48271))) (fC (.int 2147483647))) (hName 3))
 (fSeq (fAsg (fOp gAdd (fOp gMod (fOp gAdd (fOp gMul (fVar 3) (fC (.int 40692))) (fC (.int 30103))) (fC (.int 2147483399))) (fC (.int 1))) (hSub (fVar 0) (fC (.int 1))))
 (fRet (fOp gMod (fOp gFdiv (fOp gAdd (fOp gMul (fVar 3) (fC (.int 2147483647))) (fOp gIxL (fVar 0) (fC (.int 1)))) (fC (.int 8191))) (fVar 1))))))
noncomputable def Yad:List D→Dm D:=fnF 4 zaJ
noncomputable def yaq:Stmt:=top 18
theorem ZaM:FnScope ["_law_feed_here","_law_many","_law_digit","_law_one"] ["_law_feed_here","_law_many"] (defScope yaq):=⟨rfl,rfl,rfl,by decide +kernel,rfl,by decide +kernel,by decide +kernel⟩
theorem Zbf {f:Addr} {fd:FuncData} (D:Def K mg "_law_take" yaq ["_law_feed_here","_law_many"] f fd) (T:Txt mg)  :FnOk P w K mg base CX0 1 f fd ["_law_feed_here","_law_many"] (spF K 2 Yad):=by
 refine D.F.ok ZaM (fun vs H Q E h=>h.1) (fun cdv A outer s H vs Q E hr h=>?_)
 have hu:=hr.units
 have hu1:=Xay hr
 refine ⟨_,(@yab _ _ _ _ _ (@yaI _ _ _ _ _ _ _ _ (Yai op_gt (@xag _ _ _ _ _ _ _ xap (pv 0) Zac (fun _ _=>rfl)) Zac (nomark _)) (@yab _ _ _ _ _ (@yaf (i:=2) _ _ _ _ _ _ ZaM.nd rfl (by first | exact Or.inl rfl | exact Or.inr rfl) (Yaf zaQ (@xag _ _ _ _ _ _ _ xap (pv 0) Zac (fun _ _=>rfl)) (pv 1)) (by rfl) (by first | exact .inl rfl | exact .inr rfl | assumption))
  (@yab _ _ _ _ _ (XaK (Yaf Xbg (@xag _ _ _ _ _ _ _ xap (pv 0) Zac (fun _ _=>rfl)) (pv 1)) (yaK (pv 0) Zac xat))
  (@yad _ _ _ (@xah _ _ _ _ (pv 2))))) Xao)
  (@yab _ _ _ _ _ (@yaf (i:=3) _ _ _ _ _ _ ZaM.nd rfl (by first | exact Or.inl rfl | exact Or.inr rfl) (Yaf zaQ (Yaf XaA (@xag _ _ _ _ _ _ _ xap (pv 0) Zac (fun _ _=>rfl)) Zac) Zac) (by rfl) (by first | exact .inl rfl | exact .inr rfl | assumption))
  (@yab _ _ _ _ _ (XaK (Yaf Xak (Yaf zaQ (Yaf Xak (Yaf XaA (pv 3) Zac) Zac) Zac) Zac) (yaK (pv 0) Zac xat))
  (@yad _ _ _ (@xah _ _ _ _ (Yaf zaQ (Yaf Xbg (Yaf Xak (Yaf XaA (pv 3) Zac) (@xag _ _ _ _ _ _ _ xap (pv 0) Zac (fun _ _=>rfl))) Zac) (pv 1))))))),?_⟩
 exact yaz (b:=zaJ) (zad (zaw (yai (yac so_gt (yac zaz (Zaa 0) (Yac _)) (Yac _))) (zad (xad (yac XaQ (yac zaz (Zaa 0) (Yac _)) (Zaa 1)) (zab 2))
  (zad (xad (yac zbj (yac zaz (Zaa 0) (Yac _)) (Zaa 1)) (YaA (Zaa 0) (Yac _)))
  (Xah (Zaa 2)))) zap)
  (zad (xad (yac XaQ (yac yaB (yac zaz (Zaa 0) (Yac _)) (Yac _)) (Yac _)) (zab 3))
  (zad (xad (yac yal (yac XaQ (yac yal (yac yaB (Zaa 3) (Yac _)) (Yac _)) (Yac _)) (Yac _)) (YaA (Zaa 0) (Yac _)))
  (Xah (yac XaQ (yac zbj (yac yal (yac yaB (Zaa 3) (Yac _)) (yac zaz (Zaa 0) (Yac _))) (Yac _)) (Zaa 1)))))) rfl h
noncomputable def Zay:DSt→Dm Fl :=
 (fSeq (fAsg (fCB gListR (fCons (fCB gRange1 (fCons (fVar 1) fNil)) fNil)) (hName 2))
 (fSeq (fAsg (fTup fNil) (hName 3))
 (fSeq (fWhile (fTest (fOp (gEqD true) (fVar 2) (fLst fNil))) (fAsg (fOp gCatT (fVar 3) (fTup (fCons (fBM "list" gPopAt (fVar 2) (fCons (fCB Yad (fCons (fVar 0) (fCons (fCB gLen (fCons (fVar 2) fNil)) fNil))) fNil)) fNil))) (hName 3)))
 (fRet (fVar 3)))))
noncomputable def zam:List D→Dm D:=fnF 4 Zay
noncomputable def yat:Stmt:=top 19
theorem Zaw:FnScope ["_law_feed_here","_law_n","_law_left","_law_found"] ["_law_feed_here","_law_n"] (defScope yat):=⟨rfl,rfl,rfl,by decide +kernel,rfl,by decide +kernel,by decide +kernel⟩
theorem ya1 {f:Addr} {fd:FuncData} (D:Def K mg "_law_turning" yat ["_law_feed_here","_law_n"] f fd) (T:Txt mg)  {f_law_take:Addr} {d_law_take:FuncData} (D_law_take:Def K mg "_law_take" yaq ["_law_feed_here","_law_many"] f_law_take d_law_take) (G_law_take:FnOk P w K mg base CX0 1 f_law_take d_law_take ["_law_feed_here","_law_many"] (spF K 2 Yad)):FnOk P w K mg base CX0 2 f fd ["_law_feed_here","_law_n"] (spF K 2 zam):=by
 refine D.F.ok Zaw (fun vs H Q E h=>h.1) (fun cdv A outer s H vs Q E hr h=>?_)
 have hu:=hr.units
 have hu1:=Xay hr
 refine ⟨_,(@yab _ _ _ _ _ (@yaf (i:=2) _ _ _ _ _ _ Zaw.nd rfl (by first | exact Or.inl rfl | exact Or.inr rfl) (zae (Xai rfl) (by rfl) T.n_list xau (@zaa _ _ _ _ _ (zae XaO (by rfl) T.n_range xaB (@zaa _ _ _ _ _ (pv 1) xaa (by rfl))) xaa (by rfl))) (by rfl) (by first | exact .inl rfl | exact .inr rfl | assumption))
  (@yab _ _ _ _ _ (@yaf (i:=3) _ _ _ _ _ _ Zaw.nd rfl (by first | exact Or.inl rfl | exact Or.inr rfl) (@XaC _ _ _ _ _ xaa) (by rfl) (by first | exact .inl rfl | exact .inr rfl | assumption))
  (@yab _ _ _ _ _ (yaX PassesOwn.never (Yai (XbW hu) (pv 2) (@Yas _ _ _ _ xaa) (nomark _)) (@yad _ _ _ (@yaf (i:=3) _ _ _ _ _ _ Zaw.nd rfl (by first | exact Or.inl rfl | exact Or.inr rfl) (Yaf Za7 (pv 3) (@XaC _ _ _ _ _ (@zaa _ _ _ _ _ (xbs PySem.F.plainAttrs_list PySem.F.slot_list_pop PySem.F.type_list_pop ybN (pv 2) (@zaa _ _ _ _ _ (Yae G_law_take (hr.mono (by decide)) rfl D_law_take.m D_law_take.F.kp D_law_take.b .nil pass0 (@zaa _ _ _ _ _ (pv 0) (@zaa _ _ _ _ _ (Zaf Xad (by rfl) T.n_len xan (@zaa _ _ _ _ _ (pv 2) xaa (by rfl))) xaa (by rfl)) (by rfl))) xaa (by rfl))) xaa (by rfl)))) (by rfl) (by first | exact .inl rfl | exact .inr rfl | assumption))))
  (@yad _ _ _ (@xah _ _ _ _ (pv 3)))))),?_⟩
 exact yaz (b:=Zay) (zad (xad (yag XaB (yaa (yag ya0 (yaa (Zaa 1) Xaa)) Xaa)) (zab 2))
  (zad (xad (zaD Xaa) (zab 3))
  (zad (YaX (yai (yac (XbD true) (Zaa 2) (xas Xaa))) (xad (yac ybj (Zaa 3) (zaD (yaa (Xbu zbQ (Zaa 2) (yaa (xae (F:=Yad) (yaa (Zaa 0) (yaa (yag Xan (yaa (Zaa 2) Xaa)) Xaa)) (Zab (Zab (fun _ _ _ _ h=>Xae h)))) Xaa)) Xaa))) (zab 3)))
  (Xah (Zaa 3))))) rfl h
noncomputable def YaN:DSt→Dm Fl :=
 (fSeq (fAsg (fLst (fCons (fC (.int 0)) fNil)) (hName 1))
 (fSeq (fFor (iRng1F (fCons (fOp gAdd (fC (.int 1)) (fCB gLen (fCons (fOp gIxT (fVar 0) (fC (.int 0))) fNil))) fNil)) (hName 2) (fFor (iTupF (fVar 0)) (hName 3) (fFor (iListF (fCB gList (fCons (fVar 1) fNil))) (hName 4) (fIf (fTest (fOp (gIn true) (fOp gIxT (fVar 3) (fVar 4)) (fVar 1))) (fDrop (fBM "list" gAppend (fVar 1) (fCons (fOp gIxT (fVar 3) (fVar 4)) fNil))) fNext))))
 (fRet (fVar 1))))
noncomputable def zav:List D→Dm D:=fnF 5 YaN
noncomputable def zaH:Stmt:=top 20
theorem xaD:FnScope ["_law_floor_here","_law_found","_law_turn","_law_turning_here","_law_one"] ["_law_floor_here"] (defScope zaH):=⟨rfl,rfl,rfl,by decide +kernel,rfl,by decide +kernel,by decide +kernel⟩
theorem Zbk {f:Addr} {fd:FuncData} (D:Def K mg "_law_met" zaH ["_law_floor_here"] f fd) (T:Txt mg)  :FnOk P w K mg base CX0 1 f fd ["_law_floor_here"] (spF K 1 zav):=by
 refine D.F.ok xaD (fun vs H Q E h=>h.1) (fun cdv A outer s H vs Q E hr h=>?_)
 have hu:=hr.units
 have hu1:=Xay hr
 refine ⟨_,(@yab _ _ _ _ _ (@yaf (i:=1) _ _ _ _ _ _ xaD.nd rfl (by first | exact Or.inl rfl | exact Or.inr rfl) (@Yas _ _ _ _ (@zaa _ _ _ _ _ Zac xaa (by rfl))) (by rfl) (by first | exact .inl rfl | exact .inr rfl | assumption))
  (@yab _ _ _ _ _ (@Xas _ _ _ _ _ _ _ _ PassesOwn.never rfl (Zam rfl T.n_range (@zaa _ _ _ _ _ (Yaf Xak Zac (Zaf Xad (by rfl) T.n_len xan (@zaa _ _ _ _ _ (@xag _ _ _ _ _ _ _ Xaf (pv 0) Zac (fun _ _=>rfl)) xaa (by rfl)))) xaa (by rfl))) (xaf (i:=2) xaD.nd rfl (by first | exact Or.inl rfl | exact Or.inr rfl)) (@yad _ _ _ (@Xas _ _ _ _ _ _ _ _ PassesOwn.never rfl (ybc (pv 0)) (xaf (i:=3) xaD.nd rfl (by first | exact Or.inl rfl | exact Or.inr rfl)) (@yad _ _ _ (@Xas _ _ _ _ _ _ _ _ PassesOwn.never rfl (Za6 (zae zaL (by rfl) T.n_list xau (@zaa _ _ _ _ _ (pv 1) xaa (by rfl)))) (xaf (i:=4) xaD.nd rfl (by first | exact Or.inl rfl | exact Or.inr rfl)) (@yad _ _ _ (@yaI _ _ _ _ _ _ _ _ (Yai XaU (@xag _ _ _ _ _ _ _ Xaf (pv 3) (pv 4) (fun _ _=>rfl)) (pv 1) (by with_unfolding_all rfl)) (@yad _ _ _ (ya6 (xbs PySem.F.plainAttrs_list PySem.F.slot_list_append PySem.F.type_list_append yaZ (pv 1) (@zaa _ _ _ _ _ (@xag _ _ _ _ _ _ _ Xaf (pv 3) (pv 4) (fun _ _=>rfl)) xaa (by rfl))))) Xao)) (by intro _;rfl))) (by intro _;rfl))) (by intro _;rfl))
  (@yad _ _ _ (@xah _ _ _ _ (pv 1))))),?_⟩
 exact yaz (b:=YaN) (zad (xad (xas (yaa (Yac _) Xaa)) (zab 1))
  (zad (zat (xar (yaa (yac yal (Yac _) (yag Xan (yaa (yac zag (Zaa 0) (Yac _)) Xaa))) Xaa)) (zab 2) (zat (Ya0 (Zaa 0)) (zab 3) (zat (xaX (yag Zbj (yaa (Zaa 1) Xaa))) (zab 4) (zaw (yai (yac (Yb4 true) (yac zag (Zaa 3) (Zaa 4)) (Zaa 1))) (Ya8 (Xbu Za0 (Zaa 1) (yaa (yac zag (Zaa 3) (Zaa 4)) Xaa))) zap))))
  (Xah (Zaa 1)))) rfl h
noncomputable def zaF:DSt→Dm Fl :=
 (fSeq (fAsg (fCB Yad (fCons (fVar 0) (fCons (fC (.int 6)) fNil))) (hName 2))
 (fSeq (fPar 3 4 (fCons (fCB gList (fCons (fCB zam (fCons (fVar 0) (fCons (fVar 1) fNil))) fNil)) (fCons (fCB gList (fCons (fCB zam (fCons (fVar 0) (fCons (fVar 1) fNil))) fNil)) fNil)))
 (fSeq (fIf (fTest (fOp (gEq false) (fVar 2) (fC (.int 0)))) (fAsg (fOp gCat (fCB gListR (fCons (fCB gRange2 (fCons (fC (.int 1)) (fCons (fVar 1) fNil))) fNil)) (fLst (fCons (fC (.int 0)) fNil))) (hName 3)) fNext)
 (fSeq (fIf (fTest (fOp (gEq false) (fVar 2) (fC (.int 1)))) (fPar 3 4 (fCons (fCB gListR (fCons (fCB gRange1 (fCons (fVar 1) fNil)) fNil)) (fCons (fOp gCat (fCB gListR (fCons (fCB gRange2 (fCons (fC (.int 1)) (fCons (fVar 1) fNil))) fNil)) (fLst (fCons (fC (.int 0)) fNil))) fNil))) fNext)
 (fSeq (fIf (fTest (fOp (gEq false) (fVar 2) (fC (.int 2)))) (fSeq (fAsg (fOp gAdd (fC (.int 1)) (fCB Yad (fCons (fVar 0) (fCons (fVar 1) fNil)))) (hName 5))
 (fSeq (fAsg (fOp gCat (fOp gCat (fCB gListR (fCons (fCB gRange2 (fCons (fC (.int 1)) (fCons (fVar 5) fNil))) fNil)) (fLst (fCons (fC (.int 0)) fNil))) (fCB gListR (fCons (fCB gRange2 (fCons (fVar 5) (fCons (fVar 1) fNil))) fNil))) (hName 3))
 (fSeq (fAsg (fSl gSlL (fOp gCat (fOp gCat (fOp gCat (fLst (fCons (fVar 5) fNil)) (fCB gListR (fCons (fCB gRange2 (fCons (fC (.int 1)) (fCons (fVar 5) fNil))) fNil))) (fCB gListR (fCons (fCB gRange2 (fCons (fOp gAdd (fVar 5) (fC (.int 1))) (fCons (fVar 1) fNil))) fNil))) (fLst (fCons (fC (.int 0)) fNil))) fNoPart (fPart (fVar 1))) (hName 4))
 (fIf (fTest (fOp (gEq false) (fVar 5) (fVar 1))) (fAsg (fCB gListR (fCons (fCB gRange1 (fCons (fVar 1) fNil)) fNil)) (hName 4)) fNext)))) fNext)
 (fSeq (fAsg (fTup (fCons (fCB gTuple (fCons (fVar 3) fNil)) (fCons (fCB gTuple (fCons (fVar 4) fNil)) fNil))) (hName 6))
 (fSeq (fAsg (fComp (iRng1F (fCons (fVar 1) fNil)) 1 [6] (hName 0) (fTest (fOp (gIn true) (fVar 0) (fCB zav (fCons (fVar 1) fNil)))) (fVar 0)) (hName 7))
 (fSeq (fWhile (fTest (fOp (gEqD true) (fVar 7) (fLst fNil))) (fSeq (fAsg (fOp gIxL (fVar 7) (fC (.int 0))) (hName 8))
 (fSeq (fAsg (fTup (fCons (fOp gIxL (fVar 3) (fVar 8)) (fCons (fOp gIxL (fVar 3) (fC (.int 0))) fNil))) (hTup 2 (hCons (hSub (fVar 3) (fC (.int 0))) (hCons (hSub (fVar 3) (fVar 8)) hNil))))
 (fSeq (fAsg (fTup (fCons (fCB gTuple (fCons (fVar 3) fNil)) (fCons (fCB gTuple (fCons (fVar 4) fNil)) fNil))) (hName 6))
 (fAsg (fComp (iRng1F (fCons (fVar 1) fNil)) 1 [6] (hName 0) (fTest (fOp (gIn true) (fVar 0) (fCB zav (fCons (fVar 1) fNil)))) (fVar 0)) (hName 7))))))
 (fRet (fVar 6))))))))))
noncomputable def Zaq:List D→Dm D:=fnF 9 zaF
noncomputable def Zaz:Stmt:=top 21
theorem Yag:FnScope ["_law_feed_here","_law_n","_law_form","_law_right","_law_up","_law_wide","_law_found","_law_apart","_law_m"] ["_law_feed_here","_law_n"] (defScope Zaz):=⟨rfl,rfl,rfl,by decide +kernel,rfl,by decide +kernel,by decide +kernel⟩
theorem zba {f:Addr} {fd:FuncData} (D:Def K mg "_law_floor" Zaz ["_law_feed_here","_law_n"] f fd) (T:Txt mg)  {f_law_take:Addr} {d_law_take:FuncData} (D_law_take:Def K mg "_law_take" yaq ["_law_feed_here","_law_many"] f_law_take d_law_take) (G_law_take:FnOk P w K mg base CX0 1 f_law_take d_law_take ["_law_feed_here","_law_many"] (spF K 2 Yad)) {f_law_turning:Addr} {d_law_turning:FuncData} (D_law_turning:Def K mg "_law_turning" yat ["_law_feed_here","_law_n"] f_law_turning d_law_turning) (G_law_turning:FnOk P w K mg base CX0 2 f_law_turning d_law_turning ["_law_feed_here","_law_n"] (spF K 2 zam)) {f_law_met:Addr} {d_law_met:FuncData} (D_law_met:Def K mg "_law_met" zaH ["_law_floor_here"] f_law_met d_law_met) (G_law_met:FnOk P w K mg base CX0 1 f_law_met d_law_met ["_law_floor_here"] (spF K 1 zav)):FnOk P w K mg base CX0 3 f fd ["_law_feed_here","_law_n"] (spF K 2 Zaq):=by
 refine D.F.ok Yag (fun vs H Q E h=>h.1) (fun cdv A outer s H vs Q E hr h=>?_)
 have hu:=hr.units
 have hu1:=Xay hr
 refine ⟨_,(@yab _ _ _ _ _ (@yaf (i:=2) _ _ _ _ _ _ Yag.nd rfl (by first | exact Or.inl rfl | exact Or.inr rfl) (Yae G_law_take (hr.mono (by decide)) rfl D_law_take.m D_law_take.F.kp D_law_take.b .nil pass0 (@zaa _ _ _ _ _ (pv 0) (@zaa _ _ _ _ _ Zac xaa (by rfl)) (by rfl))) (by rfl) (by first | exact .inl rfl | exact .inr rfl | assumption))
  (@yab _ _ _ _ _ (zbm (i:=3) (j:=4) rfl Yag.nd rfl rfl (by decide) rfl rfl (@zaa _ _ _ _ _ (zae zaL (by rfl) T.n_list xau (@zaa _ _ _ _ _ (Yae G_law_turning (hr.mono (by decide)) rfl D_law_turning.m D_law_turning.F.kp D_law_turning.b .nil pass0 (@zaa _ _ _ _ _ (pv 0) (@zaa _ _ _ _ _ (pv 1) xaa (by rfl)) (by rfl))) xaa (by rfl))) (@zaa _ _ _ _ _ (zae zaL (by rfl) T.n_list xau (@zaa _ _ _ _ _ (Yae G_law_turning (hr.mono (by decide)) rfl D_law_turning.m D_law_turning.F.kp D_law_turning.b .nil pass0 (@zaa _ _ _ _ _ (pv 0) (@zaa _ _ _ _ _ (pv 1) xaa (by rfl)) (by rfl))) xaa (by rfl))) xaa (by rfl)) (by rfl)) rfl)
  (@yab _ _ _ _ _ (@yaI _ _ _ _ _ _ _ _ (Yai yaW (pv 2) Zac (nomark _)) (@yad _ _ _ (@yaf (i:=3) _ _ _ _ _ _ Yag.nd rfl (by first | exact Or.inl rfl | exact Or.inr rfl) (Yaf zaV (zae (Xai rfl) (by rfl) T.n_list xau (@zaa _ _ _ _ _ (zae Zax (by rfl) T.n_range xaB (@zaa _ _ _ _ _ Zac (@zaa _ _ _ _ _ (pv 1) xaa (by rfl)) (by rfl))) xaa (by rfl))) (@Yas _ _ _ _ (@zaa _ _ _ _ _ Zac xaa (by rfl)))) (by rfl) (by first | exact .inl rfl | exact .inr rfl | assumption))) Xao)
  (@yab _ _ _ _ _ (@yaI _ _ _ _ _ _ _ _ (Yai yaW (pv 2) Zac (nomark _)) (@yad _ _ _ (zbm (i:=3) (j:=4) rfl Yag.nd rfl rfl (by decide) rfl rfl (@zaa _ _ _ _ _ (zae (Xai rfl) (by rfl) T.n_list xau (@zaa _ _ _ _ _ (zae XaO (by rfl) T.n_range xaB (@zaa _ _ _ _ _ (pv 1) xaa (by rfl))) xaa (by rfl))) (@zaa _ _ _ _ _ (Yaf zaV (zae (Xai rfl) (by rfl) T.n_list xau (@zaa _ _ _ _ _ (zae Zax (by rfl) T.n_range xaB (@zaa _ _ _ _ _ Zac (@zaa _ _ _ _ _ (pv 1) xaa (by rfl)) (by rfl))) xaa (by rfl))) (@Yas _ _ _ _ (@zaa _ _ _ _ _ Zac xaa (by rfl)))) xaa (by rfl)) (by rfl)) rfl)) Xao)
  (@yab _ _ _ _ _ (@yaI _ _ _ _ _ _ _ _ (Yai yaW (pv 2) Zac (nomark _)) (@yab _ _ _ _ _ (@yaf (i:=5) _ _ _ _ _ _ Yag.nd rfl (by first | exact Or.inl rfl | exact Or.inr rfl) (Yaf Xak Zac (Yae G_law_take (hr.mono (by decide)) rfl D_law_take.m D_law_take.F.kp D_law_take.b .nil pass0 (@zaa _ _ _ _ _ (pv 0) (@zaa _ _ _ _ _ (pv 1) xaa (by rfl)) (by rfl)))) (by rfl) (by first | exact .inl rfl | exact .inr rfl | assumption))
  (@yab _ _ _ _ _ (@yaf (i:=3) _ _ _ _ _ _ Yag.nd rfl (by first | exact Or.inl rfl | exact Or.inr rfl) (Yaf zaV (Yaf zaV (zae (Xai rfl) (by rfl) T.n_list xau (@zaa _ _ _ _ _ (zae Zax (by rfl) T.n_range xaB (@zaa _ _ _ _ _ Zac (@zaa _ _ _ _ _ (pv 5) xaa (by rfl)) (by rfl))) xaa (by rfl))) (@Yas _ _ _ _ (@zaa _ _ _ _ _ Zac xaa (by rfl)))) (zae (Xai rfl) (by rfl) T.n_list xau (@zaa _ _ _ _ _ (zae Zax (by rfl) T.n_range xaB (@zaa _ _ _ _ _ (pv 5) (@zaa _ _ _ _ _ (pv 1) xaa (by rfl)) (by rfl))) xaa (by rfl)))) (by rfl) (by first | exact .inl rfl | exact .inr rfl | assumption))
  (@yab _ _ _ _ _ (@yaf (i:=4) _ _ _ _ _ _ Yag.nd rfl (by first | exact Or.inl rfl | exact Or.inr rfl) (yaQ ybh (Yaf zaV (Yaf zaV (Yaf zaV (@Yas _ _ _ _ (@zaa _ _ _ _ _ (pv 5) xaa (by rfl))) (zae (Xai rfl) (by rfl) T.n_list xau (@zaa _ _ _ _ _ (zae Zax (by rfl) T.n_range xaB (@zaa _ _ _ _ _ Zac (@zaa _ _ _ _ _ (pv 5) xaa (by rfl)) (by rfl))) xaa (by rfl)))) (zae (Xai rfl) (by rfl) T.n_list xau (@zaa _ _ _ _ _ (zae Zax (by rfl) T.n_range xaB (@zaa _ _ _ _ _ (Yaf Xak (pv 5) Zac) (@zaa _ _ _ _ _ (pv 1) xaa (by rfl)) (by rfl))) xaa (by rfl)))) (@Yas _ _ _ _ (@zaa _ _ _ _ _ Zac xaa (by rfl)))) xaY (XaY (pv 1))) (by rfl) (by first | exact .inl rfl | exact .inr rfl | assumption))
  (@yad _ _ _ (@yaI _ _ _ _ _ _ _ _ (Yai yaW (pv 5) (pv 1) (nomark _)) (@yad _ _ _ (@yaf (i:=4) _ _ _ _ _ _ Yag.nd rfl (by first | exact Or.inl rfl | exact Or.inr rfl) (zae (Xai rfl) (by rfl) T.n_list xau (@zaa _ _ _ _ _ (zae XaO (by rfl) T.n_range xaB (@zaa _ _ _ _ _ (pv 1) xaa (by rfl))) xaa (by rfl))) (by rfl) (by first | exact .inl rfl | exact .inr rfl | assumption))) Xao))))) Xao)
  (@yab _ _ _ _ _ (@yaf (i:=6) _ _ _ _ _ _ Yag.nd rfl (by first | exact Or.inl rfl | exact Or.inr rfl) (@XaC _ _ _ _ _ (@zaa _ _ _ _ _ (zae Zag (by rfl) T.n_tuple zal (@zaa _ _ _ _ _ (pv 3) xaa (by rfl))) (@zaa _ _ _ _ _ (zae Zag (by rfl) T.n_tuple zal (@zaa _ _ _ _ _ (pv 4) xaa (by rfl))) xaa (by rfl)) (by rfl))) (by rfl) (by first | exact .inl rfl | exact .inr rfl | assumption))
  (@yab _ _ _ _ _ (Xa7 (i:=7) (own:=["_law_s"]) (fr:=["_law_found"]) (js:=[6]) rfl Yag.nd rfl rfl ⟨⟨rfl,by decide +kernel,by decide +kernel,by dsimp only [cxOf,cxComp,Cx.nox,Cx.wish,PyProof.Rows.envOfC,compEnvC,relabel,Env.kindOf];decide +kernel,by decide +kernel⟩,rfl⟩ (Zam rfl T.n_range (@zaa _ _ _ _ _ (pv 1) xaa (by rfl))) (fun _ _ _ _ _=>(xaf (i:=0) (show ((["_law_s"]:List Str) ++ (["_law_found"]:List Str)).Nodup by decide +kernel) rfl (by first | exact Or.inl rfl | exact Or.inr rfl))) (fun _ _ _ _ _=>(XbA (Yai (YaQ (K:=K) rfl) (pv 0) (Yae G_law_met (hr.mono (by decide)) rfl D_law_met.m D_law_met.F.kp D_law_met.b .nil pass0 (@zaa _ _ _ _ _ (pv 1) xaa (by rfl))) (by with_unfolding_all rfl)))) (fun _ _ _ _ _=>(pv 0)))
  (@yab _ _ _ _ _ (yaX PassesOwn.never (Yai (XbW hu) (pv 7) (@Yas _ _ _ _ xaa) (nomark _)) (@yab _ _ _ _ _ (@yaf (i:=8) _ _ _ _ _ _ Yag.nd rfl (by first | exact Or.inl rfl | exact Or.inr rfl) (@xag _ _ _ _ _ _ _ xap (pv 7) Zac (fun _ _=>rfl)) (by rfl) (by first | exact .inl rfl | exact .inr rfl | assumption))
  (@yab _ _ _ _ _ (XaK (@XaC _ _ _ _ _ (@zaa _ _ _ _ _ (@xag _ _ _ _ _ _ _ xap (pv 3) (pv 8) (fun _ _=>rfl)) (@zaa _ _ _ _ _ (@xag _ _ _ _ _ _ _ xap (pv 3) Zac (fun _ _=>rfl)) xaa (by rfl)) (by rfl))) (xaU (n:=2) rfl (zak (yaK (pv 3) Zac xat) (zak (yaK (pv 3) (pv 8) xat) ZaI))))
  (@yab _ _ _ _ _ (@yaf (i:=6) _ _ _ _ _ _ Yag.nd rfl (by first | exact Or.inl rfl | exact Or.inr rfl) (@XaC _ _ _ _ _ (@zaa _ _ _ _ _ (zae Zag (by rfl) T.n_tuple zal (@zaa _ _ _ _ _ (pv 3) xaa (by rfl))) (@zaa _ _ _ _ _ (zae Zag (by rfl) T.n_tuple zal (@zaa _ _ _ _ _ (pv 4) xaa (by rfl))) xaa (by rfl)) (by rfl))) (by rfl) (by first | exact .inl rfl | exact .inr rfl | assumption))
  (@yad _ _ _ (Xa7 (i:=7) (own:=["_law_s"]) (fr:=["_law_found"]) (js:=[6]) rfl Yag.nd rfl rfl ⟨⟨rfl,by decide +kernel,by decide +kernel,by dsimp only [cxOf,cxComp,Cx.nox,Cx.wish,PyProof.Rows.envOfC,compEnvC,relabel,Env.kindOf];decide +kernel,by decide +kernel⟩,rfl⟩ (Zam rfl T.n_range (@zaa _ _ _ _ _ (pv 1) xaa (by rfl))) (fun _ _ _ _ _=>(xaf (i:=0) (show ((["_law_s"]:List Str) ++ (["_law_found"]:List Str)).Nodup by decide +kernel) rfl (by first | exact Or.inl rfl | exact Or.inr rfl))) (fun _ _ _ _ _=>(XbA (Yai (YaQ (K:=K) rfl) (pv 0) (Yae G_law_met (hr.mono (by decide)) rfl D_law_met.m D_law_met.F.kp D_law_met.b .nil pass0 (@zaa _ _ _ _ _ (pv 1) xaa (by rfl))) (by with_unfolding_all rfl)))) (fun _ _ _ _ _=>(pv 0))))))))
  (@yad _ _ _ (@xah _ _ _ _ (pv 6))))))))))),?_⟩
 exact yaz (b:=zaF) (zad (xad (xae (F:=Yad) (yaa (Zaa 0) (yaa (Yac _) Xaa)) (Zab (Zab (fun _ _ _ _ h=>Xae h)))) (zab 2))
  (zad (ybo (yaa (yag Zbj (yaa (xae (F:=zam) (yaa (Zaa 0) (yaa (Zaa 1) Xaa)) (Zab (Zab (fun _ _ _ _ h=>Xae h)))) Xaa)) (yaa (yag Zbj (yaa (xae (F:=zam) (yaa (Zaa 0) (yaa (Zaa 1) Xaa)) (Zab (Zab (fun _ _ _ _ h=>Xae h)))) Xaa)) Xaa)))
  (zad (zaw (yai (yac ZaW (Zaa 2) (Yac _))) (xad (yac YaV (yag XaB (yaa (yag xaG (yaa (Yac _) (yaa (Zaa 1) Xaa))) Xaa)) (xas (yaa (Yac _) Xaa))) (zab 3)) zap)
  (zad (zaw (yai (yac ZaW (Zaa 2) (Yac _))) (ybo (yaa (yag XaB (yaa (yag ya0 (yaa (Zaa 1) Xaa)) Xaa)) (yaa (yac YaV (yag XaB (yaa (yag xaG (yaa (Yac _) (yaa (Zaa 1) Xaa))) Xaa)) (xas (yaa (Yac _) Xaa))) Xaa))) zap)
  (zad (zaw (yai (yac ZaW (Zaa 2) (Yac _))) (zad (xad (yac yal (Yac _) (xae (F:=Yad) (yaa (Zaa 0) (yaa (Zaa 1) Xaa)) (Zab (Zab (fun _ _ _ _ h=>Xae h))))) (zab 5))
  (zad (xad (yac YaV (yac YaV (yag XaB (yaa (yag xaG (yaa (Yac _) (yaa (Zaa 5) Xaa))) Xaa)) (xas (yaa (Yac _) Xaa))) (yag XaB (yaa (yag xaG (yaa (Zaa 5) (yaa (Zaa 1) Xaa))) Xaa))) (zab 3))
  (zad (xad (ZbD zbE (yac YaV (yac YaV (yac YaV (xas (yaa (Zaa 5) Xaa)) (yag XaB (yaa (yag xaG (yaa (Yac _) (yaa (Zaa 5) Xaa))) Xaa))) (yag XaB (yaa (yag xaG (yaa (yac yal (Zaa 5) (Yac _)) (yaa (Zaa 1) Xaa))) Xaa))) (xas (yaa (Yac _) Xaa))) XaL (XaZ (Zaa 1))) (zab 4))
  (zaw (yai (yac ZaW (Zaa 5) (Zaa 1))) (xad (yag XaB (yaa (yag ya0 (yaa (Zaa 1) Xaa)) Xaa)) (zab 4)) zap)))) zap)
  (zad (xad (zaD (yaa (yag Zap (yaa (Zaa 3) Xaa)) (yaa (yag Zap (yaa (Zaa 4) Xaa)) Xaa))) (zab 6))
  (zad (xad (yaD (xar (yaa (Zaa 1) Xaa)) (zab 0) (yai (yac (Yb4 true) (Zaa 0) (xae (F:=zav) (yaa (Zaa 1) Xaa) (Zab (fun _ _ _ _ h=>Xae h))))) (Zaa 0)) (zab 7))
  (zad (YaX (yai (yac (XbD true) (Zaa 7) (xas Xaa))) (zad (xad (yac zaz (Zaa 7) (Yac _)) (zab 8))
  (zad (xad (zaD (yaa (yac zaz (Zaa 3) (Zaa 8)) (yaa (yac zaz (Zaa 3) (Yac _)) Xaa))) (XaI (yak (YaA (Zaa 3) (Yac _)) (yak (YaA (Zaa 3) (Zaa 8)) xaI))))
  (zad (xad (zaD (yaa (yag Zap (yaa (Zaa 3) Xaa)) (yaa (yag Zap (yaa (Zaa 4) Xaa)) Xaa))) (zab 6))
  (xad (yaD (xar (yaa (Zaa 1) Xaa)) (zab 0) (yai (yac (Yb4 true) (Zaa 0) (xae (F:=zav) (yaa (Zaa 1) Xaa) (Zab (fun _ _ _ _ h=>Xae h))))) (Zaa 0)) (zab 7))))))
  (Xah (Zaa 6)))))))))) rfl h
noncomputable def yaJ:DSt→Dm Fl :=
 (fSeq (fAsg (fCB gLen (fCons (fOp gIxT (fVar 0) (fC (.int 0))) fNil)) (hName 2))
 (fSeq (fAsg (fOp gRep (fLst (fCons (fC (.int 0)) fNil)) (fOp gMul (fC (.int 2)) (fVar 2))) (hName 3))
 (fSeq (fFor (iEnumEF (fCons (fVar 1) fNil)) (hTup 2 (hCons (hName 4) (hCons (hName 5) hNil))) (fFor (iTupF (fTup (fCons (fTup (fCons (fVar 4) (fCons (fC (.int 1)) fNil))) (fCons (fTup (fCons (fOp gAdd (fVar 2) (fOp gIxT (fOp gIxT (fVar 0) (fC (.int 0))) (fVar 4))) (fCons (fC (.int 1)) fNil))) (fCons (fTup (fCons (fOp gIxT (fOp gIxT (fVar 0) (fC (.int 1))) (fVar 4)) (fCons (fUn gNeg (fC (.int 1))) fNil))) (fCons (fTup (fCons (fOp gAdd (fVar 2) (fVar 4)) (fCons (fUn gNeg (fC (.int 1))) fNil))) fNil)))))) (hTup 2 (hCons (hName 6) (hCons (hName 7) hNil))) (fAsg (fOp gAdd (fOp gIxL (fVar 3) (fVar 6)) (fOp gMul (fVar 7) (fVar 5))) (hSub (fVar 3) (fVar 6)))))
 (fRet (fCB gTuple (fCons (fVar 3) fNil))))))
noncomputable def Yaq:List D→Dm D:=fnF 8 yaJ
noncomputable def zay:Stmt:=top 23
theorem xaq:FnScope ["_law_floor_here","_law_weights","_law_many","_law_found","_law_s","_law_weight","_law_side","_law_sign"] ["_law_floor_here","_law_weights"] (defScope zay):=⟨rfl,rfl,rfl,by decide +kernel,rfl,by decide +kernel,by decide +kernel⟩
theorem Ybf {f:Addr} {fd:FuncData} (D:Def K mg "_law_rims" zay ["_law_floor_here","_law_weights"] f fd) (T:Txt mg)  :FnOk P w K mg base CX0 1 f fd ["_law_floor_here","_law_weights"] (spF K 2 Yaq):=by
 refine D.F.ok xaq (fun vs H Q E h=>h.1) (fun cdv A outer s H vs Q E hr h=>?_)
 have hu:=hr.units
 have hu1:=Xay hr
 refine ⟨_,(@yab _ _ _ _ _ (@yaf (i:=2) _ _ _ _ _ _ xaq.nd rfl (by first | exact Or.inl rfl | exact Or.inr rfl) (Zaf Xad (by rfl) T.n_len xan (@zaa _ _ _ _ _ (@xag _ _ _ _ _ _ _ Xaf (pv 0) Zac (fun _ _=>rfl)) xaa (by rfl))) (by rfl) (by first | exact .inl rfl | exact .inr rfl | assumption))
  (@yab _ _ _ _ _ (@yaf (i:=3) _ _ _ _ _ _ xaq.nd rfl (by first | exact Or.inl rfl | exact Or.inr rfl) (Yaf Za3 (@Yas _ _ _ _ (@zaa _ _ _ _ _ Zac xaa (by rfl))) (Yaf XaA Zac (pv 2))) (by rfl) (by first | exact .inl rfl | exact .inr rfl | assumption))
  (@yab _ _ _ _ _ (@Xas _ _ _ _ _ _ _ _ PassesOwn.never rfl (xbO rfl T.n_enumerate (@zaa _ _ _ _ _ (pv 1) xaa (by rfl))) (xaU (n:=2) rfl (zak (xaf (i:=4) xaq.nd rfl (by first | exact Or.inl rfl | exact Or.inr rfl)) (zak (xaf (i:=5) xaq.nd rfl (by first | exact Or.inl rfl | exact Or.inr rfl)) ZaI))) (@yad _ _ _ (@Xas _ _ _ _ _ _ _ _ PassesOwn.never rfl (ybc (@XaC _ _ _ _ _ (@zaa _ _ _ _ _ (@XaC _ _ _ _ _ (@zaa _ _ _ _ _ (pv 4) (@zaa _ _ _ _ _ Zac xaa (by rfl)) (by rfl))) (@zaa _ _ _ _ _ (@XaC _ _ _ _ _ (@zaa _ _ _ _ _ (Yaf Xak (pv 2) (@xag _ _ _ _ _ _ _ Xaf (@xag _ _ _ _ _ _ _ Xaf (pv 0) Zac (fun _ _=>rfl)) (pv 4) (fun _ _=>rfl))) (@zaa _ _ _ _ _ Zac xaa (by rfl)) (by rfl))) (@zaa _ _ _ _ _ (@XaC _ _ _ _ _ (@zaa _ _ _ _ _ (@xag _ _ _ _ _ _ _ Xaf (@xag _ _ _ _ _ _ _ Xaf (pv 0) Zac (fun _ _=>rfl)) (pv 4) (fun _ _=>rfl)) (@zaa _ _ _ _ _ (pe_un xbV Zac) xaa (by rfl)) (by rfl))) (@zaa _ _ _ _ _ (@XaC _ _ _ _ _ (@zaa _ _ _ _ _ (Yaf Xak (pv 2) (pv 4)) (@zaa _ _ _ _ _ (pe_un xbV Zac) xaa (by rfl)) (by rfl))) xaa (by rfl)) (by rfl)) (by rfl)) (by rfl)))) (xaU (n:=2) rfl (zak (xaf (i:=6) xaq.nd rfl (by first | exact Or.inl rfl | exact Or.inr rfl)) (zak (xaf (i:=7) xaq.nd rfl (by first | exact Or.inl rfl | exact Or.inr rfl)) ZaI))) (@yad _ _ _ (XaK (Yaf Xak (@xag _ _ _ _ _ _ _ xap (pv 3) (pv 6) (fun _ _=>rfl)) (Yaf XaA (pv 7) (pv 5))) (yaK (pv 3) (pv 6) xat))) (by intro _;rfl))) (by intro _;rfl))
  (@yad _ _ _ (@xah _ _ _ _ (zae Zag (by rfl) T.n_tuple zal (@zaa _ _ _ _ _ (pv 3) xaa (by rfl)))))))),?_⟩
 exact yaz (b:=yaJ) (zad (xad (yag Xan (yaa (yac zag (Zaa 0) (Yac _)) Xaa)) (zab 2))
  (zad (xad (yac xa4 (xas (yaa (Yac _) Xaa)) (yac yaB (Yac _) (Zaa 2))) (zab 3))
  (zad (zat (YbJ (yaa (Zaa 1) Xaa)) (XaI (yak (zab 4) (yak (zab 5) xaI))) (zat (Ya0 (zaD (yaa (zaD (yaa (Zaa 4) (yaa (Yac _) Xaa))) (yaa (zaD (yaa (yac yal (Zaa 2) (yac zag (yac zag (Zaa 0) (Yac _)) (Zaa 4))) (yaa (Yac _) Xaa))) (yaa (zaD (yaa (yac zag (yac zag (Zaa 0) (Yac _)) (Zaa 4)) (yaa (so_un YbX (Yac _)) Xaa))) (yaa (zaD (yaa (yac yal (Zaa 2) (Zaa 4)) (yaa (so_un YbX (Yac _)) Xaa))) Xaa)))))) (XaI (yak (zab 6) (yak (zab 7) xaI))) (xad (yac yal (yac zaz (Zaa 3) (Zaa 6)) (yac yaB (Zaa 7) (Zaa 5))) (YaA (Zaa 3) (Zaa 6)))))
  (Xah (yag Zap (yaa (Zaa 3) Xaa)))))) rfl h
noncomputable def xaN:DSt→Dm Fl :=
 (fRet (fCB gTuple (fCons (fComp (iZipF (fCons (fVar 0) (fCons (fVar 1) fNil))) 2 [2] (hTup 2 (hCons (hName 0) (hCons (hName 1) hNil))) fTrue (fOp gAdd (fVar 0) (fOp gMul (fVar 2) (fVar 1)))) fNil)))
noncomputable def yaH:List D→Dm D:=fnF 3 xaN
noncomputable def ZaH:Stmt:=top 25
theorem Ybk:FnScope ["_law_one","_law_other","_law_weight"] ["_law_one","_law_other","_law_weight"] (defScope ZaH):=⟨rfl,rfl,rfl,by decide +kernel,rfl,by decide +kernel,by decide +kernel⟩
theorem xbk {f:Addr} {fd:FuncData} (D:Def K mg "_law_sum" ZaH ["_law_one","_law_other","_law_weight"] f fd) (T:Txt mg)  :FnOk P w K mg base CX0 1 f fd ["_law_one","_law_other","_law_weight"] (spF K 3 yaH):=by
 refine D.F.ok Ybk (fun vs H Q E h=>h.1) (fun cdv A outer s H vs Q E hr h=>?_)
 have hu:=hr.units
 have hu1:=Xay hr
 refine ⟨_,(@yad _ _ _ (@xah _ _ _ _ (zae Zag (by rfl) T.n_tuple zal (@zaa _ _ _ _ _ (yaP (own:=["_law_a","_law_b"]) (fr:=["_law_weight"]) (js:=[2]) rfl ⟨⟨rfl,by decide +kernel,by decide +kernel,by dsimp only [cxOf,cxComp,Cx.nox,Cx.wish,PyProof.Rows.envOfC,compEnvC,relabel,Env.kindOf];decide +kernel,by decide +kernel⟩,rfl⟩ (XbB rfl T.n_zip (@zaa _ _ _ _ _ (pv 0) (@zaa _ _ _ _ _ (pv 1) xaa (by rfl)) (by rfl))) (fun _ _ _ _ _=>(YbB (K:=K) (n:=2) rfl rfl (zak (xaf (i:=0) (show ((["_law_a","_law_b"]:List Str) ++ (["_law_weight"]:List Str)).Nodup by decide +kernel) rfl (by first | exact Or.inl rfl | exact Or.inr rfl)) (zak (xaf (i:=1) (show ((["_law_a","_law_b"]:List Str) ++ (["_law_weight"]:List Str)).Nodup by decide +kernel) rfl (by first | exact Or.inl rfl | exact Or.inr rfl)) ZaI)))) (fun _ _ _ _ _=>ZaV) (fun _ _ _ _ _=>(Yaf Xak (pv 0) (Yaf XaA (pv 2) (pv 1))))) xaa (by rfl))))),?_⟩
 exact yaz (b:=xaN) (Xah (yag Zap (yaa (yaD (xbI (yaa (Zaa 0) (yaa (Zaa 1) Xaa))) (XaI (yak (zab 0) (yak (zab 1) xaI))) zaM (yac yal (Zaa 0) (yac yaB (Zaa 2) (Zaa 1)))) Xaa))) rfl h
noncomputable def yaF:DSt→Dm Fl :=
 (fSeq (fAsg (fCB gLen (fCons (fOp gIxT (fVar 0) (fC (.int 0))) fNil)) (hName 3))
 (fSeq (fAsg (fOp gRep (fLst (fCons (fC (.int 0)) fNil)) (fOp gMul (fC (.int 2)) (fVar 3))) (hName 4))
 (fSeq (fAsg (fVar 1) (hName 5))
 (fSeq (fWhile (fTest (fOp (gEq false) (fOp gIxL (fVar 4) (fOp gAdd (fOp gMul (fVar 3) (fVar 2)) (fVar 5))) (fC (.int 0)))) (fSeq (fAsg (fC (.int 1)) (hSub (fVar 4) (fOp gAdd (fOp gMul (fVar 3) (fVar 2)) (fVar 5))))
 (fAsg (fOp gIxT (fOp gIxT (fVar 0) (fVar 2)) (fVar 5)) (hName 5))))
 (fRet (fCB gTuple (fCons (fVar 4) fNil)))))))
noncomputable def Yaz:List D→Dm D:=fnF 6 yaF
noncomputable def xaz:Stmt:=top 24
theorem Yaw:FnScope ["_law_floor_here","_law_s","_law_way","_law_many","_law_found","_law_here"] ["_law_floor_here","_law_s","_law_way"] (defScope xaz):=⟨rfl,rfl,rfl,by decide +kernel,rfl,by decide +kernel,by decide +kernel⟩
theorem yba {f:Addr} {fd:FuncData} (D:Def K mg "_law_along" xaz ["_law_floor_here","_law_s","_law_way"] f fd) (T:Txt mg)  :FnOk P w K mg base CX0 1 f fd ["_law_floor_here","_law_s","_law_way"] (spF K 3 Yaz):=by
 refine D.F.ok Yaw (fun vs H Q E h=>h.1) (fun cdv A outer s H vs Q E hr h=>?_)
 have hu:=hr.units
 have hu1:=Xay hr
 refine ⟨_,(@yab _ _ _ _ _ (@yaf (i:=3) _ _ _ _ _ _ Yaw.nd rfl (by first | exact Or.inl rfl | exact Or.inr rfl) (Zaf Xad (by rfl) T.n_len xan (@zaa _ _ _ _ _ (@xag _ _ _ _ _ _ _ Xaf (pv 0) Zac (fun _ _=>rfl)) xaa (by rfl))) (by rfl) (by first | exact .inl rfl | exact .inr rfl | assumption))
  (@yab _ _ _ _ _ (@yaf (i:=4) _ _ _ _ _ _ Yaw.nd rfl (by first | exact Or.inl rfl | exact Or.inr rfl) (Yaf Za3 (@Yas _ _ _ _ (@zaa _ _ _ _ _ Zac xaa (by rfl))) (Yaf XaA Zac (pv 3))) (by rfl) (by first | exact .inl rfl | exact .inr rfl | assumption))
  (@yab _ _ _ _ _ (@yaf (i:=5) _ _ _ _ _ _ Yaw.nd rfl (by first | exact Or.inl rfl | exact Or.inr rfl) (pv 1) (by rfl) (by first | exact .inl rfl | exact .inr rfl | assumption))
  (@yab _ _ _ _ _ (yaX PassesOwn.never (Yai yaW (@xag _ _ _ _ _ _ _ xap (pv 4) (Yaf Xak (Yaf XaA (pv 3) (pv 2)) (pv 5)) (fun _ _=>rfl)) Zac (nomark _)) (@yab _ _ _ _ _ (XaK Zac (yaK (pv 4) (Yaf Xak (Yaf XaA (pv 3) (pv 2)) (pv 5)) xat))
  (@yad _ _ _ (@yaf (i:=5) _ _ _ _ _ _ Yaw.nd rfl (by first | exact Or.inl rfl | exact Or.inr rfl) (@xag _ _ _ _ _ _ _ Xaf (@xag _ _ _ _ _ _ _ Xaf (pv 0) (pv 2) (fun _ _=>rfl)) (pv 5) (fun _ _=>rfl)) (by rfl) (by first | exact .inl rfl | exact .inr rfl | assumption)))))
  (@yad _ _ _ (@xah _ _ _ _ (zae Zag (by rfl) T.n_tuple zal (@zaa _ _ _ _ _ (pv 4) xaa (by rfl))))))))),?_⟩
 exact yaz (b:=yaF) (zad (xad (yag Xan (yaa (yac zag (Zaa 0) (Yac _)) Xaa)) (zab 3))
  (zad (xad (yac xa4 (xas (yaa (Yac _) Xaa)) (yac yaB (Yac _) (Zaa 3))) (zab 4))
  (zad (xad (Zaa 1) (zab 5))
  (zad (YaX (yai (yac ZaW (yac zaz (Zaa 4) (yac yal (yac yaB (Zaa 3) (Zaa 2)) (Zaa 5))) (Yac _))) (zad (xad (Yac _) (YaA (Zaa 4) (yac yal (yac yaB (Zaa 3) (Zaa 2)) (Zaa 5))))
  (xad (yac zag (yac zag (Zaa 0) (Zaa 2)) (Zaa 5)) (zab 5))))
  (Xah (yag Zap (yaa (Zaa 4) Xaa))))))) rfl h
noncomputable def Yap:DSt→Dm Fl :=
 (fSeq (fAsg (fCB gLen (fCons (fOp gIxT (fVar 1) (fC (.int 0))) fNil)) (hName 2))
 (fSeq (fAsg (fCB Yaq (fCons (fVar 1) (fCons (fComp (iRng1F (fCons (fVar 2) fNil)) 1 [0] (hName 0) fTrue (fOp gSub (fCB Yad (fCons (fVar 1) (fCons (fC (.int 7)) fNil))) (fC (.int 3)))) fNil))) (hName 3))
 (fSeq (fFor (iRng1F (fCons (fCB Yad (fCons (fVar 0) (fCons (fC (.int 4)) fNil))) fNil)) (hName 4) (fSeq (fAsg (fCB Yad (fCons (fVar 0) (fCons (fC (.int 2)) fNil))) (hName 5))
 (fAsg (fCB yaH (fCons (fVar 3) (fCons (fCB Yaz (fCons (fVar 1) (fCons (fCB Yad (fCons (fVar 0) (fCons (fVar 2) fNil))) (fCons (fVar 5) fNil)))) (fCons (fOp gSub (fCB Yad (fCons (fVar 0) (fCons (fC (.int 5)) fNil))) (fC (.int 2))) fNil)))) (hName 3))))
 (fRet (fVar 3)))))
noncomputable def Zal:List D→Dm D:=fnF 6 Yap
noncomputable def Yal:Stmt:=top 26
theorem Yah:FnScope ["_law_feed_here","_law_floor_here","_law_many","_law_found","_law_turn","_law_way"] ["_law_feed_here","_law_floor_here"] (defScope Yal):=⟨rfl,rfl,rfl,by decide +kernel,rfl,by decide +kernel,by decide +kernel⟩
theorem xaP {f:Addr} {fd:FuncData} (D:Def K mg "_law_closed_seam" Yal ["_law_feed_here","_law_floor_here"] f fd) (T:Txt mg)  {f_law_rims:Addr} {d_law_rims:FuncData} (D_law_rims:Def K mg "_law_rims" zay ["_law_floor_here","_law_weights"] f_law_rims d_law_rims) (G_law_rims:FnOk P w K mg base CX0 1 f_law_rims d_law_rims ["_law_floor_here","_law_weights"] (spF K 2 Yaq)) {f_law_take:Addr} {d_law_take:FuncData} (D_law_take:Def K mg "_law_take" yaq ["_law_feed_here","_law_many"] f_law_take d_law_take) (G_law_take:FnOk P w K mg base CX0 1 f_law_take d_law_take ["_law_feed_here","_law_many"] (spF K 2 Yad)) {f_law_sum:Addr} {d_law_sum:FuncData} (D_law_sum:Def K mg "_law_sum" ZaH ["_law_one","_law_other","_law_weight"] f_law_sum d_law_sum) (G_law_sum:FnOk P w K mg base CX0 1 f_law_sum d_law_sum ["_law_one","_law_other","_law_weight"] (spF K 3 yaH)) {f_law_along:Addr} {d_law_along:FuncData} (D_law_along:Def K mg "_law_along" xaz ["_law_floor_here","_law_s","_law_way"] f_law_along d_law_along) (G_law_along:FnOk P w K mg base CX0 1 f_law_along d_law_along ["_law_floor_here","_law_s","_law_way"] (spF K 3 Yaz)):FnOk P w K mg base CX0 2 f fd ["_law_feed_here","_law_floor_here"] (spF K 2 Zal):=by
 refine D.F.ok Yah (fun vs H Q E h=>h.1) (fun cdv A outer s H vs Q E hr h=>?_)
 have hu:=hr.units
 have hu1:=Xay hr
 refine ⟨_,(@yab _ _ _ _ _ (@yaf (i:=2) _ _ _ _ _ _ Yah.nd rfl (by first | exact Or.inl rfl | exact Or.inr rfl) (Zaf Xad (by rfl) T.n_len xan (@zaa _ _ _ _ _ (@xag _ _ _ _ _ _ _ Xaf (pv 1) Zac (fun _ _=>rfl)) xaa (by rfl))) (by rfl) (by first | exact .inl rfl | exact .inr rfl | assumption))
  (@yab _ _ _ _ _ (@yaf (i:=3) _ _ _ _ _ _ Yah.nd rfl (by first | exact Or.inl rfl | exact Or.inr rfl) (Yae G_law_rims (hr.mono (by decide)) rfl D_law_rims.m D_law_rims.F.kp D_law_rims.b .nil pass0 (@zaa _ _ _ _ _ (pv 1) (@zaa _ _ _ _ _ (yaP (own:=["_law_k"]) (fr:=["_law_feed_here"]) (js:=[0]) rfl ⟨⟨rfl,by decide +kernel,by decide +kernel,by dsimp only [cxOf,cxComp,Cx.nox,Cx.wish,PyProof.Rows.envOfC,compEnvC,relabel,Env.kindOf];decide +kernel,by decide +kernel⟩,rfl⟩ (Zam rfl T.n_range (@zaa _ _ _ _ _ (pv 2) xaa (by rfl))) (fun _ _ _ _ _=>(xaf (i:=0) (show ((["_law_k"]:List Str) ++ (["_law_feed_here"]:List Str)).Nodup by decide +kernel) rfl (by first | exact Or.inl rfl | exact Or.inr rfl))) (fun _ _ _ _ _=>ZaV) (fun _ _ _ _ _=>(Yaf YaY (Yae G_law_take (hr.mono (by decide)) rfl D_law_take.m D_law_take.F.kp D_law_take.b .nil pass0 (@zaa _ _ _ _ _ (pv 1) (@zaa _ _ _ _ _ Zac xaa (by rfl)) (by rfl))) Zac))) xaa (by rfl)) (by rfl))) (by rfl) (by first | exact .inl rfl | exact .inr rfl | assumption))
  (@yab _ _ _ _ _ (@Xas _ _ _ _ _ _ _ _ PassesOwn.never rfl (Zam rfl T.n_range (@zaa _ _ _ _ _ (Yae G_law_take (hr.mono (by decide)) rfl D_law_take.m D_law_take.F.kp D_law_take.b .nil pass0 (@zaa _ _ _ _ _ (pv 0) (@zaa _ _ _ _ _ Zac xaa (by rfl)) (by rfl))) xaa (by rfl))) (xaf (i:=4) Yah.nd rfl (by first | exact Or.inl rfl | exact Or.inr rfl)) (@yab _ _ _ _ _ (@yaf (i:=5) _ _ _ _ _ _ Yah.nd rfl (by first | exact Or.inl rfl | exact Or.inr rfl) (Yae G_law_take (hr.mono (by decide)) rfl D_law_take.m D_law_take.F.kp D_law_take.b .nil pass0 (@zaa _ _ _ _ _ (pv 0) (@zaa _ _ _ _ _ Zac xaa (by rfl)) (by rfl))) (by rfl) (by first | exact .inl rfl | exact .inr rfl | assumption))
  (@yad _ _ _ (@yaf (i:=3) _ _ _ _ _ _ Yah.nd rfl (by first | exact Or.inl rfl | exact Or.inr rfl) (Yae G_law_sum (hr.mono (by decide)) rfl D_law_sum.m D_law_sum.F.kp D_law_sum.b .nil pass0 (@zaa _ _ _ _ _ (pv 3) (@zaa _ _ _ _ _ (Yae G_law_along (hr.mono (by decide)) rfl D_law_along.m D_law_along.F.kp D_law_along.b .nil pass0 (@zaa _ _ _ _ _ (pv 1) (@zaa _ _ _ _ _ (Yae G_law_take (hr.mono (by decide)) rfl D_law_take.m D_law_take.F.kp D_law_take.b .nil pass0 (@zaa _ _ _ _ _ (pv 0) (@zaa _ _ _ _ _ (pv 2) xaa (by rfl)) (by rfl))) (@zaa _ _ _ _ _ (pv 5) xaa (by rfl)) (by rfl)) (by rfl))) (@zaa _ _ _ _ _ (Yaf YaY (Yae G_law_take (hr.mono (by decide)) rfl D_law_take.m D_law_take.F.kp D_law_take.b .nil pass0 (@zaa _ _ _ _ _ (pv 0) (@zaa _ _ _ _ _ Zac xaa (by rfl)) (by rfl))) Zac) xaa (by rfl)) (by rfl)) (by rfl))) (by rfl) (by first | exact .inl rfl | exact .inr rfl | assumption)))) (by intro _;rfl))
  (@yad _ _ _ (@xah _ _ _ _ (pv 3)))))),?_⟩
 exact yaz (b:=Yap) (zad (xad (yag Xan (yaa (yac zag (Zaa 1) (Yac _)) Xaa)) (zab 2))
  (zad (xad (xae (F:=Yaq) (yaa (Zaa 1) (yaa (yaD (xar (yaa (Zaa 2) Xaa)) (zab 0) zaM (yac za0 (xae (F:=Yad) (yaa (Zaa 1) (yaa (Yac _) Xaa)) (Zab (Zab (fun _ _ _ _ h=>Xae h)))) (Yac _))) Xaa)) (Zab (Zab (fun _ _ _ _ h=>Xae h)))) (zab 3))
  (zad (zat (xar (yaa (xae (F:=Yad) (yaa (Zaa 0) (yaa (Yac _) Xaa)) (Zab (Zab (fun _ _ _ _ h=>Xae h)))) Xaa)) (zab 4) (zad (xad (xae (F:=Yad) (yaa (Zaa 0) (yaa (Yac _) Xaa)) (Zab (Zab (fun _ _ _ _ h=>Xae h)))) (zab 5))
  (xad (xae (F:=yaH) (yaa (Zaa 3) (yaa (xae (F:=Yaz) (yaa (Zaa 1) (yaa (xae (F:=Yad) (yaa (Zaa 0) (yaa (Zaa 2) Xaa)) (Zab (Zab (fun _ _ _ _ h=>Xae h)))) (yaa (Zaa 5) Xaa))) (Zab (Zab (Zab (fun _ _ _ _ h=>Xae h))))) (yaa (yac za0 (xae (F:=Yad) (yaa (Zaa 0) (yaa (Yac _) Xaa)) (Zab (Zab (fun _ _ _ _ h=>Xae h)))) (Yac _)) Xaa))) (Zab (Zab (Zab (fun _ _ _ _ h=>Xae h))))) (zab 3))))
  (Xah (Zaa 3))))) rfl h
noncomputable def ZaF:DSt→Dm Fl :=
 (fSeq (fPar 1 2 (fCons (fCB Yad (fCons (fVar 0) (fCons (fC (.int 16)) fNil))) (fCons (fOp gIxL (fLst (fCons (fC (.int 1)) (fCons (fOp gSub (fC (.int 0)) (fC (.int 1))) (fCons (fOp gAdd (fC (.int 1)) (fCB Yad (fCons (fVar 0) (fCons (fC (.int 5)) fNil)))) fNil)))) (fCB Yad (fCons (fVar 0) (fCons (fC (.int 3)) fNil)))) fNil)))
 (fSeq (fAsg (fCB Zaq (fCons (fVar 0) (fCons (fOp gAdd (fC (.int 1)) (fCB Yad (fCons (fVar 0) (fCons (fC (.int 8)) fNil)))) fNil))) (hName 3))
 (fSeq (fAsg (fOp gMul (fC (.int 2)) (fCB gLen (fCons (fOp gIxT (fVar 3) (fC (.int 0))) fNil))) (hName 4))
 (fSeq (fAsg (fCB Zal (fCons (fVar 0) (fCons (fVar 3) fNil))) (hName 5))
 (fSeq (fAsg (fOp gMod (fVar 1) (fVar 4)) (hName 1))
 (fSeq (fAsg (fOp gCatT (fOp gCatT (fSl gSlT (fVar 5) fNoPart (fPart (fVar 1))) (fTup (fCons (fOp gAdd (fOp gIxT (fVar 5) (fVar 1)) (fVar 2)) fNil))) (fSl gSlT (fVar 5) (fPart (fOp gAdd (fVar 1) (fC (.int 1)))) fNoPart)) (hName 6))
 (fSeq (fAsg (fLst (fCons (fVar 5) (fCons (fVar 6) (fCons (fCB gTuple (fCons (fComp (iRng1F (fCons (fVar 4) fNil)) 1 [0] (hName 0) fTrue (fOp gSub (fCB Yad (fCons (fVar 1) (fCons (fC (.int 2001)) fNil))) (fC (.int 1000)))) fNil)) fNil)))) (hName 7))
 (fRet (fLst (fCons (fTup (fCons (fVar 3) (fCons (fVar 7) fNil))) (fCons (fTup (fCons (fCB Zaq (fCons (fVar 0) (fCons (fOp gFdiv (fVar 4) (fC (.int 2))) fNil))) (fCons (fVar 7) fNil))) fNil)))))))))))
noncomputable def Xaz:List D→Dm D:=fnF 8 ZaF
noncomputable def zaA:Stmt:=top 30
theorem xal:FnScope ["_law_feed_here","_law_place","_law_by","_law_floor_here","_law_many","_law_seam","_law_other","_law_seams"] ["_law_feed_here"] (defScope zaA):=⟨rfl,rfl,rfl,by decide +kernel,rfl,by decide +kernel,by decide +kernel⟩
theorem Zba {f:Addr} {fd:FuncData} (D:Def K mg "_law_drawn" zaA ["_law_feed_here"] f fd) (T:Txt mg)  {f_law_floor:Addr} {d_law_floor:FuncData} (D_law_floor:Def K mg "_law_floor" Zaz ["_law_feed_here","_law_n"] f_law_floor d_law_floor) (G_law_floor:FnOk P w K mg base CX0 3 f_law_floor d_law_floor ["_law_feed_here","_law_n"] (spF K 2 Zaq)) {f_law_closed_seam:Addr} {d_law_closed_seam:FuncData} (D_law_closed_seam:Def K mg "_law_closed_seam" Yal ["_law_feed_here","_law_floor_here"] f_law_closed_seam d_law_closed_seam) (G_law_closed_seam:FnOk P w K mg base CX0 2 f_law_closed_seam d_law_closed_seam ["_law_feed_here","_law_floor_here"] (spF K 2 Zal)) {f_law_take:Addr} {d_law_take:FuncData} (D_law_take:Def K mg "_law_take" yaq ["_law_feed_here","_law_many"] f_law_take d_law_take) (G_law_take:FnOk P w K mg base CX0 1 f_law_take d_law_take ["_law_feed_here","_law_many"] (spF K 2 Yad)):FnOk P w K mg base CX0 4 f fd ["_law_feed_here"] (spF K 1 Xaz):=by
 refine D.F.ok xal (fun vs H Q E h=>h.1) (fun cdv A outer s H vs Q E hr h=>?_)
 have hu:=hr.units
 have hu1:=Xay hr
 refine ⟨_,(@yab _ _ _ _ _ (zbm (i:=1) (j:=2) rfl xal.nd rfl rfl (by decide) rfl rfl (@zaa _ _ _ _ _ (Yae G_law_take (hr.mono (by decide)) rfl D_law_take.m D_law_take.F.kp D_law_take.b .nil pass0 (@zaa _ _ _ _ _ (pv 0) (@zaa _ _ _ _ _ Zac xaa (by rfl)) (by rfl))) (@zaa _ _ _ _ _ (@xag _ _ _ _ _ _ _ xap (@Yas _ _ _ _ (@zaa _ _ _ _ _ Zac (@zaa _ _ _ _ _ (Yaf YaY Zac Zac) (@zaa _ _ _ _ _ (Yaf Xak Zac (Yae G_law_take (hr.mono (by decide)) rfl D_law_take.m D_law_take.F.kp D_law_take.b .nil pass0 (@zaa _ _ _ _ _ (pv 0) (@zaa _ _ _ _ _ Zac xaa (by rfl)) (by rfl)))) xaa (by rfl)) (by rfl)) (by rfl))) (Yae G_law_take (hr.mono (by decide)) rfl D_law_take.m D_law_take.F.kp D_law_take.b .nil pass0 (@zaa _ _ _ _ _ (pv 0) (@zaa _ _ _ _ _ Zac xaa (by rfl)) (by rfl))) (fun _ _=>rfl)) xaa (by rfl)) (by rfl)) rfl)
  (@yab _ _ _ _ _ (@yaf (i:=3) _ _ _ _ _ _ xal.nd rfl (by first | exact Or.inl rfl | exact Or.inr rfl) (Yae G_law_floor (hr.mono (by decide)) rfl D_law_floor.m D_law_floor.F.kp D_law_floor.b .nil pass0 (@zaa _ _ _ _ _ (pv 0) (@zaa _ _ _ _ _ (Yaf Xak Zac (Yae G_law_take (hr.mono (by decide)) rfl D_law_take.m D_law_take.F.kp D_law_take.b .nil pass0 (@zaa _ _ _ _ _ (pv 0) (@zaa _ _ _ _ _ Zac xaa (by rfl)) (by rfl)))) xaa (by rfl)) (by rfl))) (by rfl) (by first | exact .inl rfl | exact .inr rfl | assumption))
  (@yab _ _ _ _ _ (@yaf (i:=4) _ _ _ _ _ _ xal.nd rfl (by first | exact Or.inl rfl | exact Or.inr rfl) (Yaf XaA Zac (Zaf Xad (by rfl) T.n_len xan (@zaa _ _ _ _ _ (@xag _ _ _ _ _ _ _ Xaf (pv 3) Zac (fun _ _=>rfl)) xaa (by rfl)))) (by rfl) (by first | exact .inl rfl | exact .inr rfl | assumption))
  (@yab _ _ _ _ _ (@yaf (i:=5) _ _ _ _ _ _ xal.nd rfl (by first | exact Or.inl rfl | exact Or.inr rfl) (Yae G_law_closed_seam (hr.mono (by decide)) rfl D_law_closed_seam.m D_law_closed_seam.F.kp D_law_closed_seam.b .nil pass0 (@zaa _ _ _ _ _ (pv 0) (@zaa _ _ _ _ _ (pv 3) xaa (by rfl)) (by rfl))) (by rfl) (by first | exact .inl rfl | exact .inr rfl | assumption))
  (@yab _ _ _ _ _ (@yaf (i:=1) _ _ _ _ _ _ xal.nd rfl (by first | exact Or.inl rfl | exact Or.inr rfl) (Yaf zaQ (pv 1) (pv 4)) (by rfl) (by first | exact .inl rfl | exact .inr rfl | assumption))
  (@yab _ _ _ _ _ (@yaf (i:=6) _ _ _ _ _ _ xal.nd rfl (by first | exact Or.inl rfl | exact Or.inr rfl) (Yaf Za7 (Yaf Za7 (yaQ xbA (pv 5) xaY (XaY (pv 1))) (@XaC _ _ _ _ _ (@zaa _ _ _ _ _ (Yaf Xak (@xag _ _ _ _ _ _ _ Xaf (pv 5) (pv 1) (fun _ _=>rfl)) (pv 2)) xaa (by rfl)))) (yaQ xbA (pv 5) (XaY (Yaf Xak (pv 1) Zac)) xaY)) (by rfl) (by first | exact .inl rfl | exact .inr rfl | assumption))
  (@yab _ _ _ _ _ (@yaf (i:=7) _ _ _ _ _ _ xal.nd rfl (by first | exact Or.inl rfl | exact Or.inr rfl) (@Yas _ _ _ _ (@zaa _ _ _ _ _ (pv 5) (@zaa _ _ _ _ _ (pv 6) (@zaa _ _ _ _ _ (zae Zag (by rfl) T.n_tuple zal (@zaa _ _ _ _ _ (yaP (own:=["_law_k"]) (fr:=["_law_feed_here"]) (js:=[0]) rfl ⟨⟨rfl,by decide +kernel,by decide +kernel,by dsimp only [cxOf,cxComp,Cx.nox,Cx.wish,PyProof.Rows.envOfC,compEnvC,relabel,Env.kindOf];decide +kernel,by decide +kernel⟩,rfl⟩ (Zam rfl T.n_range (@zaa _ _ _ _ _ (pv 4) xaa (by rfl))) (fun _ _ _ _ _=>(xaf (i:=0) (show ((["_law_k"]:List Str) ++ (["_law_feed_here"]:List Str)).Nodup by decide +kernel) rfl (by first | exact Or.inl rfl | exact Or.inr rfl))) (fun _ _ _ _ _=>ZaV) (fun _ _ _ _ _=>(Yaf YaY (Yae G_law_take (hr.mono (by decide)) rfl D_law_take.m D_law_take.F.kp D_law_take.b .nil pass0 (@zaa _ _ _ _ _ (pv 1) (@zaa _ _ _ _ _ Zac xaa (by rfl)) (by rfl))) Zac))) xaa (by rfl))) xaa (by rfl)) (by rfl)) (by rfl))) (by rfl) (by first | exact .inl rfl | exact .inr rfl | assumption))
  (@yad _ _ _ (@xah _ _ _ _ (@Yas _ _ _ _ (@zaa _ _ _ _ _ (@XaC _ _ _ _ _ (@zaa _ _ _ _ _ (pv 3) (@zaa _ _ _ _ _ (pv 7) xaa (by rfl)) (by rfl))) (@zaa _ _ _ _ _ (@XaC _ _ _ _ _ (@zaa _ _ _ _ _ (Yae G_law_floor (hr.mono (by decide)) rfl D_law_floor.m D_law_floor.F.kp D_law_floor.b .nil pass0 (@zaa _ _ _ _ _ (pv 0) (@zaa _ _ _ _ _ (Yaf Xbg (pv 4) Zac) xaa (by rfl)) (by rfl))) (@zaa _ _ _ _ _ (pv 7) xaa (by rfl)) (by rfl))) xaa (by rfl)) (by rfl)))))))))))),?_⟩
 exact yaz (b:=ZaF) (zad (ybo (yaa (xae (F:=Yad) (yaa (Zaa 0) (yaa (Yac _) Xaa)) (Zab (Zab (fun _ _ _ _ h=>Xae h)))) (yaa (yac zaz (xas (yaa (Yac _) (yaa (yac za0 (Yac _) (Yac _)) (yaa (yac yal (Yac _) (xae (F:=Yad) (yaa (Zaa 0) (yaa (Yac _) Xaa)) (Zab (Zab (fun _ _ _ _ h=>Xae h))))) Xaa)))) (xae (F:=Yad) (yaa (Zaa 0) (yaa (Yac _) Xaa)) (Zab (Zab (fun _ _ _ _ h=>Xae h))))) Xaa)))
  (zad (xad (xae (F:=Zaq) (yaa (Zaa 0) (yaa (yac yal (Yac _) (xae (F:=Yad) (yaa (Zaa 0) (yaa (Yac _) Xaa)) (Zab (Zab (fun _ _ _ _ h=>Xae h))))) Xaa)) (Zab (Zab (fun _ _ _ _ h=>Xae h)))) (zab 3))
  (zad (xad (yac yaB (Yac _) (yag Xan (yaa (yac zag (Zaa 3) (Yac _)) Xaa))) (zab 4))
  (zad (xad (xae (F:=Zal) (yaa (Zaa 0) (yaa (Zaa 3) Xaa)) (Zab (Zab (fun _ _ _ _ h=>Xae h)))) (zab 5))
  (zad (xad (yac XaQ (Zaa 1) (Zaa 4)) (zab 1))
  (zad (xad (yac ybj (yac ybj (ZbD xbX (Zaa 5) XaL (XaZ (Zaa 1))) (zaD (yaa (yac yal (yac zag (Zaa 5) (Zaa 1)) (Zaa 2)) Xaa))) (ZbD xbX (Zaa 5) (XaZ (yac yal (Zaa 1) (Yac _))) XaL)) (zab 6))
  (zad (xad (xas (yaa (Zaa 5) (yaa (Zaa 6) (yaa (yag Zap (yaa (yaD (xar (yaa (Zaa 4) Xaa)) (zab 0) zaM (yac za0 (xae (F:=Yad) (yaa (Zaa 1) (yaa (Yac _) Xaa)) (Zab (Zab (fun _ _ _ _ h=>Xae h)))) (Yac _))) Xaa)) Xaa)))) (zab 7))
  (Xah (xas (yaa (zaD (yaa (Zaa 3) (yaa (Zaa 7) Xaa))) (yaa (zaD (yaa (xae (F:=Zaq) (yaa (Zaa 0) (yaa (yac zbj (Zaa 4) (Yac _)) Xaa)) (Zab (Zab (fun _ _ _ _ h=>Xae h)))) (yaa (Zaa 7) Xaa))) Xaa))))))))))) rfl h
noncomputable def ZaJ:DSt→Dm Fl :=
 (fSeq (fAsg (fOp gAdd (fOp gMul (fC (.int 7901)) (fVar 1)) (fC (.int 24697))) (hName 2))
 (fSeq (fIf (fTest (fOp gLt (fVar 1) (fCB gLen (fCons (fVar 0) fNil)))) (fAsg (fOp gIxL (fVar 0) (fVar 1)) (hName 2)) (fIf (fTest (fOp gGt (fCB gLen (fCons (fVar 0) fNil)) (fC (.int 0)))) (fAsg (fOp gAdd (fOp gMul (fOp gMod (fOp gIxL (fVar 0) (fOp gMod (fVar 1) (fCB gLen (fCons (fVar 0) fNil)))) (fC (.int 2147483629))) (fC (.int 31))) (fOp gMul (fC (.int 7901)) (fVar 1))) (hName 2)) fNext))
 (fSeq (fAsg (fC (.int 0)) (hName 3))
 (fSeq (fIf (fTest (fOp gGe (fVar 2) (fOp gPow (fC (.int 10)) (fC (.int 18))))) (fAsg (fVar 2) (hName 3)) fNext)
 (fRet (fLst (fCons (fVar 3) (fCons (fOp gAdd (fOp gMod (fOp gPow (fOp gAdd (fOp gMul (fOp gMod (fVar 2) (fC (.int 2147483629))) (fC (.int 48271))) (fOp gMul (fC (.int 40692)) (fVar 1))) (fC (.int 5))) (fC (.int 2147483629))) (fC (.int 1))) fNil))))))))
noncomputable def XaD:List D→Dm D:=fnF 4 ZaJ
noncomputable def zaE:Stmt:=top 17
theorem yav:FnScope ["_law_script","_law_k","_law_cell","_law_own"] ["_law_script","_law_k"] (defScope zaE):=⟨rfl,rfl,rfl,by decide +kernel,rfl,by decide +kernel,by decide +kernel⟩
theorem xbf {f:Addr} {fd:FuncData} (D:Def K mg "_law_feed" zaE ["_law_script","_law_k"] f fd) (T:Txt mg)  :FnOk P w K mg base CX0 1 f fd ["_law_script","_law_k"] (spF K 2 XaD):=by
 refine D.F.ok yav (fun vs H Q E h=>h.1) (fun cdv A outer s H vs Q E hr h=>?_)
 have hu:=hr.units
 have hu1:=Xay hr
 refine ⟨_,(@yab _ _ _ _ _ (@yaf (i:=2) _ _ _ _ _ _ yav.nd rfl (by first | exact Or.inl rfl | exact Or.inr rfl) (Yaf Xak (Yaf XaA Zac (pv 1)) Zac) (by rfl) (by first | exact .inl rfl | exact .inr rfl | assumption))
  (@yab _ _ _ _ _ (@yaI _ _ _ _ _ _ _ _ (Yai op_lt (pv 1) (Zaf Xad (by rfl) T.n_len xan (@zaa _ _ _ _ _ (pv 0) xaa (by rfl))) (nomark _)) (@yad _ _ _ (@yaf (i:=2) _ _ _ _ _ _ yav.nd rfl (by first | exact Or.inl rfl | exact Or.inr rfl) (@xag _ _ _ _ _ _ _ xap (pv 0) (pv 1) (fun _ _=>rfl)) (by rfl) (by first | exact .inl rfl | exact .inr rfl | assumption))) (@yad _ _ _ (@yaI _ _ _ _ _ _ _ _ (Yai op_gt (Zaf Xad (by rfl) T.n_len xan (@zaa _ _ _ _ _ (pv 0) xaa (by rfl))) Zac (nomark _)) (@yad _ _ _ (@yaf (i:=2) _ _ _ _ _ _ yav.nd rfl (by first | exact Or.inl rfl | exact Or.inr rfl) (Yaf Xak (Yaf XaA (Yaf zaQ (@xag _ _ _ _ _ _ _ xap (pv 0) (Yaf zaQ (pv 1) (Zaf Xad (by rfl) T.n_len xan (@zaa _ _ _ _ _ (pv 0) xaa (by rfl)))) (fun _ _=>rfl)) Zac) Zac) (Yaf XaA Zac (pv 1))) (by rfl) (by first | exact .inl rfl | exact .inr rfl | assumption))) Xao)))
  (@yab _ _ _ _ _ (@yaf (i:=3) _ _ _ _ _ _ yav.nd rfl (by first | exact Or.inl rfl | exact Or.inr rfl) Zac (by rfl) (by first | exact .inl rfl | exact .inr rfl | assumption))
  (@yab _ _ _ _ _ (@yaI _ _ _ _ _ _ _ _ (Yai op_ge (pv 2) (Yaf YbV Zac Zac) (nomark _)) (@yad _ _ _ (@yaf (i:=3) _ _ _ _ _ _ yav.nd rfl (by first | exact Or.inl rfl | exact Or.inr rfl) (pv 2) (by rfl) (by first | exact .inl rfl | exact .inr rfl | assumption))) Xao)
  (@yad _ _ _ (@xah _ _ _ _ (@Yas _ _ _ _ (@zaa _ _ _ _ _ (pv 3) (@zaa _ _ _ _ _ (Yaf Xak (Yaf zaQ (Yaf YbV (Yaf Xak (Yaf XaA (Yaf zaQ (pv 2) Zac) Zac) (Yaf XaA Zac (pv 1))) Zac) Zac) Zac) xaa (by rfl)) (by rfl))))))))),?_⟩
 exact yaz (b:=ZaJ) (zad (xad (yac yal (yac yaB (Yac _) (Zaa 1)) (Yac _)) (zab 2))
  (zad (zaw (yai (yac so_lt (Zaa 1) (yag Xan (yaa (Zaa 0) Xaa)))) (xad (yac zaz (Zaa 0) (Zaa 1)) (zab 2)) (zaw (yai (yac so_gt (yag Xan (yaa (Zaa 0) Xaa)) (Yac _))) (xad (yac yal (yac yaB (yac XaQ (yac zaz (Zaa 0) (yac XaQ (Zaa 1) (yag Xan (yaa (Zaa 0) Xaa)))) (Yac _)) (Yac _)) (yac yaB (Yac _) (Zaa 1))) (zab 2)) zap))
  (zad (xad (Yac _) (zab 3))
  (zad (zaw (yai (yac so_ge (Zaa 2) (yac ZbX (Yac _) (Yac _)))) (xad (Zaa 2) (zab 3)) zap)
  (Xah (xas (yaa (Zaa 3) (yaa (yac yal (yac XaQ (yac ZbX (yac yal (yac yaB (yac XaQ (Zaa 2) (Yac _)) (Yac _)) (yac yaB (Yac _) (Zaa 1))) (Yac _)) (Yac _)) (Yac _)) Xaa)))))))) rfl h
noncomputable def Xar (RR:List D→Dm D):DSt→Dm Fl :=
 (fSeq (fIf (fTest (fCB gIsA (fCons (fVar 1) (fCons (fTup (fCons (fC (.ty "list")) (fCons (fC (.ty "tuple")) fNil))) fNil)))) (fSeq (fIf (fOr (fTest (fOp (gEq true) (fCB gIsA (fCons (fVar 0) (fCons (fC (.ty "tuple")) fNil))) (fCB gIsA (fCons (fVar 1) (fCons (fC (.ty "tuple")) fNil))))) (fTest (fOp (gEq true) (fCB gIsA (fCons (fVar 0) (fCons (fC (.ty "list")) fNil))) (fCB gIsA (fCons (fVar 1) (fCons (fC (.ty "list")) fNil)))))) (fRet (fC (.bl false))) fNext)
 (fRet (fAndV (fOp (gEq false) (fCB gLen (fCons (fVar 0) fNil)) (fCB gLen (fCons (fVar 1) fNil))) (fCB gAll (fCons (fComp (iZipF (fCons (fVar 0) (fCons (fVar 1) fNil))) 2 [] (hTup 2 (hCons (hName 0) (hCons (hName 1) hNil))) fTrue (fCB RR (fCons (fVar 0) (fCons (fVar 1) fNil)))) fNil))))) fNext)
 (fSeq (fIf (fOr (fTest (fOp (gEq true) (fCB gIsA (fCons (fVar 0) (fCons (fC (.ty "bool")) fNil))) (fCB gIsA (fCons (fVar 1) (fCons (fC (.ty "bool")) fNil))))) (fTest (fOp (gEq true) (fCB gIsA (fCons (fVar 0) (fCons (fC (.ty "str")) fNil))) (fCB gIsA (fCons (fVar 1) (fCons (fC (.ty "str")) fNil)))))) (fRet (fC (.bl false))) fNext)
 (fRet (fOp (gEq false) (fVar 0) (fVar 1)))))
noncomputable def yaj:Nat→List D→Dm D
 | 0=>fun _ _=>none
 | n + 1=>fnF 2 (Xar (yaj n))
noncomputable def Xaq:List D→Dm D:=yaj 6
noncomputable def Zav:Stmt:=top 27
theorem Yba:FnScope ["_law_found","_law_due"] ["_law_found","_law_due"] (defScope Zav):=⟨rfl,rfl,rfl,by decide +kernel,rfl,by decide +kernel,by decide +kernel⟩
theorem ZaO {f:Addr} {fd:FuncData} (D:Def K mg "_law_alike" Zav ["_law_found","_law_due"] f fd) (T:Txt mg)  :∀ nn:Nat,FnOk P w K mg base CX0 (1 + nn) f fd ["_law_found","_law_due"] (spF K 2 (yaj nn))
 | 0=>ZbJ rfl
 | nn + 1=>by
  have Gself:=ZaO D T   nn
  refine D.F.ok Yba (fun vs H Q E h=>h.1) (fun cdv A outer s H vs Q E hr h=>?_)
  have hu:=hr.units
  have hu1:=Xay hr
  refine ⟨_,(@yab _ _ _ _ _ (@yaI _ _ _ _ _ _ _ _ (ybx (Zaf zaC (by rfl) T.n_isinstance xai (@zaa _ _ _ _ _ (pv 1) (@zaa _ _ _ _ _ (@XaC _ _ _ _ _ (@zaa _ _ _ _ _ (XaF (v:=.ty "list") rfl T.n_list xau rfl) (@zaa _ _ _ _ _ (XaF (v:=.ty "tuple") rfl T.n_tuple zal rfl) xaa (by rfl)) (by rfl))) xaa (by rfl)) (by rfl)))) (@yab _ _ _ _ _ (@yaI _ _ _ _ _ _ _ _ (PW.pt (pw_or (Yai Xbr (Zaf zaC (by rfl) T.n_isinstance xai (@zaa _ _ _ _ _ (pv 0) (@zaa _ _ _ _ _ (XaF (v:=.ty "tuple") rfl T.n_tuple zal rfl) xaa (by rfl)) (by rfl))) (Zaf zaC (by rfl) T.n_isinstance xai (@zaa _ _ _ _ _ (pv 1) (@zaa _ _ _ _ _ (XaF (v:=.ty "tuple") rfl T.n_tuple zal rfl) xaa (by rfl)) (by rfl))) (nomark _)) (ybV (Yai Xbr (Zaf zaC (by rfl) T.n_isinstance xai (@zaa _ _ _ _ _ (pv 0) (@zaa _ _ _ _ _ (XaF (v:=.ty "list") rfl T.n_list xau rfl) xaa (by rfl)) (by rfl))) (Zaf zaC (by rfl) T.n_isinstance xai (@zaa _ _ _ _ _ (pv 1) (@zaa _ _ _ _ _ (XaF (v:=.ty "list") rfl T.n_list xau rfl) xaa (by rfl)) (by rfl))) (nomark _))))) (@yad _ _ _ (@xah _ _ _ _ Zbr)) Xao)
  (@yad _ _ _ (@xah _ _ _ _ (pe_and (zaT yaW (Zaf Xad (by rfl) T.n_len xan (@zaa _ _ _ _ _ (pv 0) xaa (by rfl))) (Zaf Xad (by rfl) T.n_len xan (@zaa _ _ _ _ _ (pv 1) xaa (by rfl))) (nomark _)) (pe_one (Zaf (ybe rfl) (by rfl) T.n_all xbW (@zaa _ _ _ _ _ (yaP (own:=["_law_one","_law_other"]) (fr:=[]) (js:=[]) rfl ⟨⟨rfl,by decide +kernel,by decide +kernel,by dsimp only [cxOf,cxComp,Cx.nox,Cx.wish,PyProof.Rows.envOfC,compEnvC,relabel,Env.kindOf];decide +kernel,by decide +kernel⟩,rfl⟩ (XbB rfl T.n_zip (@zaa _ _ _ _ _ (pv 0) (@zaa _ _ _ _ _ (pv 1) xaa (by rfl)) (by rfl))) (fun _ _ _ _ _=>(YbB (K:=K) (n:=2) rfl rfl (zak (xaf (i:=0) (show ((["_law_one","_law_other"]:List Str) ++ ([]:List Str)).Nodup by decide +kernel) rfl (by first | exact Or.inl rfl | exact Or.inr rfl)) (zak (xaf (i:=1) (show ((["_law_one","_law_other"]:List Str) ++ ([]:List Str)).Nodup by decide +kernel) rfl (by first | exact Or.inl rfl | exact Or.inr rfl)) ZaI)))) (fun _ _ _ _ _=>ZaV) (fun _ _ _ _ _=>(Yae Gself (hr.mono (by first | exact Nat.le_refl _ | omega)) rfl D.m D.F.kp D.b .nil pass0 (@zaa _ _ _ _ _ (pv 0) (@zaa _ _ _ _ _ (pv 1) xaa (by rfl)) (by rfl))))) xaa (by rfl)))))))) Xao)
  (@yab _ _ _ _ _ (@yaI _ _ _ _ _ _ _ _ (PW.pt (pw_or (Yai Xbr (Zaf zaC (by rfl) T.n_isinstance xai (@zaa _ _ _ _ _ (pv 0) (@zaa _ _ _ _ _ (XaF (v:=.ty "bool") rfl T.n_bool YbA rfl) xaa (by rfl)) (by rfl))) (Zaf zaC (by rfl) T.n_isinstance xai (@zaa _ _ _ _ _ (pv 1) (@zaa _ _ _ _ _ (XaF (v:=.ty "bool") rfl T.n_bool YbA rfl) xaa (by rfl)) (by rfl))) (nomark _)) (ybV (Yai Xbr (Zaf zaC (by rfl) T.n_isinstance xai (@zaa _ _ _ _ _ (pv 0) (@zaa _ _ _ _ _ (XaF (v:=.ty "str") rfl T.n_str YbW rfl) xaa (by rfl)) (by rfl))) (Zaf zaC (by rfl) T.n_isinstance xai (@zaa _ _ _ _ _ (pv 1) (@zaa _ _ _ _ _ (XaF (v:=.ty "str") rfl T.n_str YbW rfl) xaa (by rfl)) (by rfl))) (nomark _))))) (@yad _ _ _ (@xah _ _ _ _ Zbr)) Xao)
  (@yad _ _ _ (@xah _ _ _ _ (zaT yaW (pv 0) (pv 1) (nomark _)))))),?_⟩
  exact yaz (b:=Xar (yaj nn)) (zad (zaw (xbP (yag YaR (yaa (Zaa 1) (yaa (zaD (yaa (ya2 _) (yaa (ya2 _) Xaa))) Xaa)))) (zad (zaw (so_or (yai (yac xbu (yag YaR (yaa (Zaa 0) (yaa (ya2 _) Xaa))) (yag YaR (yaa (Zaa 1) (yaa (ya2 _) Xaa))))) (yai (yac xbu (yag YaR (yaa (Zaa 0) (yaa (ya2 _) Xaa))) (yag YaR (yaa (Zaa 1) (yaa (ya2 _) Xaa)))))) (Xah (ybu _)) zap)
  (Xah (Zb4 (yac ZaW (yag Xan (yaa (Zaa 0) Xaa)) (yag Xan (yaa (Zaa 1) Xaa))) (yag YbY (yaa (yaD (xbI (yaa (Zaa 0) (yaa (Zaa 1) Xaa))) (XaI (yak (zab 0) (yak (zab 1) xaI))) zaM (xae (F:=yaj nn) (yaa (Zaa 0) (yaa (Zaa 1) Xaa)) (Zab (Zab (fun _ _ _ _ h=>Xae h))))) Xaa))))) zap)
  (zad (zaw (so_or (yai (yac xbu (yag YaR (yaa (Zaa 0) (yaa (ya2 _) Xaa))) (yag YaR (yaa (Zaa 1) (yaa (ya2 _) Xaa))))) (yai (yac xbu (yag YaR (yaa (Zaa 0) (yaa (ya2 _) Xaa))) (yag YaR (yaa (Zaa 1) (yaa (ya2 _) Xaa)))))) (Xah (ybu _)) zap)
  (Xah (yac ZaW (Zaa 0) (Zaa 1))))) rfl h
theorem xba {f:Addr} {fd:FuncData} (D:Def K mg "_law_alike" Zav ["_law_found","_law_due"] f fd) (T:Txt mg)  :FnOk P w K mg base CX0 7 f fd ["_law_found","_law_due"] (spF K 2 Xaq):=ZaO D T   6
noncomputable def yaC:DSt→Dm Fl :=
 (fSeq (fAsg (fOp gRep (fLst (fCons (fC (.int 0)) fNil)) (fCB gLen (fCons (fVar 0) fNil))) (hName 1))
 (fSeq (fFor (iEnumF (fCons (fVar 0) fNil)) (hTup 2 (hCons (hName 2) (hCons (hName 3) hNil))) (fAsg (fVar 2) (hSub (fVar 1) (fVar 3))))
 (fRet (fCB gTuple (fCons (fVar 1) fNil)))))
noncomputable def zah:List D→Dm D:=fnF 4 yaC
noncomputable def zas:Stmt:=top 2
theorem Yay:FnScope ["turning","back","number","led"] ["turning"] (defScope zas):=⟨rfl,rfl,rfl,by decide +kernel,rfl,by decide +kernel,by decide +kernel⟩
theorem Ya2 {f:Addr} {fd:FuncData} (D:Def K mg "turned_back" zas ["turning"] f fd) (T:Txt mg)  :FnOk P w K mg base CX0 1 f fd ["turning"] (spF K 1 zah):=by
 refine D.F.ok Yay (fun vs H Q E h=>h.1) (fun cdv A outer s H vs Q E hr h=>?_)
 have hu:=hr.units
 have hu1:=Xay hr
 refine ⟨_,(@yab _ _ _ _ _ (@yaf (i:=1) _ _ _ _ _ _ Yay.nd rfl (by first | exact Or.inl rfl | exact Or.inr rfl) (Yaf Za3 (@Yas _ _ _ _ (@zaa _ _ _ _ _ Zac xaa (by rfl))) (Zaf Xad (by rfl) T.n_len xan (@zaa _ _ _ _ _ (pv 0) xaa (by rfl)))) (by rfl) (by first | exact .inl rfl | exact .inr rfl | assumption))
  (@yab _ _ _ _ _ (@Xas _ _ _ _ _ _ _ _ PassesOwn.never rfl (ZbB rfl T.n_enumerate (@zaa _ _ _ _ _ (pv 0) xaa (by rfl))) (xaU (n:=2) rfl (zak (xaf (i:=2) Yay.nd rfl (by first | exact Or.inl rfl | exact Or.inr rfl)) (zak (xaf (i:=3) Yay.nd rfl (by first | exact Or.inl rfl | exact Or.inr rfl)) ZaI))) (@yad _ _ _ (XaK (pv 2) (yaK (pv 1) (pv 3) xat))) (by intro _;rfl))
  (@yad _ _ _ (@xah _ _ _ _ (zae Zag (by rfl) T.n_tuple zal (@zaa _ _ _ _ _ (pv 1) xaa (by rfl))))))),?_⟩
 exact yaz (b:=yaC) (zad (xad (yac xa4 (xas (yaa (Yac _) Xaa)) (yag Xan (yaa (Zaa 0) Xaa))) (zab 1))
  (zad (zat (Zbo (yaa (Zaa 0) Xaa)) (XaI (yak (zab 2) (yak (zab 3) xaI))) (xad (Zaa 2) (YaA (Zaa 1) (Zaa 3))))
  (Xah (yag Zap (yaa (Zaa 1) Xaa))))) rfl h
noncomputable def xaw:DSt→Dm Fl :=
 (fRet (fDisp (fPCons (fC (.str "r")) (fOp gIxT (fVar 0) (fC (.int 0))) (fPCons (fC (.str "l")) (fCB zah (fCons (fOp gIxT (fVar 0) (fC (.int 0))) fNil)) (fPCons (fC (.str "u")) (fOp gIxT (fVar 0) (fC (.int 1))) (fPCons (fC (.str "d")) (fCB zah (fCons (fOp gIxT (fVar 0) (fC (.int 1))) fNil)) fPNil))))))
noncomputable def zar:List D→Dm D:=fnF 1 xaw
noncomputable def yar:Stmt:=top 9
theorem YaW:FnScope ["floor"] ["floor"] (defScope yar):=⟨rfl,rfl,rfl,by decide +kernel,rfl,by decide +kernel,by decide +kernel⟩
theorem xaW {f:Addr} {fd:FuncData} (D:Def K mg "step_turnings" yar ["floor"] f fd) (T:Txt mg)  {fturned_back:Addr} {dturned_back:FuncData} (Dturned_back:Def K mg "turned_back" zas ["turning"] fturned_back dturned_back) (Gturned_back:FnOk P w K mg base CX0 1 fturned_back dturned_back ["turning"] (spF K 1 zah)):FnOk P w K mg base CX0 2 f fd ["floor"] (spF K 1 zar):=by
 refine D.F.ok YaW (fun vs H Q E h=>h.1) (fun cdv A outer s H vs Q E hr h=>?_)
 have hu:=hr.units
 have hu1:=Xay hr
 refine ⟨_,(@yad _ _ _ (@xah _ _ _ _ (@Yb1 _ _ _ _ _ (@ZaX _ _ _ _ _ _ _ _ _ xaA (@xag _ _ _ _ _ _ _ Xaf (pv 0) Zac (fun _ _=>rfl)) (@ZaX _ _ _ _ _ _ _ _ _ xaA (Yae Gturned_back (hr.mono (by decide)) rfl Dturned_back.m Dturned_back.F.kp Dturned_back.b .nil pass0 (@zaa _ _ _ _ _ (@xag _ _ _ _ _ _ _ Xaf (pv 0) Zac (fun _ _=>rfl)) xaa (by rfl))) (@ZaX _ _ _ _ _ _ _ _ _ xaA (@xag _ _ _ _ _ _ _ Xaf (pv 0) Zac (fun _ _=>rfl)) (@ZaX _ _ _ _ _ _ _ _ _ xaA (Yae Gturned_back (hr.mono (by decide)) rfl Dturned_back.m Dturned_back.F.kp Dturned_back.b .nil pass0 (@zaa _ _ _ _ _ (@xag _ _ _ _ _ _ _ Xaf (pv 0) Zac (fun _ _=>rfl)) xaa (by rfl))) Zb1)))) rfl rfl (by decide) (by decide)))),?_⟩
 exact yaz (b:=xaw) (Xah (yb7 (zaY (zaB _) (yac zag (Zaa 0) (Yac _)) (zaY (zaB _) (xae (F:=zah) (yaa (yac zag (Zaa 0) (Yac _)) Xaa) (Zab (fun _ _ _ _ h=>Xae h))) (zaY (zaB _) (yac zag (Zaa 0) (Yac _)) (zaY (zaB _) (xae (F:=zah) (yaa (yac zag (Zaa 0) (Yac _)) Xaa) (Zab (fun _ _ _ _ h=>Xae h))) Xb6)))))) rfl h
noncomputable def YaJ:DSt→Dm Fl :=
 (fSeq (fAsg (fLst (fCons (fVar 1) fNil)) (hName 2))
 (fSeq (fAsg (fOp gIxT (fVar 0) (fVar 1)) (hName 3))
 (fSeq (fWhile (fTest (fOp (gEq true) (fVar 3) (fVar 1))) (fSeq (fDrop (fBM "list" gAppend (fVar 2) (fCons (fVar 3) fNil)))
 (fAsg (fOp gIxT (fVar 0) (fVar 3)) (hName 3))))
 (fRet (fCB gTuple (fCons (fVar 2) fNil))))))
noncomputable def yaE:List D→Dm D:=fnF 4 YaJ
noncomputable def ZaE:Stmt:=top 3
theorem YaF:FnScope ["turning","first","ring","reached"] ["turning","first"] (defScope ZaE):=⟨rfl,rfl,rfl,by decide +kernel,rfl,by decide +kernel,by decide +kernel⟩
theorem Xbf {f:Addr} {fd:FuncData} (D:Def K mg "ring_from" ZaE ["turning","first"] f fd) (T:Txt mg)  :FnOk P w K mg base CX0 1 f fd ["turning","first"] (spF K 2 yaE):=by
 refine D.F.ok YaF (fun vs H Q E h=>h.1) (fun cdv A outer s H vs Q E hr h=>?_)
 have hu:=hr.units
 have hu1:=Xay hr
 refine ⟨_,(@yab _ _ _ _ _ (@yaf (i:=2) _ _ _ _ _ _ YaF.nd rfl (by first | exact Or.inl rfl | exact Or.inr rfl) (@Yas _ _ _ _ (@zaa _ _ _ _ _ (pv 1) xaa (by rfl))) (by rfl) (by first | exact .inl rfl | exact .inr rfl | assumption))
  (@yab _ _ _ _ _ (@yaf (i:=3) _ _ _ _ _ _ YaF.nd rfl (by first | exact Or.inl rfl | exact Or.inr rfl) (@xag _ _ _ _ _ _ _ Xaf (pv 0) (pv 1) (fun _ _=>rfl)) (by rfl) (by first | exact .inl rfl | exact .inr rfl | assumption))
  (@yab _ _ _ _ _ (yaX PassesOwn.never (Yai Xbr (pv 3) (pv 1) (nomark _)) (@yab _ _ _ _ _ (ya6 (xbs PySem.F.plainAttrs_list PySem.F.slot_list_append PySem.F.type_list_append yaZ (pv 2) (@zaa _ _ _ _ _ (pv 3) xaa (by rfl))))
  (@yad _ _ _ (@yaf (i:=3) _ _ _ _ _ _ YaF.nd rfl (by first | exact Or.inl rfl | exact Or.inr rfl) (@xag _ _ _ _ _ _ _ Xaf (pv 0) (pv 3) (fun _ _=>rfl)) (by rfl) (by first | exact .inl rfl | exact .inr rfl | assumption)))))
  (@yad _ _ _ (@xah _ _ _ _ (zae Zag (by rfl) T.n_tuple zal (@zaa _ _ _ _ _ (pv 2) xaa (by rfl)))))))),?_⟩
 exact yaz (b:=YaJ) (zad (xad (xas (yaa (Zaa 1) Xaa)) (zab 2))
  (zad (xad (yac zag (Zaa 0) (Zaa 1)) (zab 3))
  (zad (YaX (yai (yac xbu (Zaa 3) (Zaa 1))) (zad (Ya8 (Xbu Za0 (Zaa 2) (yaa (Zaa 3) Xaa)))
  (xad (yac zag (Zaa 0) (Zaa 3)) (zab 3))))
  (Xah (yag Zap (yaa (Zaa 2) Xaa)))))) rfl h
noncomputable def XaN:DSt→Dm Fl :=
 (fSeq (fAsg (fLst fNil) (hName 1))
 (fSeq (fAsg fDNew (hName 2))
 (fSeq (fFor (iRng1F (fCons (fCB gLen (fCons (fVar 0) fNil)) fNil)) (hName 3) (fIf (fTest (fDIn true (fVar 3) (fVar 2))) (fSeq (fAsg (fCB yaE (fCons (fVar 0) (fCons (fVar 3) fNil))) (hName 4))
 (fSeq (fDrop (fBM "list" gAppend (fVar 1) (fCons (fVar 4) fNil)))
 (fFor (iTupF (fVar 4)) (hName 5) (fDPut (fVar 2) (fVar 5) (fC (.bl true)))))) fNext))
 (fRet (fCB gTuple (fCons (fVar 1) fNil))))))
noncomputable def YaH:List D→Dm D:=fnF 6 XaN
noncomputable def xaH:Stmt:=top 4
theorem yay:FnScope ["turning","rings","seen","first","ring","number"] ["turning"] (defScope xaH):=⟨rfl,rfl,rfl,by decide +kernel,rfl,by decide +kernel,by decide +kernel⟩
theorem Xbk {f:Addr} {fd:FuncData} (D:Def K mg "rings_of" xaH ["turning"] f fd) (T:Txt mg)  {fring_from:Addr} {dring_from:FuncData} (Dring_from:Def K mg "ring_from" ZaE ["turning","first"] fring_from dring_from) (Gring_from:FnOk P w K mg base CX0 1 fring_from dring_from ["turning","first"] (spF K 2 yaE)):FnOk P w K mg base CX0 2 f fd ["turning"] (spF K 1 YaH):=by
 refine D.F.ok yay (fun vs H Q E h=>h.1) (fun cdv A outer s H vs Q E hr h=>?_)
 have hu:=hr.units
 have hu1:=Xay hr
 refine ⟨_,(@yab _ _ _ _ _ (@yaf (i:=1) _ _ _ _ _ _ yay.nd rfl (by first | exact Or.inl rfl | exact Or.inr rfl) (@Yas _ _ _ _ xaa) (by rfl) (by first | exact .inl rfl | exact .inr rfl | assumption))
  (@yab _ _ _ _ _ (@yaf (i:=2) _ _ _ _ _ _ yay.nd rfl (by first | exact Or.inl rfl | exact Or.inr rfl) Xbm (by rfl) (by first | exact .inl rfl | exact .inr rfl | assumption))
  (@yab _ _ _ _ _ (@Xas _ _ _ _ _ _ _ _ PassesOwn.never rfl (Zam rfl T.n_range (@zaa _ _ _ _ _ (Zaf Xad (by rfl) T.n_len xan (@zaa _ _ _ _ _ (pv 0) xaa (by rfl))) xaa (by rfl))) (xaf (i:=3) yay.nd rfl (by first | exact Or.inl rfl | exact Or.inr rfl)) (@yad _ _ _ (@yaI _ _ _ _ _ _ _ _ (pt_cmp (zbA hu1 (pv 3) (pv 2))) (@yab _ _ _ _ _ (@yaf (i:=4) _ _ _ _ _ _ yay.nd rfl (by first | exact Or.inl rfl | exact Or.inr rfl) (Yae Gring_from (hr.mono (by decide)) rfl Dring_from.m Dring_from.F.kp Dring_from.b .nil pass0 (@zaa _ _ _ _ _ (pv 0) (@zaa _ _ _ _ _ (pv 3) xaa (by rfl)) (by rfl))) (by rfl) (by first | exact .inl rfl | exact .inr rfl | assumption))
  (@yab _ _ _ _ _ (ya6 (xbs PySem.F.plainAttrs_list PySem.F.slot_list_append PySem.F.type_list_append yaZ (pv 1) (@zaa _ _ _ _ _ (pv 4) xaa (by rfl))))
  (@yad _ _ _ (@Xas _ _ _ _ _ _ _ _ PassesOwn.never rfl (ybc (pv 4)) (xaf (i:=5) yay.nd rfl (by first | exact Or.inl rfl | exact Or.inr rfl)) (@yad _ _ _ (Xbh hu1 (pv 2) (pv 5) Zbr rfl)) (by intro _;rfl))))) Xao)) (by intro _;rfl))
  (@yad _ _ _ (@xah _ _ _ _ (zae Zag (by rfl) T.n_tuple zal (@zaa _ _ _ _ _ (pv 1) xaa (by rfl)))))))),?_⟩
 exact yaz (b:=XaN) (zad (xad (xas Xaa) (zab 1))
  (zad (xad YbF (zab 2))
  (zad (zat (xar (yaa (yag Xan (yaa (Zaa 0) Xaa)) Xaa)) (zab 3) (zaw (xbP (xbF (Zaa 3) (Zaa 2))) (zad (xad (xae (F:=yaE) (yaa (Zaa 0) (yaa (Zaa 3) Xaa)) (Zab (Zab (fun _ _ _ _ h=>Xae h)))) (zab 4))
  (zad (Ya8 (Xbu Za0 (Zaa 1) (yaa (Zaa 4) Xaa)))
  (zat (Ya0 (Zaa 4)) (zab 5) (Xbj (Zaa 2) (Zaa 5) (ybu _))))) zap))
  (Xah (yag Zap (yaa (Zaa 1) Xaa)))))) rfl h
noncomputable def zaO:DSt→Dm Fl :=
 (fRet (fCB gTuple (fCons (fComp (iTupF (fVar 0)) 1 [1] (hName 0) fTrue (fOp gIxT (fVar 1) (fVar 0))) fNil)))
noncomputable def yas:List D→Dm D:=fnF 2 zaO
noncomputable def XaH:Stmt:=top 1
theorem zbl:FnScope ["one","other"] ["one","other"] (defScope XaH):=⟨rfl,rfl,rfl,by decide +kernel,rfl,by decide +kernel,by decide +kernel⟩
theorem ybl {f:Addr} {fd:FuncData} (D:Def K mg "followed" XaH ["one","other"] f fd) (T:Txt mg)  :FnOk P w K mg base CX0 1 f fd ["one","other"] (spF K 2 yas):=by
 refine D.F.ok zbl (fun vs H Q E h=>h.1) (fun cdv A outer s H vs Q E hr h=>?_)
 have hu:=hr.units
 have hu1:=Xay hr
 refine ⟨_,(@yad _ _ _ (@xah _ _ _ _ (zae Zag (by rfl) T.n_tuple zal (@zaa _ _ _ _ _ (yaP (own:=["number"]) (fr:=["other"]) (js:=[1]) rfl ⟨⟨rfl,by decide +kernel,by decide +kernel,by dsimp only [cxOf,cxComp,Cx.nox,Cx.wish,PyProof.Rows.envOfC,compEnvC,relabel,Env.kindOf];decide +kernel,by decide +kernel⟩,rfl⟩ (ybc (pv 0)) (fun _ _ _ _ _=>(xaf (i:=0) (show ((["number"]:List Str) ++ (["other"]:List Str)).Nodup by decide +kernel) rfl (by first | exact Or.inl rfl | exact Or.inr rfl))) (fun _ _ _ _ _=>ZaV) (fun _ _ _ _ _=>(@xag _ _ _ _ _ _ _ (Xb1 (K:=K) rfl) (pv 1) (pv 0) (fun _ _=>rfl)))) xaa (by rfl))))),?_⟩
 exact yaz (b:=zaO) (Xah (yag Zap (yaa (yaD (Ya0 (Zaa 0)) (zab 0) zaM (yac zag (Zaa 1) (Zaa 0))) Xaa))) rfl h
noncomputable def Xaw:DSt→Dm Fl :=
 (fSeq (fAsg (fOp gIxT (fVar 0) (fC (.int 0))) (hName 1))
 (fSeq (fAsg (fOp gIxT (fVar 0) (fC (.int 1))) (hName 2))
 (fSeq (fAsg (fCB yas (fCons (fCB zah (fCons (fVar 1) fNil)) (fCons (fCB zah (fCons (fVar 2) fNil)) fNil))) (hName 3))
 (fRet (fCB yas (fCons (fCB yas (fCons (fVar 1) (fCons (fVar 2) fNil))) (fCons (fVar 3) fNil)))))))
noncomputable def Zar:List D→Dm D:=fnF 4 Xaw
noncomputable def Yar:Stmt:=top 6
theorem yau:FnScope ["floor","right","up","back"] ["floor"] (defScope Yar):=⟨rfl,rfl,rfl,by decide +kernel,rfl,by decide +kernel,by decide +kernel⟩
theorem XaW {f:Addr} {fd:FuncData} (D:Def K mg "round_corners" Yar ["floor"] f fd) (T:Txt mg)  {ffollowed:Addr} {dfollowed:FuncData} (Dfollowed:Def K mg "followed" XaH ["one","other"] ffollowed dfollowed) (Gfollowed:FnOk P w K mg base CX0 1 ffollowed dfollowed ["one","other"] (spF K 2 yas)) {fturned_back:Addr} {dturned_back:FuncData} (Dturned_back:Def K mg "turned_back" zas ["turning"] fturned_back dturned_back) (Gturned_back:FnOk P w K mg base CX0 1 fturned_back dturned_back ["turning"] (spF K 1 zah)):FnOk P w K mg base CX0 2 f fd ["floor"] (spF K 1 Zar):=by
 refine D.F.ok yau (fun vs H Q E h=>h.1) (fun cdv A outer s H vs Q E hr h=>?_)
 have hu:=hr.units
 have hu1:=Xay hr
 refine ⟨_,(@yab _ _ _ _ _ (@yaf (i:=1) _ _ _ _ _ _ yau.nd rfl (by first | exact Or.inl rfl | exact Or.inr rfl) (@xag _ _ _ _ _ _ _ Xaf (pv 0) Zac (fun _ _=>rfl)) (by rfl) (by first | exact .inl rfl | exact .inr rfl | assumption))
  (@yab _ _ _ _ _ (@yaf (i:=2) _ _ _ _ _ _ yau.nd rfl (by first | exact Or.inl rfl | exact Or.inr rfl) (@xag _ _ _ _ _ _ _ Xaf (pv 0) Zac (fun _ _=>rfl)) (by rfl) (by first | exact .inl rfl | exact .inr rfl | assumption))
  (@yab _ _ _ _ _ (@yaf (i:=3) _ _ _ _ _ _ yau.nd rfl (by first | exact Or.inl rfl | exact Or.inr rfl) (Yae Gfollowed (hr.mono (by decide)) rfl Dfollowed.m Dfollowed.F.kp Dfollowed.b .nil pass0 (@zaa _ _ _ _ _ (Yae Gturned_back (hr.mono (by decide)) rfl Dturned_back.m Dturned_back.F.kp Dturned_back.b .nil pass0 (@zaa _ _ _ _ _ (pv 1) xaa (by rfl))) (@zaa _ _ _ _ _ (Yae Gturned_back (hr.mono (by decide)) rfl Dturned_back.m Dturned_back.F.kp Dturned_back.b .nil pass0 (@zaa _ _ _ _ _ (pv 2) xaa (by rfl))) xaa (by rfl)) (by rfl))) (by rfl) (by first | exact .inl rfl | exact .inr rfl | assumption))
  (@yad _ _ _ (@xah _ _ _ _ (Yae Gfollowed (hr.mono (by decide)) rfl Dfollowed.m Dfollowed.F.kp Dfollowed.b .nil pass0 (@zaa _ _ _ _ _ (Yae Gfollowed (hr.mono (by decide)) rfl Dfollowed.m Dfollowed.F.kp Dfollowed.b .nil pass0 (@zaa _ _ _ _ _ (pv 1) (@zaa _ _ _ _ _ (pv 2) xaa (by rfl)) (by rfl))) (@zaa _ _ _ _ _ (pv 3) xaa (by rfl)) (by rfl)))))))),?_⟩
 exact yaz (b:=Xaw) (zad (xad (yac zag (Zaa 0) (Yac _)) (zab 1))
  (zad (xad (yac zag (Zaa 0) (Yac _)) (zab 2))
  (zad (xad (xae (F:=yas) (yaa (xae (F:=zah) (yaa (Zaa 1) Xaa) (Zab (fun _ _ _ _ h=>Xae h))) (yaa (xae (F:=zah) (yaa (Zaa 2) Xaa) (Zab (fun _ _ _ _ h=>Xae h))) Xaa)) (Zab (Zab (fun _ _ _ _ h=>Xae h)))) (zab 3))
  (Xah (xae (F:=yas) (yaa (xae (F:=yas) (yaa (Zaa 1) (yaa (Zaa 2) Xaa)) (Zab (Zab (fun _ _ _ _ h=>Xae h)))) (yaa (Zaa 3) Xaa)) (Zab (Zab (fun _ _ _ _ h=>Xae h)))))))) rfl h
noncomputable def xaF:DSt→Dm Fl :=
 (fRet (fCB YaH (fCons (fCB Zar (fCons (fVar 0) fNil)) fNil)))
noncomputable def yaA:List D→Dm D:=fnF 1 xaF
noncomputable def ZaA:Stmt:=top 7
theorem Xba:FnScope ["floor"] ["floor"] (defScope ZaA):=⟨rfl,rfl,rfl,by decide +kernel,rfl,by decide +kernel,by decide +kernel⟩
theorem zbb {f:Addr} {fd:FuncData} (D:Def K mg "corners_of" ZaA ["floor"] f fd) (T:Txt mg)  {frings_of:Addr} {drings_of:FuncData} (Drings_of:Def K mg "rings_of" xaH ["turning"] frings_of drings_of) (Grings_of:FnOk P w K mg base CX0 2 frings_of drings_of ["turning"] (spF K 1 YaH)) {fround_corners:Addr} {dround_corners:FuncData} (Dround_corners:Def K mg "round_corners" Yar ["floor"] fround_corners dround_corners) (Ground_corners:FnOk P w K mg base CX0 2 fround_corners dround_corners ["floor"] (spF K 1 Zar)):FnOk P w K mg base CX0 3 f fd ["floor"] (spF K 1 yaA):=by
 refine D.F.ok Xba (fun vs H Q E h=>h.1) (fun cdv A outer s H vs Q E hr h=>?_)
 have hu:=hr.units
 have hu1:=Xay hr
 refine ⟨_,(@yad _ _ _ (@xah _ _ _ _ (Yae Grings_of (hr.mono (by decide)) rfl Drings_of.m Drings_of.F.kp Drings_of.b .nil pass0 (@zaa _ _ _ _ _ (Yae Ground_corners (hr.mono (by decide)) rfl Dround_corners.m Dround_corners.F.kp Dround_corners.b .nil pass0 (@zaa _ _ _ _ _ (pv 0) xaa (by rfl))) xaa (by rfl))))),?_⟩
 exact yaz (b:=xaF) (Xah (xae (F:=YaH) (yaa (xae (F:=Zar) (yaa (Zaa 0) Xaa) (Zab (fun _ _ _ _ h=>Xae h))) Xaa) (Zab (fun _ _ _ _ h=>Xae h)))) rfl h
noncomputable def Zau:DSt→Dm Fl :=
 (fSeq (fAsg (fOp gRep (fLst (fCons (fC (.int 0)) fNil)) (fCB gLen (fCons (fOp gIxT (fVar 0) (fC (.int 0))) fNil))) (hName 1))
 (fSeq (fFor (iEnumF (fCons (fCB yaA (fCons (fVar 0) fNil)) fNil)) (hTup 2 (hCons (hName 2) (hCons (hName 3) hNil))) (fFor (iTupF (fVar 3)) (hName 4) (fAsg (fVar 2) (hSub (fVar 1) (fVar 4)))))
 (fRet (fCB gTuple (fCons (fVar 1) fNil)))))
noncomputable def zao:List D→Dm D:=fnF 5 Zau
noncomputable def yao:Stmt:=top 14
theorem Yam:FnScope ["floor","numbers","number","ring","s"] ["floor"] (defScope yao):=⟨rfl,rfl,rfl,by decide +kernel,rfl,by decide +kernel,by decide +kernel⟩
theorem ZaU {f:Addr} {fd:FuncData} (D:Def K mg "corner_numbers" yao ["floor"] f fd) (T:Txt mg)  {fcorners_of:Addr} {dcorners_of:FuncData} (Dcorners_of:Def K mg "corners_of" ZaA ["floor"] fcorners_of dcorners_of) (Gcorners_of:FnOk P w K mg base CX0 3 fcorners_of dcorners_of ["floor"] (spF K 1 yaA)):FnOk P w K mg base CX0 4 f fd ["floor"] (spF K 1 zao):=by
 refine D.F.ok Yam (fun vs H Q E h=>h.1) (fun cdv A outer s H vs Q E hr h=>?_)
 have hu:=hr.units
 have hu1:=Xay hr
 refine ⟨_,(@yab _ _ _ _ _ (@yaf (i:=1) _ _ _ _ _ _ Yam.nd rfl (by first | exact Or.inl rfl | exact Or.inr rfl) (Yaf Za3 (@Yas _ _ _ _ (@zaa _ _ _ _ _ Zac xaa (by rfl))) (Zaf Xad (by rfl) T.n_len xan (@zaa _ _ _ _ _ (@xag _ _ _ _ _ _ _ Xaf (pv 0) Zac (fun _ _=>rfl)) xaa (by rfl)))) (by rfl) (by first | exact .inl rfl | exact .inr rfl | assumption))
  (@yab _ _ _ _ _ (@Xas _ _ _ _ _ _ _ _ PassesOwn.never rfl (ZbB rfl T.n_enumerate (@zaa _ _ _ _ _ (Yae Gcorners_of (hr.mono (by decide)) rfl Dcorners_of.m Dcorners_of.F.kp Dcorners_of.b .nil pass0 (@zaa _ _ _ _ _ (pv 0) xaa (by rfl))) xaa (by rfl))) (xaU (n:=2) rfl (zak (xaf (i:=2) Yam.nd rfl (by first | exact Or.inl rfl | exact Or.inr rfl)) (zak (xaf (i:=3) Yam.nd rfl (by first | exact Or.inl rfl | exact Or.inr rfl)) ZaI))) (@yad _ _ _ (@Xas _ _ _ _ _ _ _ _ PassesOwn.never rfl (ybc (pv 3)) (xaf (i:=4) Yam.nd rfl (by first | exact Or.inl rfl | exact Or.inr rfl)) (@yad _ _ _ (XaK (pv 2) (yaK (pv 1) (pv 4) xat))) (by intro _;rfl))) (by intro _;rfl))
  (@yad _ _ _ (@xah _ _ _ _ (zae Zag (by rfl) T.n_tuple zal (@zaa _ _ _ _ _ (pv 1) xaa (by rfl))))))),?_⟩
 exact yaz (b:=Zau) (zad (xad (yac xa4 (xas (yaa (Yac _) Xaa)) (yag Xan (yaa (yac zag (Zaa 0) (Yac _)) Xaa))) (zab 1))
  (zad (zat (Zbo (yaa (xae (F:=yaA) (yaa (Zaa 0) Xaa) (Zab (fun _ _ _ _ h=>Xae h))) Xaa)) (XaI (yak (zab 2) (yak (zab 3) xaI))) (zat (Ya0 (Zaa 3)) (zab 4) (xad (Zaa 2) (YaA (Zaa 1) (Zaa 4)))))
  (Xah (yag Zap (yaa (Zaa 1) Xaa))))) rfl h
noncomputable def xaJ:DSt→Dm Fl :=
 (fSeq (fAsg (fCB zar (fCons (fVar 0) fNil)) (hName 2))
 (fSeq (fAsg (fCB zao (fCons (fVar 0) fNil)) (hName 3))
 (fSeq (fAsg (fOp gRep (fLst (fCons (fC (.int 0)) fNil)) (fCB gLen (fCons (fOp gIxT (fVar 0) (fC (.int 0))) fNil))) (hName 4))
 (fSeq (fFor (iRng1F (fCons (fCB gLen (fCons (fOp gIxT (fVar 0) (fC (.int 0))) fNil)) fNil)) (hName 5) (fSeq (fAsg (fOp gIxT (fDGet (fVar 2) (fC (.str "d"))) (fVar 5)) (hName 6))
 (fSeq (fAsg (fOp gIxT (fVar 3) (fOp gIxT (fDGet (fVar 2) (fC (.str "l"))) (fVar 6))) (hName 7))
 (fSeq (fAsg (fOp gIxT (fVar 3) (fVar 6)) (hName 8))
 (fSeq (fAsg (fOp gIxT (fVar 3) (fOp gIxT (fDGet (fVar 2) (fC (.str "l"))) (fVar 5))) (hName 9))
 (fSeq (fAsg (fOp gSub (fOp gSub (fOp gIxL (fVar 4) (fVar 7)) (fOp gIxT (fVar 1) (fVar 5))) (fOp gIxT (fVar 1) (fOp gAdd (fCB gLen (fCons (fOp gIxT (fVar 0) (fC (.int 0))) fNil)) (fVar 5)))) (hSub (fVar 4) (fVar 7)))
 (fSeq (fAsg (fOp gAdd (fOp gIxL (fVar 4) (fVar 8)) (fOp gIxT (fVar 1) (fVar 5))) (hSub (fVar 4) (fVar 8)))
 (fAsg (fOp gAdd (fOp gIxL (fVar 4) (fVar 9)) (fOp gIxT (fVar 1) (fOp gAdd (fCB gLen (fCons (fOp gIxT (fVar 0) (fC (.int 0))) fNil)) (fVar 5)))) (hSub (fVar 4) (fVar 9))))))))))
 (fRet (fCB gAll (fCons (fComp (iListF (fVar 4)) 1 [] (hName 0) fTrue (fOp (gEq false) (fVar 0) (fC (.int 0)))) fNil)))))))
noncomputable def YaE:List D→Dm D:=fnF 10 xaJ
noncomputable def xaE:Stmt:=top 15
theorem Xal:FnScope ["floor","seam","turnings","upper_right","left_over","s","lower","begin","lower_end","left_end"] ["floor","seam"] (defScope xaE):=⟨rfl,rfl,rfl,by decide +kernel,rfl,by decide +kernel,by decide +kernel⟩
theorem zbg {f:Addr} {fd:FuncData} (D:Def K mg "is_closed" xaE ["floor","seam"] f fd) (T:Txt mg)  {fstep_turnings:Addr} {dstep_turnings:FuncData} (Dstep_turnings:Def K mg "step_turnings" yar ["floor"] fstep_turnings dstep_turnings) (Gstep_turnings:FnOk P w K mg base CX0 2 fstep_turnings dstep_turnings ["floor"] (spF K 1 zar)) {fcorner_numbers:Addr} {dcorner_numbers:FuncData} (Dcorner_numbers:Def K mg "corner_numbers" yao ["floor"] fcorner_numbers dcorner_numbers) (Gcorner_numbers:FnOk P w K mg base CX0 4 fcorner_numbers dcorner_numbers ["floor"] (spF K 1 zao)):FnOk P w K mg base CX0 5 f fd ["floor","seam"] (spF K 2 YaE):=by
 refine D.F.ok Xal (fun vs H Q E h=>h.1) (fun cdv A outer s H vs Q E hr h=>?_)
 have hu:=hr.units
 have hu1:=Xay hr
 refine ⟨_,(@yab _ _ _ _ _ (@yaf (i:=2) _ _ _ _ _ _ Xal.nd rfl (by first | exact Or.inl rfl | exact Or.inr rfl) (Yae Gstep_turnings (hr.mono (by decide)) rfl Dstep_turnings.m Dstep_turnings.F.kp Dstep_turnings.b .nil pass0 (@zaa _ _ _ _ _ (pv 0) xaa (by rfl))) (by rfl) (by first | exact .inl rfl | exact .inr rfl | assumption))
  (@yab _ _ _ _ _ (@yaf (i:=3) _ _ _ _ _ _ Xal.nd rfl (by first | exact Or.inl rfl | exact Or.inr rfl) (Yae Gcorner_numbers (hr.mono (by decide)) rfl Dcorner_numbers.m Dcorner_numbers.F.kp Dcorner_numbers.b .nil pass0 (@zaa _ _ _ _ _ (pv 0) xaa (by rfl))) (by rfl) (by first | exact .inl rfl | exact .inr rfl | assumption))
  (@yab _ _ _ _ _ (@yaf (i:=4) _ _ _ _ _ _ Xal.nd rfl (by first | exact Or.inl rfl | exact Or.inr rfl) (Yaf Za3 (@Yas _ _ _ _ (@zaa _ _ _ _ _ Zac xaa (by rfl))) (Zaf Xad (by rfl) T.n_len xan (@zaa _ _ _ _ _ (@xag _ _ _ _ _ _ _ Xaf (pv 0) Zac (fun _ _=>rfl)) xaa (by rfl)))) (by rfl) (by first | exact .inl rfl | exact .inr rfl | assumption))
  (@yab _ _ _ _ _ (@Xas _ _ _ _ _ _ _ _ PassesOwn.never rfl (Zam rfl T.n_range (@zaa _ _ _ _ _ (Zaf Xad (by rfl) T.n_len xan (@zaa _ _ _ _ _ (@xag _ _ _ _ _ _ _ Xaf (pv 0) Zac (fun _ _=>rfl)) xaa (by rfl))) xaa (by rfl))) (xaf (i:=5) Xal.nd rfl (by first | exact Or.inl rfl | exact Or.inr rfl)) (@yab _ _ _ _ _ (@yaf (i:=6) _ _ _ _ _ _ Xal.nd rfl (by first | exact Or.inl rfl | exact Or.inr rfl) (@xag _ _ _ _ _ _ _ Xaf (xbh hu1 (pv 2) xaA (fun _ _=>rfl)) (pv 5) (fun _ _=>rfl)) (by rfl) (by first | exact .inl rfl | exact .inr rfl | assumption))
  (@yab _ _ _ _ _ (@yaf (i:=7) _ _ _ _ _ _ Xal.nd rfl (by first | exact Or.inl rfl | exact Or.inr rfl) (@xag _ _ _ _ _ _ _ Xaf (pv 3) (@xag _ _ _ _ _ _ _ Xaf (xbh hu1 (pv 2) xaA (fun _ _=>rfl)) (pv 6) (fun _ _=>rfl)) (fun _ _=>rfl)) (by rfl) (by first | exact .inl rfl | exact .inr rfl | assumption))
  (@yab _ _ _ _ _ (@yaf (i:=8) _ _ _ _ _ _ Xal.nd rfl (by first | exact Or.inl rfl | exact Or.inr rfl) (@xag _ _ _ _ _ _ _ Xaf (pv 3) (pv 6) (fun _ _=>rfl)) (by rfl) (by first | exact .inl rfl | exact .inr rfl | assumption))
  (@yab _ _ _ _ _ (@yaf (i:=9) _ _ _ _ _ _ Xal.nd rfl (by first | exact Or.inl rfl | exact Or.inr rfl) (@xag _ _ _ _ _ _ _ Xaf (pv 3) (@xag _ _ _ _ _ _ _ Xaf (xbh hu1 (pv 2) xaA (fun _ _=>rfl)) (pv 5) (fun _ _=>rfl)) (fun _ _=>rfl)) (by rfl) (by first | exact .inl rfl | exact .inr rfl | assumption))
  (@yab _ _ _ _ _ (XaK (Yaf YaY (Yaf YaY (@xag _ _ _ _ _ _ _ xap (pv 4) (pv 7) (fun _ _=>rfl)) (@xag _ _ _ _ _ _ _ Xaf (pv 1) (pv 5) (fun _ _=>rfl))) (@xag _ _ _ _ _ _ _ Xaf (pv 1) (Yaf Xak (Zaf Xad (by rfl) T.n_len xan (@zaa _ _ _ _ _ (@xag _ _ _ _ _ _ _ Xaf (pv 0) Zac (fun _ _=>rfl)) xaa (by rfl))) (pv 5)) (fun _ _=>rfl))) (yaK (pv 4) (pv 7) xat))
  (@yab _ _ _ _ _ (XaK (Yaf Xak (@xag _ _ _ _ _ _ _ xap (pv 4) (pv 8) (fun _ _=>rfl)) (@xag _ _ _ _ _ _ _ Xaf (pv 1) (pv 5) (fun _ _=>rfl))) (yaK (pv 4) (pv 8) xat))
  (@yad _ _ _ (XaK (Yaf Xak (@xag _ _ _ _ _ _ _ xap (pv 4) (pv 9) (fun _ _=>rfl)) (@xag _ _ _ _ _ _ _ Xaf (pv 1) (Yaf Xak (Zaf Xad (by rfl) T.n_len xan (@zaa _ _ _ _ _ (@xag _ _ _ _ _ _ _ Xaf (pv 0) Zac (fun _ _=>rfl)) xaa (by rfl))) (pv 5)) (fun _ _=>rfl))) (yaK (pv 4) (pv 9) xat))))))))) (by intro _;rfl))
  (@yad _ _ _ (@xah _ _ _ _ (Zaf (ybe rfl) (by rfl) T.n_all xbW (@zaa _ _ _ _ _ (yaP (own:=["number"]) (fr:=[]) (js:=[]) rfl ⟨⟨rfl,by decide +kernel,by decide +kernel,by dsimp only [cxOf,cxComp,Cx.nox,Cx.wish,PyProof.Rows.envOfC,compEnvC,relabel,Env.kindOf];decide +kernel,by decide +kernel⟩,rfl⟩ (Za6 (pv 4)) (fun _ _ _ _ _=>(xaf (i:=0) (show ((["number"]:List Str) ++ ([]:List Str)).Nodup by decide +kernel) rfl (by first | exact Or.inl rfl | exact Or.inr rfl))) (fun _ _ _ _ _=>ZaV) (fun _ _ _ _ _=>(zaT yaW (pv 0) Zac (nomark _)))) xaa (by rfl))))))))),?_⟩
 exact yaz (b:=xaJ) (zad (xad (xae (F:=zar) (yaa (Zaa 0) Xaa) (Zab (fun _ _ _ _ h=>Xae h))) (zab 2))
  (zad (xad (xae (F:=zao) (yaa (Zaa 0) Xaa) (Zab (fun _ _ _ _ h=>Xae h))) (zab 3))
  (zad (xad (yac xa4 (xas (yaa (Yac _) Xaa)) (yag Xan (yaa (yac zag (Zaa 0) (Yac _)) Xaa))) (zab 4))
  (zad (zat (xar (yaa (yag Xan (yaa (yac zag (Zaa 0) (Yac _)) Xaa)) Xaa)) (zab 5) (zad (xad (yac zag (xbj (Zaa 2) (zaB _)) (Zaa 5)) (zab 6))
  (zad (xad (yac zag (Zaa 3) (yac zag (xbj (Zaa 2) (zaB _)) (Zaa 6))) (zab 7))
  (zad (xad (yac zag (Zaa 3) (Zaa 6)) (zab 8))
  (zad (xad (yac zag (Zaa 3) (yac zag (xbj (Zaa 2) (zaB _)) (Zaa 5))) (zab 9))
  (zad (xad (yac za0 (yac za0 (yac zaz (Zaa 4) (Zaa 7)) (yac zag (Zaa 1) (Zaa 5))) (yac zag (Zaa 1) (yac yal (yag Xan (yaa (yac zag (Zaa 0) (Yac _)) Xaa)) (Zaa 5)))) (YaA (Zaa 4) (Zaa 7)))
  (zad (xad (yac yal (yac zaz (Zaa 4) (Zaa 8)) (yac zag (Zaa 1) (Zaa 5))) (YaA (Zaa 4) (Zaa 8)))
  (xad (yac yal (yac zaz (Zaa 4) (Zaa 9)) (yac zag (Zaa 1) (yac yal (yag Xan (yaa (yac zag (Zaa 0) (Yac _)) Xaa)) (Zaa 5)))) (YaA (Zaa 4) (Zaa 9))))))))))
  (Xah (yag YbY (yaa (yaD (xaX (Zaa 4)) (zab 0) zaM (yac ZaW (Zaa 0) (Yac _))) Xaa))))))) rfl h
noncomputable def ZaC:DSt→Dm Fl :=
 (fSeq (fAsg (fOp gIxT (fVar 0) (fCB gInt1 (fCons (fOp (gInS false) (fVar 2) (fC (.str "ud"))) fNil))) (hName 3))
 (fSeq (fIf (fTest (fOp (gInS false) (fVar 2) (fC (.str "ru")))) (fRet (fOp gIxT (fVar 3) (fVar 1))) fNext)
 (fRet (fBM "tuple" gIndex (fVar 3) (fCons (fVar 1) fNil)))))
noncomputable def yah:List D→Dm D:=fnF 4 ZaC
noncomputable def Zas:Stmt:=top 22
theorem YaO:FnScope ["_law_floor_here","_law_s","_law_step","_law_turning_here"] ["_law_floor_here","_law_s","_law_step"] (defScope Zas):=⟨rfl,rfl,rfl,by decide +kernel,rfl,by decide +kernel,by decide +kernel⟩
theorem xa2 {f:Addr} {fd:FuncData} (D:Def K mg "_law_beside" Zas ["_law_floor_here","_law_s","_law_step"] f fd) (T:Txt mg)  :FnOk P w K mg base CX0 1 f fd ["_law_floor_here","_law_s","_law_step"] (spF K 3 yah):=by
 refine D.F.ok YaO (fun vs H Q E h=>h.1) (fun cdv A outer s H vs Q E hr h=>?_)
 have hu:=hr.units
 have hu1:=Xay hr
 refine ⟨_,(@yab _ _ _ _ _ (@yaf (i:=3) _ _ _ _ _ _ YaO.nd rfl (by first | exact Or.inl rfl | exact Or.inr rfl) (@xag _ _ _ _ _ _ _ Xaf (pv 0) (zae Ybc (by rfl) T.n_int ZbW (@zaa _ _ _ _ _ (zaT Zbc (pv 2) xaA (by with_unfolding_all rfl)) xaa (by rfl))) (fun _ _=>rfl)) (by rfl) (by first | exact .inl rfl | exact .inr rfl | assumption))
  (@yab _ _ _ _ _ (@yaI _ _ _ _ _ _ _ _ (Yai Zbc (pv 2) xaA (by with_unfolding_all rfl)) (@yad _ _ _ (@xah _ _ _ _ (@xag _ _ _ _ _ _ _ Xaf (pv 3) (pv 1) (fun _ _=>rfl)))) Xao)
  (@yad _ _ _ (@xah _ _ _ _ (xbs PySem.F.plainAttrs_tuple PySem.F.slot_tuple_index PySem.F.type_tuple_index xbN (pv 3) (@zaa _ _ _ _ _ (pv 1) xaa (by rfl))))))),?_⟩
 exact yaz (b:=ZaC) (zad (xad (yac zag (Zaa 0) (yag ZbE (yaa (yac (zbZ false) (Zaa 2) (zaB _)) Xaa))) (zab 3))
  (zad (zaw (yai (yac (zbZ false) (Zaa 2) (zaB _))) (Xah (yac zag (Zaa 3) (Zaa 1))) zap)
  (Xah (Xbu ybQ (Zaa 3) (yaa (Zaa 1) Xaa))))) rfl h
noncomputable def YaC:DSt→Dm Fl :=
 (fSeq (fPar 2 3 (fCons (fVar 1) (fCons (fVar 1) fNil)))
 (fSeq (fFor (iRng1F (fCons (fCB gLen (fCons (fOp gIxT (fVar 0) (fC (.int 0))) fNil)) fNil)) (hName 4) (fSeq (fFor (iStrF (fC (.str "ruld"))) (hName 5) (fAsg (fCB yah (fCons (fVar 0) (fCons (fVar 3) (fCons (fVar 5) fNil)))) (hName 3)))
 (fAsg (fCB gMin2 (fCons (fVar 2) (fCons (fVar 3) fNil))) (hName 2))))
 (fRet (fVar 2))))
noncomputable def Yan:List D→Dm D:=fnF 6 YaC
noncomputable def zax:Stmt:=top 28
theorem xao:FnScope ["_law_floor_here","_law_s","_law_found","_law_here","_law_turn","_law_step"] ["_law_floor_here","_law_s"] (defScope zax):=⟨rfl,rfl,rfl,by decide +kernel,rfl,by decide +kernel,by decide +kernel⟩
theorem Xa2 {f:Addr} {fd:FuncData} (D:Def K mg "_law_corner" zax ["_law_floor_here","_law_s"] f fd) (T:Txt mg)  {f_law_beside:Addr} {d_law_beside:FuncData} (D_law_beside:Def K mg "_law_beside" Zas ["_law_floor_here","_law_s","_law_step"] f_law_beside d_law_beside) (G_law_beside:FnOk P w K mg base CX0 1 f_law_beside d_law_beside ["_law_floor_here","_law_s","_law_step"] (spF K 3 yah)):FnOk P w K mg base CX0 2 f fd ["_law_floor_here","_law_s"] (spF K 2 Yan):=by
 refine D.F.ok xao (fun vs H Q E h=>h.1) (fun cdv A outer s H vs Q E hr h=>?_)
 have hu:=hr.units
 have hu1:=Xay hr
 refine ⟨_,(@yab _ _ _ _ _ (zbm (i:=2) (j:=3) rfl xao.nd rfl rfl (by decide) rfl rfl (@zaa _ _ _ _ _ (pv 1) (@zaa _ _ _ _ _ (pv 1) xaa (by rfl)) (by rfl)) rfl)
  (@yab _ _ _ _ _ (@Xas _ _ _ _ _ _ _ _ PassesOwn.never rfl (Zam rfl T.n_range (@zaa _ _ _ _ _ (Zaf Xad (by rfl) T.n_len xan (@zaa _ _ _ _ _ (@xag _ _ _ _ _ _ _ Xaf (pv 0) Zac (fun _ _=>rfl)) xaa (by rfl))) xaa (by rfl))) (xaf (i:=4) xao.nd rfl (by first | exact Or.inl rfl | exact Or.inr rfl)) (@yab _ _ _ _ _ (@Xas _ _ _ _ _ _ _ _ PassesOwn.never rfl (zbX xaA) (xaf (i:=5) xao.nd rfl (by first | exact Or.inl rfl | exact Or.inr rfl)) (@yad _ _ _ (@yaf (i:=3) _ _ _ _ _ _ xao.nd rfl (by first | exact Or.inl rfl | exact Or.inr rfl) (Yae G_law_beside (hr.mono (by decide)) rfl D_law_beside.m D_law_beside.F.kp D_law_beside.b .nil pass0 (@zaa _ _ _ _ _ (pv 0) (@zaa _ _ _ _ _ (pv 3) (@zaa _ _ _ _ _ (pv 5) xaa (by rfl)) (by rfl)) (by rfl))) (by rfl) (by first | exact .inl rfl | exact .inr rfl | assumption))) (by intro _;rfl))
  (@yad _ _ _ (@yaf (i:=2) _ _ _ _ _ _ xao.nd rfl (by first | exact Or.inl rfl | exact Or.inr rfl) (Zaf (Zby rfl) (by rfl) T.n_min bt_min (@zaa _ _ _ _ _ (pv 2) (@zaa _ _ _ _ _ (pv 3) xaa (by rfl)) (by rfl))) (by rfl) (by first | exact .inl rfl | exact .inr rfl | assumption)))) (by intro _;rfl))
  (@yad _ _ _ (@xah _ _ _ _ (pv 2))))),?_⟩
 exact yaz (b:=YaC) (zad (ybo (yaa (Zaa 1) (yaa (Zaa 1) Xaa)))
  (zad (zat (xar (yaa (yag Xan (yaa (yac zag (Zaa 0) (Yac _)) Xaa)) Xaa)) (zab 4) (zad (zat (ZbI (zaB _)) (zab 5) (xad (xae (F:=yah) (yaa (Zaa 0) (yaa (Zaa 3) (yaa (Zaa 5) Xaa))) (Zab (Zab (Zab (fun _ _ _ _ h=>Xae h))))) (zab 3)))
  (xad (yag Xb4 (yaa (Zaa 2) (yaa (Zaa 3) Xaa))) (zab 2))))
  (Xah (Zaa 2)))) rfl h
noncomputable def Yau:DSt→Dm Fl :=
 (fSeq (fAsg (fCB gLen (fCons (fOp gIxT (fVar 0) (fC (.int 0))) fNil)) (hName 2))
 (fSeq (fAsg fDNew (hName 3))
 (fSeq (fFor (iRng1F (fCons (fVar 2) fNil)) (hName 4) (fSeq (fAsg (fCB Yan (fCons (fVar 0) (fCons (fCB yah (fCons (fVar 0) (fCons (fCB yah (fCons (fVar 0) (fCons (fVar 4) (fCons (fC (.str "d")) fNil)))) (fCons (fC (.str "l")) fNil)))) fNil))) (hName 5))
 (fSeq (fAsg (fComp (iStrF (fC (.str "dl"))) 1 [0,4] (hName 0) fTrue (fCB Yan (fCons (fVar 1) (fCons (fCB yah (fCons (fVar 1) (fCons (fVar 2) (fCons (fVar 0) fNil)))) fNil)))) (hName 6))
 (fFor (iZipRF (fCons (fTup (fCons (fOp gIxT (fVar 1) (fVar 4)) (fCons (fOp gIxT (fVar 1) (fOp gAdd (fVar 2) (fVar 4))) fNil))) (fCons (fVar 6) fNil))) (hTup 2 (hCons (hName 7) (hCons (hName 8) hNil))) (fSeq (fDPut (fVar 3) (fVar 5) (fOp gSub (fDGet2 (fVar 3) (fVar 5) (fC (.int 0))) (fVar 7)))
 (fDPut (fVar 3) (fVar 8) (fOp gAdd (fDGet2 (fVar 3) (fVar 8) (fC (.int 0))) (fVar 7))))))))
 (fRet (fOp (gEqD false) (fComp (iValsF (fVar 3)) 1 [] (hName 0) (fTest (fOp (gEq true) (fVar 0) (fC (.int 0)))) (fVar 0)) (fLst fNil))))))
noncomputable def Zao:List D→Dm D:=fnF 9 Yau
noncomputable def Yao:Stmt:=top 29
theorem Zah:FnScope ["_law_floor_here","_law_seam","_law_many","_law_sums","_law_s","_law_begin","_law_ends","_law_number","_law_end"] ["_law_floor_here","_law_seam"] (defScope Yao):=⟨rfl,rfl,rfl,by decide +kernel,rfl,by decide +kernel,by decide +kernel⟩
theorem YaU {f:Addr} {fd:FuncData} (D:Def K mg "_law_is_closed" Yao ["_law_floor_here","_law_seam"] f fd) (T:Txt mg)  {f_law_corner:Addr} {d_law_corner:FuncData} (D_law_corner:Def K mg "_law_corner" zax ["_law_floor_here","_law_s"] f_law_corner d_law_corner) (G_law_corner:FnOk P w K mg base CX0 2 f_law_corner d_law_corner ["_law_floor_here","_law_s"] (spF K 2 Yan)) {f_law_beside:Addr} {d_law_beside:FuncData} (D_law_beside:Def K mg "_law_beside" Zas ["_law_floor_here","_law_s","_law_step"] f_law_beside d_law_beside) (G_law_beside:FnOk P w K mg base CX0 1 f_law_beside d_law_beside ["_law_floor_here","_law_s","_law_step"] (spF K 3 yah)):FnOk P w K mg base CX0 3 f fd ["_law_floor_here","_law_seam"] (spF K 2 Zao):=by
 refine D.F.ok Zah (fun vs H Q E h=>h.1) (fun cdv A outer s H vs Q E hr h=>?_)
 have hu:=hr.units
 have hu1:=Xay hr
 refine ⟨_,(@yab _ _ _ _ _ (@yaf (i:=2) _ _ _ _ _ _ Zah.nd rfl (by first | exact Or.inl rfl | exact Or.inr rfl) (Zaf Xad (by rfl) T.n_len xan (@zaa _ _ _ _ _ (@xag _ _ _ _ _ _ _ Xaf (pv 0) Zac (fun _ _=>rfl)) xaa (by rfl))) (by rfl) (by first | exact .inl rfl | exact .inr rfl | assumption))
  (@yab _ _ _ _ _ (@yaf (i:=3) _ _ _ _ _ _ Zah.nd rfl (by first | exact Or.inl rfl | exact Or.inr rfl) Xbm (by rfl) (by first | exact .inl rfl | exact .inr rfl | assumption))
  (@yab _ _ _ _ _ (@Xas _ _ _ _ _ _ _ _ PassesOwn.never rfl (Zam rfl T.n_range (@zaa _ _ _ _ _ (pv 2) xaa (by rfl))) (xaf (i:=4) Zah.nd rfl (by first | exact Or.inl rfl | exact Or.inr rfl)) (@yab _ _ _ _ _ (@yaf (i:=5) _ _ _ _ _ _ Zah.nd rfl (by first | exact Or.inl rfl | exact Or.inr rfl) (Yae G_law_corner (hr.mono (by decide)) rfl D_law_corner.m D_law_corner.F.kp D_law_corner.b .nil pass0 (@zaa _ _ _ _ _ (pv 0) (@zaa _ _ _ _ _ (Yae G_law_beside (hr.mono (by decide)) rfl D_law_beside.m D_law_beside.F.kp D_law_beside.b .nil pass0 (@zaa _ _ _ _ _ (pv 0) (@zaa _ _ _ _ _ (Yae G_law_beside (hr.mono (by decide)) rfl D_law_beside.m D_law_beside.F.kp D_law_beside.b .nil pass0 (@zaa _ _ _ _ _ (pv 0) (@zaa _ _ _ _ _ (pv 4) (@zaa _ _ _ _ _ xaA xaa (by rfl)) (by rfl)) (by rfl))) (@zaa _ _ _ _ _ xaA xaa (by rfl)) (by rfl)) (by rfl))) xaa (by rfl)) (by rfl))) (by rfl) (by first | exact .inl rfl | exact .inr rfl | assumption))
  (@yab _ _ _ _ _ (Xa7 (i:=6) (own:=["_law_step"]) (fr:=["_law_floor_here","_law_s"]) (js:=[0,4]) rfl Zah.nd rfl rfl ⟨⟨rfl,by decide +kernel,by decide +kernel,by dsimp only [cxOf,cxComp,Cx.nox,Cx.wish,PyProof.Rows.envOfC,compEnvC,relabel,Env.kindOf];decide +kernel,by decide +kernel⟩,rfl⟩ (zbX xaA) (fun _ _ _ _ _=>(xaf (i:=0) (show ((["_law_step"]:List Str) ++ (["_law_floor_here","_law_s"]:List Str)).Nodup by decide +kernel) rfl (by first | exact Or.inl rfl | exact Or.inr rfl))) (fun _ _ _ _ _=>ZaV) (fun _ _ _ _ _=>(Yae G_law_corner (hr.mono (by decide)) rfl D_law_corner.m D_law_corner.F.kp D_law_corner.b .nil pass0 (@zaa _ _ _ _ _ (pv 1) (@zaa _ _ _ _ _ (Yae G_law_beside (hr.mono (by decide)) rfl D_law_beside.m D_law_beside.F.kp D_law_beside.b .nil pass0 (@zaa _ _ _ _ _ (pv 1) (@zaa _ _ _ _ _ (pv 2) (@zaa _ _ _ _ _ (pv 0) xaa (by rfl)) (by rfl)) (by rfl))) xaa (by rfl)) (by rfl)))))
  (@yad _ _ _ (@Xas _ _ _ _ _ _ _ _ PassesOwn.never rfl (XbB rfl T.n_zip (@zaa _ _ _ _ _ (@XaC _ _ _ _ _ (@zaa _ _ _ _ _ (@xag _ _ _ _ _ _ _ Xaf (pv 1) (pv 4) (fun _ _=>rfl)) (@zaa _ _ _ _ _ (@xag _ _ _ _ _ _ _ Xaf (pv 1) (Yaf Xak (pv 2) (pv 4)) (fun _ _=>rfl)) xaa (by rfl)) (by rfl))) (@zaa _ _ _ _ _ (pv 6) xaa (by rfl)) (by rfl))) (xaU (n:=2) rfl (zak (xaf (i:=7) Zah.nd rfl (by first | exact Or.inl rfl | exact Or.inr rfl)) (zak (xaf (i:=8) Zah.nd rfl (by first | exact Or.inl rfl | exact Or.inr rfl)) ZaI))) (@yab _ _ _ _ _ (Xbh hu1 (pv 3) (pv 5) (Yaf YaY (zbn hu1 (pv 3) (pv 5) Zac ⟨rfl,rfl,rfl,rfl⟩) (pv 7)) rfl)
  (@yad _ _ _ (Xbh hu1 (pv 3) (pv 8) (Yaf Xak (zbn hu1 (pv 3) (pv 8) Zac ⟨rfl,rfl,rfl,rfl⟩) (pv 7)) rfl))) (by intro _;rfl))))) (by intro _;rfl))
  (@yad _ _ _ (@xah _ _ _ _ (zaT (op_eqD hu) (yaP (own:=["_law_number"]) (fr:=[]) (js:=[]) rfl ⟨⟨rfl,by decide +kernel,by decide +kernel,by dsimp only [cxOf,cxComp,Cx.nox,Cx.wish,PyProof.Rows.envOfC,compEnvC,relabel,Env.kindOf];decide +kernel,by decide +kernel⟩,rfl⟩ (zb3 (pv 3)) (fun _ _ _ _ _=>(xaf (i:=0) (show ((["_law_number"]:List Str) ++ ([]:List Str)).Nodup by decide +kernel) rfl (by first | exact Or.inl rfl | exact Or.inr rfl))) (fun _ _ _ _ _=>(XbA (Yai Xbr (pv 0) Zac (nomark _)))) (fun _ _ _ _ _=>(pv 0))) (@Yas _ _ _ _ xaa) (nomark _))))))),?_⟩
 exact yaz (b:=Yau) (zad (xad (yag Xan (yaa (yac zag (Zaa 0) (Yac _)) Xaa)) (zab 2))
  (zad (xad YbF (zab 3))
  (zad (zat (xar (yaa (Zaa 2) Xaa)) (zab 4) (zad (xad (xae (F:=Yan) (yaa (Zaa 0) (yaa (xae (F:=yah) (yaa (Zaa 0) (yaa (xae (F:=yah) (yaa (Zaa 0) (yaa (Zaa 4) (yaa (zaB _) Xaa))) (Zab (Zab (Zab (fun _ _ _ _ h=>Xae h))))) (yaa (zaB _) Xaa))) (Zab (Zab (Zab (fun _ _ _ _ h=>Xae h))))) Xaa)) (Zab (Zab (fun _ _ _ _ h=>Xae h)))) (zab 5))
  (zad (xad (yaD (ZbI (zaB _)) (zab 0) zaM (xae (F:=Yan) (yaa (Zaa 1) (yaa (xae (F:=yah) (yaa (Zaa 1) (yaa (Zaa 2) (yaa (Zaa 0) Xaa))) (Zab (Zab (Zab (fun _ _ _ _ h=>Xae h))))) Xaa)) (Zab (Zab (fun _ _ _ _ h=>Xae h))))) (zab 6))
  (zat (XbS (yaa (zaD (yaa (yac zag (Zaa 1) (Zaa 4)) (yaa (yac zag (Zaa 1) (yac yal (Zaa 2) (Zaa 4))) Xaa))) (yaa (Zaa 6) Xaa))) (XaI (yak (zab 7) (yak (zab 8) xaI))) (zad (Xbj (Zaa 3) (Zaa 5) (yac za0 (xbp (Zaa 3) (Zaa 5) (Yac _)) (Zaa 7)))
  (Xbj (Zaa 3) (Zaa 8) (yac yal (xbp (Zaa 3) (Zaa 8) (Yac _)) (Zaa 7))))))))
  (Xah (yac (XbD false) (yaD (ybT (Zaa 3)) (zab 0) (yai (yac xbu (Zaa 0) (Yac _))) (Zaa 0)) (xas Xaa)))))) rfl h
noncomputable def xay:DSt→Dm Fl :=
 (fSeq (fIf (fTest (fOp (gEq false) (fVar 2) (fC (.str "r")))) (fRet (fOp gAdd (fCB gLen (fCons (fOp gIxT (fVar 0) (fC (.int 0))) fNil)) (fOp gIxT (fOp gIxT (fVar 0) (fC (.int 0))) (fVar 1)))) fNext)
 (fSeq (fIf (fTest (fOp (gEq false) (fVar 2) (fC (.str "l")))) (fRet (fOp gAdd (fCB gLen (fCons (fOp gIxT (fVar 0) (fC (.int 0))) fNil)) (fVar 1))) fNext)
 (fSeq (fIf (fTest (fOp (gEq false) (fVar 2) (fC (.str "u")))) (fRet (fOp gIxT (fOp gIxT (fVar 0) (fC (.int 1))) (fVar 1))) fNext)
 (fRet (fVar 1)))))
noncomputable def Zat:List D→Dm D:=fnF 3 xay
noncomputable def Yat:Stmt:=top 12
theorem Za1:FnScope ["floor","s","step"] ["floor","s","step"] (defScope Yat):=⟨rfl,rfl,rfl,by decide +kernel,rfl,by decide +kernel,by decide +kernel⟩
theorem Ya1 {f:Addr} {fd:FuncData} (D:Def K mg "side_crossed" Yat ["floor","s","step"] f fd) (T:Txt mg)  :FnOk P w K mg base CX0 1 f fd ["floor","s","step"] (spF K 3 Zat):=by
 refine D.F.ok Za1 (fun vs H Q E h=>h.1) (fun cdv A outer s H vs Q E hr h=>?_)
 have hu:=hr.units
 have hu1:=Xay hr
 refine ⟨_,(@yab _ _ _ _ _ (@yaI _ _ _ _ _ _ _ _ (Yai yaW (pv 2) xaA (nomark _)) (@yad _ _ _ (@xah _ _ _ _ (Yaf Xak (Zaf Xad (by rfl) T.n_len xan (@zaa _ _ _ _ _ (@xag _ _ _ _ _ _ _ Xaf (pv 0) Zac (fun _ _=>rfl)) xaa (by rfl))) (@xag _ _ _ _ _ _ _ Xaf (@xag _ _ _ _ _ _ _ Xaf (pv 0) Zac (fun _ _=>rfl)) (pv 1) (fun _ _=>rfl))))) Xao)
  (@yab _ _ _ _ _ (@yaI _ _ _ _ _ _ _ _ (Yai yaW (pv 2) xaA (nomark _)) (@yad _ _ _ (@xah _ _ _ _ (Yaf Xak (Zaf Xad (by rfl) T.n_len xan (@zaa _ _ _ _ _ (@xag _ _ _ _ _ _ _ Xaf (pv 0) Zac (fun _ _=>rfl)) xaa (by rfl))) (pv 1)))) Xao)
  (@yab _ _ _ _ _ (@yaI _ _ _ _ _ _ _ _ (Yai yaW (pv 2) xaA (nomark _)) (@yad _ _ _ (@xah _ _ _ _ (@xag _ _ _ _ _ _ _ Xaf (@xag _ _ _ _ _ _ _ Xaf (pv 0) Zac (fun _ _=>rfl)) (pv 1) (fun _ _=>rfl)))) Xao)
  (@yad _ _ _ (@xah _ _ _ _ (pv 1)))))),?_⟩
 exact yaz (b:=xay) (zad (zaw (yai (yac ZaW (Zaa 2) (zaB _))) (Xah (yac yal (yag Xan (yaa (yac zag (Zaa 0) (Yac _)) Xaa)) (yac zag (yac zag (Zaa 0) (Yac _)) (Zaa 1)))) zap)
  (zad (zaw (yai (yac ZaW (Zaa 2) (zaB _))) (Xah (yac yal (yag Xan (yaa (yac zag (Zaa 0) (Yac _)) Xaa)) (Zaa 1))) zap)
  (zad (zaw (yai (yac ZaW (Zaa 2) (zaB _))) (Xah (yac zag (yac zag (Zaa 0) (Yac _)) (Zaa 1))) zap)
  (Xah (Zaa 1))))) rfl h
noncomputable def yaY:DSt→Dm Fl :=
 (fSeq (fAsg (fOp gRep (fLst (fCons (fC (.int 0)) fNil)) (fOp gMul (fC (.int 2)) (fCB gLen (fCons (fOp gIxT (fVar 0) (fC (.int 0))) fNil)))) (hName 2))
 (fSeq (fFor (iKeysF [("r",.int 1),("l",.int (-1)),("u",.int (-1)),("d",.int 1)]) (hName 3) (fSeq (fAsg (fCB Zat (fCons (fVar 0) (fCons (fVar 1) (fCons (fVar 3) fNil)))) (hName 4))
 (fAsg (fOp gAdd (fOp gIxL (fVar 2) (fVar 4)) (fTab [("r",.int 1),("l",.int (-1)),("u",.int (-1)),("d",.int 1)] (fVar 3))) (hSub (fVar 2) (fVar 4)))))
 (fRet (fCB gTuple (fCons (fVar 2) fNil)))))
noncomputable def xaR:List D→Dm D:=fnF 5 yaY
noncomputable def XaR:Stmt:=top 13
theorem zaS:FnScope ["floor","s","rim","step","place"] ["floor","s"] (defScope XaR):=⟨rfl,rfl,rfl,by decide +kernel,rfl,by decide +kernel,by decide +kernel⟩
theorem ybK {f:Addr} {fd:FuncData} (D:Def K mg "rim_of" XaR ["floor","s"] f fd) (T:Txt mg) (CSIGNS:ConD K mg "SIGNS" [("r",.int 1),("l",.int (-1)),("u",.int (-1)),("d",.int 1)]) {fside_crossed:Addr} {dside_crossed:FuncData} (Dside_crossed:Def K mg "side_crossed" Yat ["floor","s","step"] fside_crossed dside_crossed) (Gside_crossed:FnOk P w K mg base CX0 1 fside_crossed dside_crossed ["floor","s","step"] (spF K 3 Zat)):FnOk P w K mg base CX0 2 f fd ["floor","s"] (spF K 2 xaR):=by
 refine D.F.ok zaS (fun vs H Q E h=>h.1) (fun cdv A outer s H vs Q E hr h=>?_)
 have hu:=hr.units
 have hu1:=Xay hr
 refine ⟨_,(@yab _ _ _ _ _ (@yaf (i:=2) _ _ _ _ _ _ zaS.nd rfl (by first | exact Or.inl rfl | exact Or.inr rfl) (Yaf Za3 (@Yas _ _ _ _ (@zaa _ _ _ _ _ Zac xaa (by rfl))) (Yaf XaA Zac (Zaf Xad (by rfl) T.n_len xan (@zaa _ _ _ _ _ (@xag _ _ _ _ _ _ _ Xaf (pv 0) Zac (fun _ _=>rfl)) xaa (by rfl))))) (by rfl) (by first | exact .inl rfl | exact .inr rfl | assumption))
  (@yab _ _ _ _ _ (@Xas _ _ _ _ _ _ _ _ PassesOwn.never rfl (Yb2 CSIGNS rfl rfl rfl) (xaf (i:=3) zaS.nd rfl (by first | exact Or.inl rfl | exact Or.inr rfl)) (@yab _ _ _ _ _ (@yaf (i:=4) _ _ _ _ _ _ zaS.nd rfl (by first | exact Or.inl rfl | exact Or.inr rfl) (Yae Gside_crossed (hr.mono (by decide)) rfl Dside_crossed.m Dside_crossed.F.kp Dside_crossed.b .nil pass0 (@zaa _ _ _ _ _ (pv 0) (@zaa _ _ _ _ _ (pv 1) (@zaa _ _ _ _ _ (pv 3) xaa (by rfl)) (by rfl)) (by rfl))) (by rfl) (by first | exact .inl rfl | exact .inr rfl | assumption))
  (@yad _ _ _ (XaK (Yaf Xak (@xag _ _ _ _ _ _ _ xap (pv 2) (pv 4) (fun _ _=>rfl)) (pe_tab CSIGNS rfl rfl rfl (pv 3) (fun _ _=>rfl))) (yaK (pv 2) (pv 4) xat)))) (by intro _;rfl))
  (@yad _ _ _ (@xah _ _ _ _ (zae Zag (by rfl) T.n_tuple zal (@zaa _ _ _ _ _ (pv 2) xaa (by rfl))))))),?_⟩
 exact yaz (b:=yaY) (zad (xad (yac xa4 (xas (yaa (Yac _) Xaa)) (yac yaB (Yac _) (yag Xan (yaa (yac zag (Zaa 0) (Yac _)) Xaa)))) (zab 2))
  (zad (zat YbS (zab 3) (zad (xad (xae (F:=Zat) (yaa (Zaa 0) (yaa (Zaa 1) (yaa (Zaa 3) Xaa))) (Zab (Zab (Zab (fun _ _ _ _ h=>Xae h))))) (zab 4))
  (xad (yac yal (yac zaz (Zaa 2) (Zaa 4)) (so_tab (Zaa 3))) (YaA (Zaa 2) (Zaa 4)))))
  (Xah (yag Zap (yaa (Zaa 2) Xaa))))) rfl h
noncomputable def YbT:DSt→Dm Fl :=
 (fSeq (fAsg (fLst fNil) (hName 1))
 (fSeq (fFor (iRng1F (fCons (fCB gMax2 (fCons (fC (.int 2)) (fCons (fCB gLen (fCons (fSl gSlL (fVar 0) fNoPart (fPart (fC (.int 6)))) fNil)) fNil))) fNil)) (hName 2) (fDrop (fBM "list" gExtend (fVar 1) (fCons (fCB Xaz (fCons (fCB XaD (fCons (fVar 0) (fCons (fVar 2) fNil))) fNil)) fNil))))
 (fSeq (fFor (iListF (fOp gCat (fVar 1) (fSl gSlL (fVar 1) fNoPart (fPart (fC (.int 1)))))) (hTup 2 (hCons (hName 3) (hCons (hName 4) hNil))) (fSeq (fAsg (fCB gLen (fCons (fOp gIxT (fVar 3) (fC (.int 0))) fNil)) (hName 5))
 (fSeq (fFor (iListF (fVar 4)) (hName 6) (fIf (fNot (fTest (fCB Xaq (fCons (fCB YaE (fCons (fVar 3) (fCons (fVar 6) fNil))) (fCons (fCB Zao (fCons (fVar 3) (fCons (fVar 6) fNil))) fNil))))) (fRet (fC (.bl false))) fNext))
 (fFor (iRng1F (fCons (fVar 5) fNil)) (hName 7) (fSeq (fAsg (fComp (iRng1F (fCons (fVar 5) fNil)) 1 [7] (hName 0) fTrue (fCB gInt1 (fCons (fOp (gEq false) (fVar 0) (fVar 1)) fNil))) (hName 8))
 (fIf (fNot (fTest (fCB Xaq (fCons (fCB xaR (fCons (fVar 3) (fCons (fVar 7) fNil))) (fCons (fCB Yaq (fCons (fVar 3) (fCons (fVar 8) fNil))) fNil))))) (fRet (fC (.bl false))) fNext))))))
 (fRet (fC (.bl true))))))
noncomputable def Yb9:List D→Dm D:=fnF 9 YbT
noncomputable def xbT:Stmt:=top 31
theorem yaS:FnScope ["_law_script","_law_met_here","_law_k","_law_floor_here","_law_seams","_law_many","_law_seam","_law_s","_law_weights"] ["_law_script"] (defScope xbT):=⟨rfl,rfl,rfl,by decide +kernel,rfl,by decide +kernel,by decide +kernel⟩
theorem ok_law {f:Addr} {fd:FuncData} (D:Def K mg "law" xbT ["_law_script"] f fd) (T:Txt mg)  {f_law_drawn:Addr} {d_law_drawn:FuncData} (D_law_drawn:Def K mg "_law_drawn" zaA ["_law_feed_here"] f_law_drawn d_law_drawn) (G_law_drawn:FnOk P w K mg base CX0 4 f_law_drawn d_law_drawn ["_law_feed_here"] (spF K 1 Xaz)) {f_law_feed:Addr} {d_law_feed:FuncData} (D_law_feed:Def K mg "_law_feed" zaE ["_law_script","_law_k"] f_law_feed d_law_feed) (G_law_feed:FnOk P w K mg base CX0 1 f_law_feed d_law_feed ["_law_script","_law_k"] (spF K 2 XaD)) {f_law_alike:Addr} {d_law_alike:FuncData} (D_law_alike:Def K mg "_law_alike" Zav ["_law_found","_law_due"] f_law_alike d_law_alike) (G_law_alike:FnOk P w K mg base CX0 7 f_law_alike d_law_alike ["_law_found","_law_due"] (spF K 2 Xaq)) {fis_closed:Addr} {dis_closed:FuncData} (Dis_closed:Def K mg "is_closed" xaE ["floor","seam"] fis_closed dis_closed) (Gis_closed:FnOk P w K mg base CX0 5 fis_closed dis_closed ["floor","seam"] (spF K 2 YaE)) {f_law_is_closed:Addr} {d_law_is_closed:FuncData} (D_law_is_closed:Def K mg "_law_is_closed" Yao ["_law_floor_here","_law_seam"] f_law_is_closed d_law_is_closed) (G_law_is_closed:FnOk P w K mg base CX0 3 f_law_is_closed d_law_is_closed ["_law_floor_here","_law_seam"] (spF K 2 Zao)) {frim_of:Addr} {drim_of:FuncData} (Drim_of:Def K mg "rim_of" XaR ["floor","s"] frim_of drim_of) (Grim_of:FnOk P w K mg base CX0 2 frim_of drim_of ["floor","s"] (spF K 2 xaR)) {f_law_rims:Addr} {d_law_rims:FuncData} (D_law_rims:Def K mg "_law_rims" zay ["_law_floor_here","_law_weights"] f_law_rims d_law_rims) (G_law_rims:FnOk P w K mg base CX0 1 f_law_rims d_law_rims ["_law_floor_here","_law_weights"] (spF K 2 Yaq)):FnOk P w K mg base CX0 8 f fd ["_law_script"] (spF K 1 Yb9):=by
 refine D.F.ok yaS (fun vs H Q E h=>h.1) (fun cdv A outer s H vs Q E hr h=>?_)
 have hu:=hr.units
 have hu1:=Xay hr
 refine ⟨_,(@yab _ _ _ _ _ (@yaf (i:=1) _ _ _ _ _ _ yaS.nd rfl (by first | exact Or.inl rfl | exact Or.inr rfl) (@Yas _ _ _ _ xaa) (by rfl) (by first | exact .inl rfl | exact .inr rfl | assumption))
  (@yab _ _ _ _ _ (@Xas _ _ _ _ _ _ _ _ PassesOwn.never rfl (Zam rfl T.n_range (@zaa _ _ _ _ _ (Zaf (yby rfl) (by rfl) T.n_max bt_max (@zaa _ _ _ _ _ Zac (@zaa _ _ _ _ _ (Zaf Xad (by rfl) T.n_len xan (@zaa _ _ _ _ _ (yaQ ybh (pv 0) xaY (XaY Zac)) xaa (by rfl))) xaa (by rfl)) (by rfl))) xaa (by rfl))) (xaf (i:=2) yaS.nd rfl (by first | exact Or.inl rfl | exact Or.inr rfl)) (@yad _ _ _ (ya6 (xbs PySem.F.plainAttrs_list PySem.F.slot_list_extend PySem.F.type_list_extend ybz (pv 1) (@zaa _ _ _ _ _ (Yae G_law_drawn (hr.mono (by decide)) rfl D_law_drawn.m D_law_drawn.F.kp D_law_drawn.b .nil pass0 (@zaa _ _ _ _ _ (Yae G_law_feed (hr.mono (by decide)) rfl D_law_feed.m D_law_feed.F.kp D_law_feed.b .nil pass0 (@zaa _ _ _ _ _ (pv 0) (@zaa _ _ _ _ _ (pv 2) xaa (by rfl)) (by rfl))) xaa (by rfl))) xaa (by rfl))))) (by intro _;rfl))
  (@yab _ _ _ _ _ (@Xas _ _ _ _ _ _ _ _ PassesOwn.never rfl (Za6 (Yaf zaV (pv 1) (yaQ ybh (pv 1) xaY (XaY Zac)))) (xaU (n:=2) rfl (zak (xaf (i:=3) yaS.nd rfl (by first | exact Or.inl rfl | exact Or.inr rfl)) (zak (xaf (i:=4) yaS.nd rfl (by first | exact Or.inl rfl | exact Or.inr rfl)) ZaI))) (@yab _ _ _ _ _ (@yaf (i:=5) _ _ _ _ _ _ yaS.nd rfl (by first | exact Or.inl rfl | exact Or.inr rfl) (Zaf Xad (by rfl) T.n_len xan (@zaa _ _ _ _ _ (@xag _ _ _ _ _ _ _ Xaf (pv 3) Zac (fun _ _=>rfl)) xaa (by rfl))) (by rfl) (by first | exact .inl rfl | exact .inr rfl | assumption))
  (@yab _ _ _ _ _ (@Xas _ _ _ _ _ _ _ _ PassesOwn.never rfl (Za6 (pv 4)) (xaf (i:=6) yaS.nd rfl (by first | exact Or.inl rfl | exact Or.inr rfl)) (@yad _ _ _ (@yaI _ _ _ _ _ _ _ _ (ZbV (ybx (Yae G_law_alike (hr.mono (by decide)) rfl D_law_alike.m D_law_alike.F.kp D_law_alike.b .nil pass0 (@zaa _ _ _ _ _ (Yae Gis_closed (hr.mono (by decide)) rfl Dis_closed.m Dis_closed.F.kp Dis_closed.b .nil pass0 (@zaa _ _ _ _ _ (pv 3) (@zaa _ _ _ _ _ (pv 6) xaa (by rfl)) (by rfl))) (@zaa _ _ _ _ _ (Yae G_law_is_closed (hr.mono (by decide)) rfl D_law_is_closed.m D_law_is_closed.F.kp D_law_is_closed.b .nil pass0 (@zaa _ _ _ _ _ (pv 3) (@zaa _ _ _ _ _ (pv 6) xaa (by rfl)) (by rfl))) xaa (by rfl)) (by rfl))))) (@yad _ _ _ (@xah _ _ _ _ Zbr)) Xao)) (by intro _;rfl))
  (@yad _ _ _ (@Xas _ _ _ _ _ _ _ _ PassesOwn.never rfl (Zam rfl T.n_range (@zaa _ _ _ _ _ (pv 5) xaa (by rfl))) (xaf (i:=7) yaS.nd rfl (by first | exact Or.inl rfl | exact Or.inr rfl)) (@yab _ _ _ _ _ (Xa7 (i:=8) (own:=["_law_k"]) (fr:=["_law_s"]) (js:=[7]) rfl yaS.nd rfl rfl ⟨⟨rfl,by decide +kernel,by decide +kernel,by dsimp only [cxOf,cxComp,Cx.nox,Cx.wish,PyProof.Rows.envOfC,compEnvC,relabel,Env.kindOf];decide +kernel,by decide +kernel⟩,rfl⟩ (Zam rfl T.n_range (@zaa _ _ _ _ _ (pv 5) xaa (by rfl))) (fun _ _ _ _ _=>(xaf (i:=0) (show ((["_law_k"]:List Str) ++ (["_law_s"]:List Str)).Nodup by decide +kernel) rfl (by first | exact Or.inl rfl | exact Or.inr rfl))) (fun _ _ _ _ _=>ZaV) (fun _ _ _ _ _=>(zae Ybc (by rfl) T.n_int ZbW (@zaa _ _ _ _ _ (zaT yaW (pv 0) (pv 1) (nomark _)) xaa (by rfl)))))
  (@yad _ _ _ (@yaI _ _ _ _ _ _ _ _ (ZbV (ybx (Yae G_law_alike (hr.mono (by decide)) rfl D_law_alike.m D_law_alike.F.kp D_law_alike.b .nil pass0 (@zaa _ _ _ _ _ (Yae Grim_of (hr.mono (by decide)) rfl Drim_of.m Drim_of.F.kp Drim_of.b .nil pass0 (@zaa _ _ _ _ _ (pv 3) (@zaa _ _ _ _ _ (pv 7) xaa (by rfl)) (by rfl))) (@zaa _ _ _ _ _ (Yae G_law_rims (hr.mono (by decide)) rfl D_law_rims.m D_law_rims.F.kp D_law_rims.b .nil pass0 (@zaa _ _ _ _ _ (pv 3) (@zaa _ _ _ _ _ (pv 8) xaa (by rfl)) (by rfl))) xaa (by rfl)) (by rfl))))) (@yad _ _ _ (@xah _ _ _ _ Zbr)) Xao))) (by intro _;rfl))))) (by intro _;rfl))
  (@yad _ _ _ (@xah _ _ _ _ Zbr))))),?_⟩
 exact yaz (b:=YbT) (zad (xad (xas Xaa) (zab 1))
  (zad (zat (xar (yaa (yag xb4 (yaa (Yac _) (yaa (yag Xan (yaa (ZbD zbE (Zaa 0) XaL (XaZ (Yac _))) Xaa)) Xaa))) Xaa)) (zab 2) (Ya8 (Xbu xbE (Zaa 1) (yaa (xae (F:=Xaz) (yaa (xae (F:=XaD) (yaa (Zaa 0) (yaa (Zaa 2) Xaa)) (Zab (Zab (fun _ _ _ _ h=>Xae h)))) Xaa) (Zab (fun _ _ _ _ h=>Xae h))) Xaa))))
  (zad (zat (xaX (yac YaV (Zaa 1) (ZbD zbE (Zaa 1) XaL (XaZ (Yac _))))) (XaI (yak (zab 3) (yak (zab 4) xaI))) (zad (xad (yag Xan (yaa (yac zag (Zaa 3) (Yac _)) Xaa)) (zab 5))
  (zad (zat (xaX (Zaa 4)) (zab 6) (zaw (ybX (xbP (xae (F:=Xaq) (yaa (xae (F:=YaE) (yaa (Zaa 3) (yaa (Zaa 6) Xaa)) (Zab (Zab (fun _ _ _ _ h=>Xae h)))) (yaa (xae (F:=Zao) (yaa (Zaa 3) (yaa (Zaa 6) Xaa)) (Zab (Zab (fun _ _ _ _ h=>Xae h)))) Xaa)) (Zab (Zab (fun _ _ _ _ h=>Xae h)))))) (Xah (ybu _)) zap))
  (zat (xar (yaa (Zaa 5) Xaa)) (zab 7) (zad (xad (yaD (xar (yaa (Zaa 5) Xaa)) (zab 0) zaM (yag ZbE (yaa (yac ZaW (Zaa 0) (Zaa 1)) Xaa))) (zab 8))
  (zaw (ybX (xbP (xae (F:=Xaq) (yaa (xae (F:=xaR) (yaa (Zaa 3) (yaa (Zaa 7) Xaa)) (Zab (Zab (fun _ _ _ _ h=>Xae h)))) (yaa (xae (F:=Yaq) (yaa (Zaa 3) (yaa (Zaa 8) Xaa)) (Zab (Zab (fun _ _ _ _ h=>Xae h)))) Xaa)) (Zab (Zab (fun _ _ _ _ h=>Xae h)))))) (Xah (ybu _)) zap))))))
  (Xah (ybu _))))) rfl h
end
theorem xam {st:Store} {f:Nat} {n:Int} (hf:FeedIs st f) (h0:0 < n) (h1:n < 1073741824):Wp (Yad [.ref f,.int n] st) fun d st'=>∃ k:Int,d=.int k∧0≤k∧k < n∧FeedIs st' f∧Ex [f] st st':=by
 obtain ⟨o,m,e,o0,m0,m1⟩:=hf
 have hfl:=zac e
 refine Xax ?_
 show Ws (zaJ [some (.ref f),some (.int n),none,none] st) _ _ _ _
 unfold zaJ
 refine Xac (yaw ?_)
 set_option simprocs false in simp only [wpB,Zad e,zaj e]
 refine ⟨fun ho=>?_,fun ho=>?_⟩
 ·refine Xac (zaf ?_)
  set_option simprocs false in simp only [wpB,Zad e]
  refine ⟨h0,Xac (YaK ?_)⟩
  set_option simprocs false in simp only [wpB,Zad e,zaj e,(show ixN [D.int o,D.int m].length 0=some 0 from ix2_0)]
  refine ⟨⟨h0,h1⟩,zai ?_⟩
  set_option simprocs false in simp only [wpB]
  refine ⟨Int.emod_nonneg _ (by omega),Int.emod_lt_of_pos _ h0,⟨o / n,m,?_,Int.ediv_nonneg o0 (by omega),m0,m1⟩,Ex.refl.put (by simp)⟩
  rw [List.getElem?_set_self hfl]
 ·refine Yak (Xac (zaf ?_))
  set_option simprocs false in simp only [wpB,Zad e]
  refine ⟨by omega,by omega,Xac (YaK ?_)⟩
  set_option simprocs false in simp only [wpB,Zad e,zaj e,(show ixN [D.int o,D.int m].length 1=some 1 from ix2_1)]
  refine ⟨by omega,by omega,zai ?_⟩
  have e2:(st.set f (.lst [.int o,.int ((m * 48271 % 2147483647 * 40692 + 30103) % 2147483399 + 1)]))[f]?=some (.lst [.int o,.int ((m * 48271 % 2147483647 * 40692 + 30103) % 2147483399 + 1)]):=List.getElem?_set_self hfl
  set_option simprocs false in simp only [wpB,Zad e2]
  refine ⟨by omega,by omega,h0,Int.emod_nonneg _ (by omega),Int.emod_lt_of_pos _ h0,⟨_,_,e2,o0,by omega,by omega⟩,Ex.refl.put (by simp)⟩
theorem ZbK {st:Store} {a:Nat} {ns:List Int} {k:Nat} (hs:items st a=some (ns.map D.int)) (hk:k≤100):Wp (XaD [.ref a,.int (k:Int)] st) fun d st'=>d=.ref st.length∧FeedIs st' st.length∧Ex [] st st':=by
 refine Xax ?_
 show Ws (ZaJ [some (.ref a),some (.int (k:Int)),none,none] st) _ _ _ _
 unfold ZaJ
 refine Xac (zaf ?_)
 set_option simprocs false in simp only [wpB]
 refine ⟨by omega,Xac (xa0 (N:=fun δ st1=>st1=st∧∃ c:Int,δ=[some (.ref a),some (.int (k:Int)),some (.int c),none]) (yaw ?_) ?_)⟩
 ·set_option simprocs false in simp only [wpB,hs]
  refine ⟨fun h=>zaf ?_,fun h=>yaw ?_⟩
  ·have h:=of_decide_eq_true h
   rw [List.length_map] at h
   set_option simprocs false in simp only [wpB,hs]
   refine ⟨.int (ns[k]'(by omega)),ZaT (by rw [List.getElem?_map,List.getElem?_eq_getElem];rfl),_,rfl⟩
  ·set_option simprocs false in simp only [wpB,hs]
   refine ⟨fun h=>zaf ?_,fun h=>Yak ⟨rfl,_,rfl⟩⟩
   have h:=of_decide_eq_true h
   obtain ⟨v,hv,hm⟩:=atI_lt (xs:=ns.map D.int) (i:=(k:Int) % ((ns.map D.int).length:Int)) (Int.emod_nonneg _ (by omega)) (Int.emod_lt_of_pos _ h)
   obtain ⟨c,_,rfl⟩:=List.mem_map.mp hm
   set_option simprocs false in simp only [wpB,hs]
   refine ⟨h,_,hv,?_⟩
   set_option simprocs false in simp only [wpB]
   exact ⟨by omega,by omega,by omega,_,rfl⟩
 ·rintro δ st1 ⟨rfl,c,rfl⟩
  refine Xac (zaf ?_)
  set_option simprocs false in simp only [wpB]
  refine Xac (xa0 (N:=fun δ st2=>st2=st1∧∃ o:Int,0≤o∧δ=[some (.ref a),some (.int (k:Int)),some (.int c),some (.int o)]) (yaw ?_) ?_)
  ·set_option simprocs false in simp only [wpB]
   refine ⟨by decide,fun h=>zaf ?_,fun h=>Yak ⟨rfl,0,by decide,rfl⟩⟩
   have h:=of_decide_eq_true h
   set_option simprocs false in simp only [wpB]
   exact ⟨c,Int.le_trans (by decide) h,rfl⟩
  ·rintro δ st2 ⟨rfl,o,o0,rfl⟩
   refine zai ?_
   set_option simprocs false in simp only [wpB]
   have h1:0≤c % 2147483629:=Int.emod_nonneg _ (by decide)
   have h2:c % 2147483629 < 2147483629:=Int.emod_lt_of_pos _ (by decide)
   refine ⟨by omega,by omega,by omega,by omega,by omega,by rfl,⟨_,_,Xag,o0,?_,?_⟩,Ex.app0 _⟩
   ·have:=Int.emod_nonneg ((c % 2147483629 * 48271 + 40692 * (k:Int)) ^ (5:Int).toNat) (show (2147483629:Int)≠0 by decide)
    omega
   ·have:=Int.emod_lt_of_pos ((c % 2147483629 * 48271 + 40692 * (k:Int)) ^ (5:Int).toNat) (show (0:Int) < 2147483629 by decide)
    omega
theorem xaV {st:Store} {f:Nat} {n:Nat} (hf:FeedIs st f) (hn:n≤100):Wp (zam [.ref f,.int (n:Int)] st) fun d st'=>∃ xs:List Int,d=.tup (xs.map D.int)∧Mth.Tn n xs∧FeedIs st' f∧Ex [f] st st':=by
 have hfl:=hf.lt
 refine Xax ?_
 show Ws (Zay [some (.ref f),some (.int (n:Int)),none,none] st) _ _ _ _
 unfold Zay
 refine Xac (zaf ?_)
 set_option simprocs false in simp only [wpB]
 have e1:((n:Int) - 0).toNat=n:=by omega
 rw [e1,ZaD]
 refine ⟨by unfold okR;rw [Bool.and_eq_true,decide_eq_true_eq];exact ⟨by omega,zan (by omega)⟩,Xac (zaf ?_)⟩
 set_option simprocs false in simp only [wpB]
 refine ⟨rfl,Xac (XaX (fun m δ st2=>∃ L xs:List Int,m=L.length∧δ=[some (.ref f),some (.int (n:Int)),some (.ref (st ++ [O.rng 0 (n:Int)]).length),some (.tup (xs.map D.int))]∧st2[(st ++ [O.rng 0 (n:Int)]).length]?=some (.lst (L.map D.int))∧(xs ++ L).Perm (Mth.upto n)∧FeedIs st2 f∧Ex [f] st st2) n (Nat.lt_of_le_of_lt hn (by decide)) ⟨Mth.upto n,[],(Mth.Zan n).symm,rfl,Xag,List.Perm.refl _,hf.keep ((Ex.app0 _).app _),(Ex.app0 _).app _⟩ ?_)⟩
 have hl:(st ++ [O.rng 0 (n:Int)]).length≠f:=by rw [List.length_append];omega
 have hls:st.length≤(st ++ [O.rng 0 (n:Int)]).length:=by rw [List.length_append];omega
 generalize (st ++ [O.rng 0 (n:Int)]).length=l at hl hls ⊢
 rintro m δ st2 ⟨L,xs,rfl,rfl,hL,pm,hf2,k2⟩
 have hlen:(xs ++ L).length=n:=by rw [pm.length_eq,Mth.Zan]
 rw [List.length_append] at hlen
 refine Yaa ?_
 intro qhQ hQ
 set_option simprocs false in simp only [wpB,YbH (L:=L) (M:=[]) (st:=st2 ++ [O.lst []]) (Zad (xak hL)) zaq]
 refine ⟨rfl,hQ _ _ ⟨fun h=>?_,fun h=>?_⟩⟩
 ·have hne:L≠[]:=by simpa using h
  have hpos:0 < L.length:=List.length_pos_iff.mpr hne
  have hL3:(st2 ++ [O.lst []])[l]?=some (.lst (L.map D.int)):=xak hL
  have f3:FeedIs (st2 ++ [O.lst []]) f:=hf2.keep (Ex.app0 _)
  have k3:Ex [f] st (st2 ++ [O.lst []]):=k2.app _
  generalize (st2 ++ [O.lst []])=st3 at hL3 f3 k3 ⊢
  refine zaf ?_
  refine Yaa ?_
  intro qhQ hQ
  set_option simprocs false in simp only [wpB,Zad hL3]
  refine ⟨zaR (by rw [Zad hL3];rfl),?_⟩
  refine xab (xam (n:=((L.map D.int).length:Int)) f3 (by rw [List.length_map];omega) (by rw [List.length_map];omega)) ?_
  rintro d st4 ⟨k,rfl,k0,k1,f4,k4⟩
  rw [List.length_map] at k1
  have hL4:=k4.keep _ _ hL3 (by simpa using hl)
  have hkl:k.toNat < L.length:=by omega
  set_option simprocs false in simp only [wpB,zaj hL4]
  have hk':((k.toNat:Nat):Int)=k:=Int.toNat_of_nonneg k0
  refine ⟨by omega,k.toNat,?_,D.int L[k.toNat],by rw [List.getElem?_map,List.getElem?_eq_getElem hkl];rfl,rfl,zan ?_,hQ _ _ ⟨(L.eraseIdx k.toNat).length,?_,L.eraseIdx k.toNat,xs ++ [L[k.toNat]],rfl,?_,?_,?_,?_,?_⟩⟩
  ·rw [← hk',Int.toNat_natCast]
   exact (zbh (ZaL (by rw [List.length_map];exact hkl))).1
  ·simp only [List.length_map,List.length_cons,List.length_nil];omega
  ·rw [List.length_eraseIdx,if_pos hkl];omega
  ·rw [List.map_append];rfl
  ·rw [List.getElem?_set_self (zac hL4),Zbv]
  ·refine List.Perm.trans ?_ pm
   rw [List.append_assoc]
   exact List.Perm.append_left xs (ybk hkl)
  ·exact f4.ne hl
  ·exact (k3.trans k4).loc hls
 ·have he:L=[]:=by simpa using h
  subst he
  refine zai ?_
  refine Yaa ?_
  intro qhQ hQ
  set_option simprocs false in simp only [wpB]
  exact hQ _ _ ⟨xs,rfl,by simpa [Mth.Tn] using pm,hf2.keep (Ex.app0 _),k2.app _⟩
theorem XbT {st:Store} {xs ys:List Int} {n:Nat} (tx:Mth.Tn n xs) (ty:Mth.Tn n ys) (n0:0 < n) (hn:n≤100):Wp (zav [flD xs ys] st) fun d st'=>∃ (g:Nat) (F:List Int),d=.ref g∧items st' g=some (F.map D.int)∧(∀ x,x∈F↔Mth.Rch xs ys x)∧F.length≤n∧Ex [] st st':=by
 have hlx:=tx.length
 have hly:=ty.length
 refine Xax ?_
 show Ws (YaN [some (flD xs ys),none,none,none,none] st) _ _ _ _
 unfold YaN
 refine Xac (zaf ?_)
 refine Yaa ?_
 intro qhQ hQ
 set_option simprocs false in simp only [wpB]
 refine ⟨rfl,hQ _ _ (Xac (YaB (rangeD 0 (n + 1)) (fun i δ st2=>∃ (v2 v3 v4:Option D) (F:List Int),δ=[some (flD xs ys),some (.ref st.length),v2,v3,v4]∧st2[st.length]?=some (.lst (F.map D.int))∧Mth.Fd xs ys F∧(Mth.Cl xs ys F∨i + 1≤F.length)∧Ex [] st st2) ?_ ?_ ?_ ?_))⟩
 ·unfold flD
  refine Yaa ?_
  intro qhQ hQ
  set_option simprocs false in simp only [wpB]
  have e0:((1:Int) + ((xs.map D.int).length:Int)).toNat=n + 1:=by rw [List.length_map];omega
  refine ⟨by rw [List.length_map];omega,hQ _ _ ⟨by rw [e0],none,none,none,[0],rfl,Xag,Mth.Fd.one xs ys,.inr (Nat.le_refl _),Ex.app0 _⟩⟩
 ·rw [Xab];omega
 ·rintro i d δ st2 hd ⟨v2,v3,v4,F,rfl,hg2,hF,hcl,k2⟩
  refine Yaa ?_
  intro qhQ hQ
  set_option simprocs false in simp only [wpB]
  refine hQ _ _ (YaB [.tup (xs.map D.int),.tup (ys.map D.int)] (fun m δ st3=>∃ (v3 v4:Option D) (G:List Int),δ=[some (flD xs ys),some (.ref st.length),some d,v3,v4]∧st3[st.length]?=some (.lst (G.map D.int))∧Mth.Fd xs ys G ∧
    (m=0→G=F)∧(m=1→F <+: G∧∀ x∈F,Mth.app xs x∈G)∧(2≤m→∃ F1,F <+: F1∧F1 <+: G∧(∀ x∈F,Mth.app xs x∈F1)∧∀ x∈F1,Mth.app ys x∈G)∧Ex [] st st3) ?_ (by simp) ?_ ?_)
  ·unfold flD
   refine Yaa ?_
   intro qhQ hQ
   set_option simprocs false in simp only [wpB]
   exact hQ _ _ ⟨rfl,v3,v4,F,rfl,hg2,hF,fun _=>rfl,fun z=>by omega,fun z=>by omega,k2⟩
  ·rintro m z δ st3 hm ⟨v3,v4,G,rfl,hg3,hG,m0,m1,_,k3⟩
   have hm2:m < 2:=zac hm
   obtain ⟨zs,rfl,hz,em⟩:∃ (zs:List Int),z=.tup (zs.map D.int)∧(zs=xs∨zs=ys)∧((m=0∧zs=xs)∨(m=1∧zs=ys)):=by
    rcases (show m=0∨m=1 by omega) with rfl | rfl
    ·exact ⟨xs,by simpa using hm.symm,.inl rfl,.inl ⟨rfl,rfl⟩⟩
    ·exact ⟨ys,by simpa using hm.symm,.inr rfl,.inr ⟨rfl,rfl⟩⟩
   have tz:Mth.Tn n zs:=by rcases hz with rfl | rfl;exact tx;exact ty
   have hlz:=tz.length
   have go:∀ x,Mth.Rch xs ys x→Mth.Rch xs ys (Mth.app zs x):=fun x h=>by rcases hz with rfl | rfl;exact h.r;exact h.u
   refine Yaa ?_
   intro qhQ hQ
   set_option simprocs false in simp only [wpB]
   refine hQ _ _ (Ybj (G.map D.int) st3.length (fun j δ st4=>∃ (v4:Option D) (G':List Int),δ=[some (flD xs ys),some (.ref st.length),some d,some (.tup (zs.map D.int)),v4]∧st4[st.length]?=some (.lst (G'.map D.int))∧st4[st3.length]?=some (.lst (G.map D.int))∧Mth.Fd xs ys G'∧G <+: G'∧(∀ i',i' < j→∀ x,G[i']?=some x→Mth.app zs x∈G')∧Ex [] st st4) ?_ ?_ ?_ ?_ ?_)
   ·refine Yaa ?_
    intro qhQ hQ
    set_option simprocs false in simp only [wpB,Zad hg3]
    exact hQ _ _ ⟨rfl,v4,G,rfl,xak hg3,Xag,hG,List.prefix_refl _,fun i' h=>absurd h (Nat.not_lt_zero _),k3.app _⟩
   ·rw [List.length_map]
    have:=hG.len tx ty n0
    omega
   ·rintro j δ st4 ⟨_,_,_,_,h,_⟩
    exact Zad h
   ·rintro j y0' δ st4 hj0 ⟨v4,G',rfl,hg4,hl4,hG',pG,hd',k4⟩
    obtain ⟨y,hj,rfl⟩:=yaR hj0
    have hjl:=zac hj
    have hR:=hG.mt _ (List.mem_of_getElem? hj)
    obtain ⟨y0,y1⟩:=hR.bound tx ty n0
    have at':=Zak (xs:=zs) y0 (by rw [hlz];exact y1)
    have hnext:∀ G'':List Int,G' <+: G''→Mth.app zs y∈G''→∀ i',i' < j + 1→∀ x,G[i']?=some x→Mth.app zs x∈G'':=fun G'' p h i' hi' x hx=>by
     by_cases e:i'=j
     ·subst e
      rw [hj] at hx
      cases hx;exact h
     ·exact p.subset (hd' i' (by omega) x hx)
    refine Yaa ?_
    intro qhQ hQ
    set_option simprocs false in simp only [wpB]
    refine hQ _ _ (yaw ?_)
    refine Yaa ?_
    intro qhQ2 hQ2
    set_option simprocs false in simp only [wpB,at',xbY (st:=st4) (c:=.ref st.length) (ns:=G') (Zad hg4)]
    refine hQ2 _ _ ⟨fun hcn=>?_,fun hcn=>?_⟩
    ·have hnm:Mth.app zs y ∉ G':=fun z=>by rw [List.contains_iff_mem.mpr z] at hcn;cases hcn
     have hG2:Mth.Fd xs ys (G' ++ [Mth.app zs y]):=by
      refine ⟨List.mem_append_left _ hG'.z,?_,fun x hx=>?_⟩
      ·rw [List.nodup_append]
       refine ⟨hG'.nd,by simp,fun x hx y' hy e=>hnm ?_⟩
       have e2:y'=Mth.app zs y:=by simpa using hy
       rw [← e2,← e];exact hx
      ·rcases List.mem_append.mp hx with h | h
       ·exact hG'.mt x h
       ·have e2:x=Mth.app zs y:=by simpa using h
        rw [e2];exact go _ hR
     have hlen2:=hG2.len tx ty n0
     rw [List.length_append] at hlen2
     refine xa8 ?_
     refine Yaa ?_
     intro qhQ3 hQ3
     set_option simprocs false in simp only [wpB,at',zaj hg4]
     refine ⟨zaR (by rw [Zad hg4];rfl),zan (by rw [List.length_map];simp at hlen2;omega),hQ3 _ _ ⟨_,G' ++ [Mth.app zs y],rfl,?_,?_,hG2,pG.trans (List.prefix_append _ _),hnext _ (List.prefix_append _ _) (by simp),k4.loc (Nat.le_refl _)⟩⟩
     ·rw [List.getElem?_set_self (zac hg4),List.map_append];rfl
     ·rw [List.getElem?_set_ne (by have:=zac hg3;omega)];exact hl4
    ·have hcn:G'.contains (Mth.app zs y)=true:=by simpa using hcn
     exact Yak ⟨_,G',rfl,hg4,hl4,hG',pG,hnext G' (List.prefix_refl _) (List.contains_iff_mem.mp hcn),k4⟩
   ·rintro δ st4 ⟨v4,G',rfl,hg4,hl4,hG',pG,hd',k4⟩
    rw [List.length_map] at hd'
    have hall:∀ x∈G,Mth.app zs x∈G':=fun x hx=>by
     obtain ⟨i',hi',e⟩:=List.getElem_of_mem hx
     exact hd' i' hi' x (by rw [List.getElem?_eq_getElem hi',e])
    refine ⟨_,_,G',rfl,hg4,hG',fun z=>by omega,fun z=>?_,fun z=>?_,k4⟩
    ·rcases em with ⟨rfl,rfl⟩ | ⟨rfl,_⟩
     ·have:=m0 rfl
      subst this
      exact ⟨pG,hall⟩
     ·omega
    ·rcases em with ⟨rfl,_⟩ | ⟨rfl,rfl⟩
     ·omega
     ·obtain ⟨p1,c1⟩:=m1 rfl
      exact ⟨G,p1,pG,c1,hall⟩
  ·rintro δ st3 ⟨v3,v4,G,rfl,hg3,hG,_,_,m2,k3⟩
   obtain ⟨F1,p1,p2,c1,c2⟩:=m2 (Nat.le_refl 2)
   exact ⟨_,_,_,G,rfl,hg3,hG,Mth.round hF hG p1 p2 c1 c2 hcl,k3⟩
 ·rintro δ st2 ⟨v2,v3,v4,F,rfl,hg2,hF,hcl,k2⟩
  rw [Xab] at hcl
  have hl:=hF.len tx ty n0
  have hc:Mth.Cl xs ys F:=hcl.resolve_right (by omega)
  refine zai ?_
  refine Yaa ?_
  intro qhQ hQ
  set_option simprocs false in simp only [wpB]
  exact hQ _ _ ⟨_,F,rfl,Zad hg2,fun x=>⟨hF.mt x,fun h=>hc.all hF.z h⟩,hl,k2⟩
theorem ya5 {st:Store} {δ:DSt} {X Y:List Int} {n:Nat} {Q:D→Store→Prop} (tX:Mth.Tn n X) (tY:Mth.Tn n Y) (n0:0 < n) (hn:n≤100) (h1:δ[1]?=some (some (.int (n:Int)))) (h6:δ[6]?=some (some (flD X Y)))
  (q:∀ (L:List Int) (st':Store),L.length≤n→L.Nodup→(∀ x,x∈L↔(0≤x∧x < (n:Int)∧¬ Mth.Rch X Y x))→Ex [] st st'→Q (.ref st'.length) (st' ++ [.lst (L.map D.int)])) :
  Wp (fComp (iRng1F (fCons (fVar 1) fNil)) 1 [6] (hName 0) (fTest (fOp (gIn true) (fVar 0) (fCB zav (fCons (fVar 1) fNil)))) (fVar 0) δ st) Q:=by
 have h6':δ.getD 6 none=some (flD X Y):=by rw [List.getD_eq_getElem?_getD,h6];rfl
 refine Xa0 (rangeD 0 n) (fun j zs δ' st8=>∃ (v:Option D) (L:List Int),δ'=[v,some (flD X Y)]∧zs=L.map D.int∧L.length≤j∧L.Nodup∧(∀ x,x∈L↔(0≤x∧x < (j:Int)∧¬ Mth.Rch X Y x))∧Ex [] st st8) ?_ (by rw [Xab];omega) ?_ ?_ ?_
 ·refine Yaa ?_
  intro qhQ hQ
  set_option simprocs false in simp only [wpB,h1]
  refine ⟨by omega,hQ _ _ ⟨fun i ys δ st hi _=>?_,none,[],?_,rfl,Nat.le_refl _,List.nodup_nil,fun x=>⟨(fun h=>nomatch h),fun h=>by omega⟩,Ex.refl⟩⟩
  ·rw [Int.toNat_natCast]
   show (if i≤(rangeD 0 n).length then some (rangeD 0 n)[i]? else none)=_
   rw [if_pos hi]
  ·unfold compD
   simp only [List.map_cons,List.map_nil,h6']
   rfl
 ·rintro j zs δ' st8 ⟨v,L,_,rfl,hl,_⟩
  rw [List.length_map];exact hl
 ·rintro j d zs δ' st8 hd ⟨v,L,rfl,rfl,hll,nd,hL,k8⟩
  have hjl:=zac hd
  rw [Xab] at hjl
  rw [xax hjl] at hd
  cases hd
  rw [Int.zero_add]
  refine Yaa ?_
  intro qhQ hQ
  set_option simprocs false in simp only [wpB]
  refine hQ _ _ ?_
  refine Yaa ?_
  intro qhQ2 hQ2
  set_option simprocs false in simp only [wpB]
  refine xab (XbT (st:=st8) tX tY n0 hn) ?_
  rintro d st9 ⟨g,F,rfl,hg,hF,hFl,k9⟩
  rw [xbY (c:=.ref g) (ns:=F) hg]
  refine ⟨_,rfl,hQ2 _ _ ⟨fun hc=>?_,fun hc=>?_⟩⟩
  ·have hR:¬ Mth.Rch X Y (j:Int):=fun h=>by rw [List.contains_iff_mem.mpr ((hF _).mpr h)] at hc;cases hc
   refine Yaa ?_
   intro qhQ3 hQ3
   set_option simprocs false in simp only [wpB]
   refine hQ3 _ _ ⟨_,L ++ [(j:Int)],rfl,by rw [List.map_append];rfl,by rw [List.length_append];simp;omega,?_,fun x=>?_,k8.trans k9⟩
   ·rw [List.nodup_append]
    refine ⟨nd,by simp,fun x hx y hy e=>?_⟩
    have e2:y=(j:Int):=by simpa using hy
    have:=((hL x).mp hx).2.1
    omega
   ·rw [List.mem_append,hL x]
    constructor
    ·rintro (⟨a1,a2,a3⟩ | h)
     ·exact ⟨a1,by omega,a3⟩
     ·have e2:x=(j:Int):=by simpa using h
      rw [e2];exact ⟨by omega,by omega,hR⟩
    ·rintro ⟨a1,a2,a3⟩
     rcases Int.lt_or_le x (j:Int) with h | h
     ·exact .inl ⟨a1,h,a3⟩
     ·exact .inr (by simp;omega)
  ·have hc:F.contains (j:Int)=true:=by simpa using hc
   have hR:=(hF _).mp (List.contains_iff_mem.mp hc)
   refine ⟨_,L,rfl,rfl,by omega,nd,fun x=>?_,k8.trans k9⟩
   rw [hL x]
   constructor
   ·rintro ⟨a1,a2,a3⟩;exact ⟨a1,by omega,a3⟩
   ·rintro ⟨a1,a2,a3⟩
    refine ⟨a1,?_,a3⟩
    rcases Int.lt_or_le x (j:Int) with h | h
    ·exact h
    ·exact absurd hR (by rw [show (j:Int)=x by omega];exact a3)
 ·rintro zs δ' st8 ⟨v,L,rfl,rfl,hll,nd,hL,k8⟩
  rw [Xab] at hll hL
  exact q L st8 hll nd hL k8
theorem Za5 {st:Store} {f n:Nat} (hf:FeedIs st f) (n1:1≤n) (n20:n≤20):Wp (Zaq [.ref f,.int (n:Int)] st) fun d st'=>∃ xs ys:List Int,d=flD xs ys∧IsFl n xs ys∧FeedIs st' f∧Ex [f] st st':=by
 have hfl:=hf.lt
 refine Xax ?_
 show Ws (zaF [some (.ref f),some (.int (n:Int)),none,none,none,none,none,none,none] st) _ _ _ _
 unfold zaF
 refine Xac (zaf ?_)
 refine Yaa ?_
 intro qhQ hQ
 set_option simprocs false in simp only [wpB]
 refine xab (xam (n:=6) hf (by decide) (by decide)) ?_
 rintro d st1 ⟨form,rfl,g0,g6,f1,k1⟩
 refine hQ _ _ (Xac (xbo ?_))
 clear hQ
 refine Yaa ?_
 intro qhQ hQ
 set_option simprocs false in simp only [wpB]
 refine xab (xaV (n:=n) f1 (by omega)) ?_
 rintro d st2 ⟨X,rfl,tX,f2,k2⟩
 set_option simprocs false in simp only [wpB]
 refine xab (xaV (n:=n) (f2.keep (Ex.app0 [.lst (X.map D.int)])) (by omega)) ?_
 rintro d st3 ⟨Y,rfl,tY,f3,k3⟩
 set_option simprocs false in simp only [wpB]
 refine hQ _ _ ⟨_,_,rfl,?_⟩
 clear hQ
 have hr3:st3[st2.length]?=some (.lst (X.map D.int)):=k3.keep _ _ Xag (by have:=f2.lt;simp;omega)
 have two:Two st (st3 ++ [.lst (Y.map D.int)]) f st2.length st3.length n X Y:=⟨xak hr3,Xag,by have:=zac hr3;omega,(k1.trans k2).len,((k1.trans k2).trans ((Ex.app0 _).trans k3)).len,tX,tY,f3.keep (Ex.app0 _),(((k1.trans k2).app _).trans k3).app _⟩
 show Ws _ _ _ _ _
 generalize (st3 ++ [O.lst (Y.map D.int)])=st4 at two ⊢
 generalize st2.length=r at two ⊢
 generalize st3.length=u at two ⊢
 clear hr3 tX tY f3 k3 f2 k2 f1 k1
 refine Xac (xa0 (N:=fun δ st5=>∃ (r u:Nat) (X Y:List Int),δ=[some (.ref f),some (.int (n:Int)),some (.int form),some (.ref r),some (.ref u),none,none,none,none]∧Two st st5 f r u n X Y) (yaw ?_) ?_)
 ·refine Yaa ?_
  intro qhQ hQ
  set_option simprocs false in simp only [wpB]
  refine hQ _ _ ⟨fun _=>zaf ?_,fun _=>Yak ⟨r,u,X,Y,rfl,two⟩⟩
  refine Yaa ?_
  intro qhQ2 hQ2
  set_option simprocs false in simp only [wpB]
  rw [← xbH]
  refine ⟨yaM (by omega),rfl,zan (by rw [Xab];simp;omega),hQ2 _ _ ⟨_,u,_,Y,rfl,(two.keep (((Ex.app0 _).app _).app _)).setR (Mth.Ybn (show n < 21 by omega) (by omega))⟩⟩
 rintro δ st5 ⟨r,u,X,Y,rfl,two⟩
 refine Xac (xa0 (N:=fun δ st5=>∃ (r u:Nat) (X Y:List Int),δ=[some (.ref f),some (.int (n:Int)),some (.int form),some (.ref r),some (.ref u),none,none,none,none]∧Two st st5 f r u n X Y) (yaw ?_) ?_)
 ·refine Yaa ?_
  intro qhQ hQ
  set_option simprocs false in simp only [wpB]
  refine hQ _ _ ⟨fun _=>xbo ?_,fun _=>Yak ⟨r,u,X,Y,rfl,two⟩⟩
  refine Yaa ?_
  intro qhQ2 hQ2
  set_option simprocs false in simp only [wpB]
  rw [← xbH,show ((n:Int) - 0).toNat=n by omega,ZaD]
  refine ⟨yaM (by omega),yaM (by omega),rfl,zan (by rw [Xab];simp;omega),hQ2 _ _ ⟨_,_,rfl,_,_,_,_,rfl,(((two.keep (Ex.app0 [.rng 0 (n:Int)])).setR (Z:=Mth.upto n) (List.Perm.refl _)).keep (((Ex.app0 _).app _).app _)).setU (Mth.Ybn (show n < 21 by omega) (by omega))⟩⟩
 rintro δ st6 ⟨r,u,X,Y,rfl,two⟩
 refine Xac (xa0 (N:=fun δ st5=>∃ (r u:Nat) (v5:Option D) (X Y:List Int),δ=[some (.ref f),some (.int (n:Int)),some (.int form),some (.ref r),some (.ref u),v5,none,none,none]∧Two st st5 f r u n X Y) (yaw ?_) ?_)
 ·refine Yaa ?_
  intro qhQ hQ
  set_option simprocs false in simp only [wpB]
  refine hQ _ _ ⟨fun _=>Xac (zaf ?_),fun _=>Yak ⟨r,u,none,X,Y,rfl,two⟩⟩
  refine Yaa ?_
  intro qhQ2 hQ2
  set_option simprocs false in simp only [wpB]
  refine xab (xam (n:=(n:Int)) two.fd (by omega) (by omega)) ?_
  rintro d st7 ⟨w,rfl,w0,w1,f7,k7⟩
  obtain ⟨wd,rfl⟩:∃ wd:Nat,w=(wd:Int) - 1:=⟨(w + 1).toNat,by omega⟩
  have t7:Two st st7 f r u n X Y:=⟨k7.keep _ _ two.hr (by have:=two.r0;simp;omega),k7.keep _ _ two.hu (by have:=two.u0;simp;omega),two.ne,two.r0,two.u0,two.tX,two.tY,f7,two.ex.trans k7⟩
  set_option simprocs false in simp only [wpB]
  rw [show (1:Int) + ((wd:Int) - 1)=(wd:Int) by omega]
  refine hQ2 _ _ (Xac (zaf ?_))
  clear hQ2 hQ
  refine Yaa ?_
  intro qhQ2 hQ2
  set_option simprocs false in simp only [wpB]
  rw [← rowR_D]
  refine ⟨yaM (by omega),rfl,zan (by rw [Xab];simp;omega),yaM (by omega),zan (by rw [List.length_append,Xab,Xab];simp;omega),hQ2 _ _ (Xac (zaf ?_))⟩
  clear hQ2
  have t8:=(t7.keep ((((((Ex.app0 [.rng 1 (wd:Int)]).app [.lst (rangeD 1 ((wd:Int) - 1).toNat)]).app [.lst [.int 0]]).app [.lst (rangeD 1 ((wd:Int) - 1).toNat ++ [.int 0])]).app [.rng (wd:Int) (n:Int)]).app [.lst (rangeD (wd:Int) ((n:Int) - (wd:Int)).toNat)])).setR (Mth.Xb3 (w:=wd) (show n < 21 by omega) (by omega) (by omega))
  generalize hst8:(st7 ++ _ ++ _ ++ _ ++ _ ++ _ ++ _ ++ _:Store)=st8 at t8 ⊢
  generalize List.length _=r8 at t8 ⊢
  refine Yaa ?_
  intro qhQ2 hQ2
  set_option simprocs false in simp only [wpB]
  refine ⟨rfl,yaM (by omega),zan (by simp [Xab];omega),yaM (by omega),zan (by simp [Xab];omega),rfl,zan (by simp [Xab];omega),hQ2 _ _ (yaw ?_)⟩
  clear hQ2
  generalize hsE:(st8 ++ _ ++ _ ++ _ ++ _ ++ _ ++ _ ++ _ ++ _ ++ _:Store)=stE
  have tE:Two st stE f r8 u n (Mth.rowR wd n) Y:=by rw [← hsE];exact t8.keep (((((((((Ex.app0 _).app _).app _).app _).app _).app _).app _).app _).app _)
  refine Yaa ?_
  intro qhQ hQ
  set_option simprocs false in simp only [wpB]
  refine hQ _ _ ⟨fun hw=>?_,fun hw=>?_⟩
  ·refine zaf ?_
   refine Yaa ?_
   intro qhQ2 hQ2
   set_option simprocs false in simp only [wpB]
   rw [show ((n:Int) - 0).toNat=n by omega,ZaD]
   exact ⟨yaM (by omega),hQ2 _ _ ⟨r8,_,_,_,_,rfl,(tE.keep ((Ex.app0 _).app _)).setU (List.Perm.refl _)⟩⟩
  ·have hne:wd≠n:=fun z=>by simp [z] at hw
   have tF:=tE.setU (Mth.zb4 (w:=wd) (show n < 21 by omega) (by omega) (by omega))
   rw [colU_D (by omega) (by omega)] at tF
   exact Yak ⟨r8,_,_,_,_,rfl,tF⟩
 rintro δ st7 ⟨r,u,v5,X,Y,rfl,two⟩
 have n0:0 < n:=by omega
 refine Xac (zaf ?_)
 refine Yaa ?_
 intro qhQ hQ
 set_option simprocs false in simp only [wpB,Zad two.hr,Zad two.hu]
 refine ⟨rfl,hQ _ _ (Xac (zaf (ya5 (X:=X) (Y:=Y) two.tX two.tY n0 (by omega) rfl rfl ?_)))⟩
 clear hQ
 intro L st8 hll nd hL k8
 have t8:=(two.keep k8).keep (Ex.app0 [.lst (L.map D.int)])
 refine Xac (XaX (fun mm δ st9=>∃ (pa:Nat) (X L:List Int) (v8:Option D),mm=L.length∧δ=[some (.ref f),some (.int (n:Int)),some (.int form),some (.ref r),some (.ref u),v5,some (flD X Y),some (.ref pa),v8]∧Two st st9 f r u n X Y∧items st9 pa=some (L.map D.int)∧L.length≤n∧L.Nodup∧(∀ x,x∈L↔(0≤x∧x < (n:Int)∧¬ Mth.Rch X Y x))) L.length (Nat.lt_of_le_of_lt hll (Nat.lt_of_le_of_lt n20 (by decide))) ⟨_,X,L,none,rfl,rfl,t8,zaq,hll,nd,hL⟩ ?_)
 rintro mm δ st9 ⟨pa,X,L,v8,rfl,rfl,two,hpa,hll,nd,hL⟩
 have hlX:=two.tX.length
 have hpa2:items (st9 ++ [O.lst []]) pa=some (L.map D.int):=by
  unfold items at hpa ⊢
  cases e:st9[pa]? with
  | none=>rw [e] at hpa;cases hpa
  | some o=>rw [xak e];rw [e] at hpa;exact hpa
 refine Yaa ?_
 intro qhQ hQ
 set_option simprocs false in simp only [wpB,YbH (L:=L) (M:=[]) (st:=st9 ++ [O.lst []]) hpa2 zaq]
 refine ⟨rfl,hQ _ _ ⟨fun h=>?_,fun h=>?_⟩⟩
 ·have hne:L≠[]:=by simpa using h
  clear hQ
  obtain ⟨m,L1,rfl⟩:∃ m L1,L=m :: L1:=by cases L with | nil=>exact absurd rfl hne | cons m L1=>exact ⟨m,L1,rfl⟩
  obtain ⟨m0,m1,mR⟩:=(hL m).mp List.mem_cons_self
  have t2:=two.keep (Ex.app0 [O.lst []])
  generalize (st9 ++ [O.lst []])=stE at hpa2 t2 ⊢
  refine Xac (zaf ?_)
  refine Yaa ?_
  intro qhQ hQ
  set_option simprocs false in simp only [wpB,hpa2,List.map_cons]
  refine hQ _ _ (Xac (YaK ?_))
  clear hQ
  refine Yaa ?_
  intro qhQ hQ
  set_option simprocs false in simp only [wpB,Zad t2.hr,Zak (xs:=X) m0 (by omega),Zak (xs:=X) (i:=0) (by decide) (by omega)]
  refine ⟨rfl,hQ _ _ ?_⟩
  clear hQ
  have i0:ixN (X.map D.int).length 0=some 0:=ZaL (j:=0) (by rw [List.length_map];omega)
  have im:ixN ((X.map D.int).set 0 (.int (Mth.app X m))).length m=some m.toNat:=by
   rw [List.length_set]
   have:=ZaL (n:=(X.map D.int).length) (j:=m.toNat) (by rw [List.length_map];omega)
   rwa [Int.toNat_of_nonneg m0] at this
  have hr3:(stE.set r (.lst ((X.map D.int).set 0 (.int (Mth.app X m)))))[r]?=some (.lst ((X.map D.int).set 0 (.int (Mth.app X m)))):=List.getElem?_set_self (zac t2.hr)
  have eS:((X.map D.int).set 0 (.int (Mth.app X m))).set m.toNat (.int (Mth.app X 0))=(Mth.swp X m.toNat).map D.int:=by
   unfold Mth.swp
   rw [Int.toNat_of_nonneg m0,List.map_set,List.map_set]
  refine Yaa ?_
  intro qhQ hQ
  set_option simprocs false in simp only [wpB,zaj t2.hr,zaj hr3,i0,im,eS]
  refine ⟨rfl,hQ _ _ (Xac (zaf ?_))⟩
  clear hQ
  have tS:=Mth.swp_tn t2.tX (m:=m.toNat) (by omega)
  have hmet:=Mth.Zb3 t2.tX t2.tY (m:=m.toNat) (by omega) (by rw [Int.toNat_of_nonneg m0];exact mR)
  rw [Int.toNat_of_nonneg m0] at hmet
  rw [List.set_set]
  have t3:=t2.put (Z:=Mth.swp X m.toNat) tS hfl
  generalize stE.set r _=st3 at t3 ⊢
  refine Yaa ?_
  intro qhQ hQ
  set_option simprocs false in simp only [wpB,Zad t3.hr,Zad t3.hu]
  refine ⟨rfl,hQ _ _ (zaf (ya5 (X:=Mth.swp X m.toNat) (Y:=Y) t3.tX t3.tY n0 (by omega) rfl rfl ?_))⟩
  intro L' st4 hll' nd' hL' k4
  refine ⟨_,?_,st4.length,Mth.swp X m.toNat,L',_,rfl,rfl,(t3.keep k4).keep (Ex.app0 _),zaq,hll',nd',hL'⟩
  refine Mth.less (m:=m) nd' (fun x hx=>?_) List.mem_cons_self (fun h=>((hL' m).mp h).2.2 hmet.1)
  obtain ⟨a1,a2,a3⟩:=(hL' x).mp hx
  exact (hL x).mpr ⟨a1,a2,fun h=>a3 (hmet.2 x h)⟩
 ·have he:L=[]:=by simpa using h
  subst he
  refine zai ?_
  refine Yaa ?_
  intro qhQ2 hQ2
  set_option simprocs false in simp only [wpB]
  have t2:=two.keep (Ex.app0 [O.lst []])
  refine hQ2 _ _ ⟨X,Y,rfl,⟨t2.tX,t2.tY,fun x x0 x1=>?_⟩,t2.fd,t2.ex⟩
  exact Classical.byContradiction fun h=>nomatch (hL x).mpr ⟨x0,x1,h⟩
theorem ZaS {st:Store} {xs:List Int} {n:Nat} (tn:Mth.Tn n xs) (hn:n≤100):Wp (zah [.tup (xs.map D.int)] st) fun d st'=>d=.tup ((Mth.inv xs).map D.int)∧Ex [] st st':=by
 have hlen:=tn.length
 refine Xax ?_
 show Ws (yaC [some (.tup (xs.map D.int)),none,none,none] st) _ _ _ _
 unfold yaC
 refine Xac (zaf ?_)
 refine Yaa ?_
 intro qhQ hQ
 set_option simprocs false in simp only [wpB]
 have e0:(((xs.map D.int).length:Int)).toNat=n:=by rw [List.length_map];omega
 have ez:(List.replicate n [D.int 0]).flatten=(List.replicate n (0:Int)).map D.int:=by
  induction n with
  | zero=>rfl
  | succ n ih=>simp [List.replicate_succ]
 rw [e0,ez]
 refine ⟨rfl,by rw [List.length_map];omega,zan (by simp;omega),hQ _ _ (Xac (YaB (enumD (xs.map D.int)) (fun k δ st2=>∃ (v2 v3:Option D) (bs:List Int),δ=[some (.tup (xs.map D.int)),some (.ref (st ++ [O.lst [D.int 0]]).length),v2,v3]∧st2[(st ++ [O.lst [D.int 0]]).length]?=some (.lst (bs.map D.int))∧bs.length=n∧(∀ j,j < k→∀ x,xs[j]?=some x→bs[x.toNat]?=some (j:Int))∧Ex [] st st2) ?_ ?_ ?_ ?_))⟩
 ·refine Yaa ?_
  intro qhQ hQ
  set_option simprocs false in simp only [wpB]
  exact hQ _ _ ⟨rfl,none,none,_,rfl,Xag,by simp,fun j hj=>absurd hj (Nat.not_lt_zero _),(Ex.app0 _).app _⟩
 ·rw [Zaj,List.length_map];omega
 ·have hB0:st.length≤(st ++ [O.lst [D.int 0]]).length:=by simp
  generalize (st ++ [O.lst [D.int 0]]).length=B at hB0 ⊢
  rintro k d δ st2 hd ⟨v2,v3,bs,rfl,hB,hbl,hbs,k2⟩
  obtain ⟨d',hd',rfl⟩:=XaG hd
  obtain ⟨x,hx,rfl⟩:=yaR hd'
  obtain ⟨x0,x1⟩:=tn.bound (List.mem_of_getElem? hx)
  have hkl:=zac hx
  refine Yaa ?_
  intro qhQ hQ
  set_option simprocs false in simp only [wpB]
  refine ⟨rfl,hQ _ _ (YaK ?_)⟩
  have hix:ixN (bs.map D.int).length x=some x.toNat:=by
   have:=ZaL (n:=(bs.map D.int).length) (j:=x.toNat) (by rw [List.length_map];omega)
   rwa [Int.toNat_of_nonneg x0] at this
  have es:(bs.map D.int).set x.toNat (.int (k:Int))=(bs.set x.toNat (k:Int)).map D.int:=by rw [List.map_set]
  refine Yaa ?_
  intro qhQ2 hQ2
  set_option simprocs false in simp only [wpB]
  refine hQ2 _ _ ?_
  refine Yaa ?_
  intro qhQ3 hQ3
  set_option simprocs false in simp only [wpB,zaj hB,hix,es]
  refine hQ3 _ _ ⟨_,_,bs.set x.toNat (k:Int),rfl,List.getElem?_set_self (zac hB),by rw [List.length_set];exact hbl,fun j hj y hy=>?_,k2.loc hB0⟩
  by_cases hjk:j=k
  ·subst hjk
   rw [hx] at hy
   cases hy
   rw [List.getElem?_set_self (by rw [hbl];omega)]
  ·obtain ⟨y0,y1⟩:=tn.bound (List.mem_of_getElem? hy)
   rw [List.getElem?_set_ne (fun z=>?_)]
   ·exact hbs j (by omega) y hy
   ·obtain ⟨h1,e1⟩:=List.getElem?_eq_some_iff.mp hx
    obtain ⟨h2,e2⟩:=List.getElem?_eq_some_iff.mp hy
    exact hjk ((List.getElem_inj tn.nodup).mp (show xs[j]=xs[k] by omega))
 ·rintro δ st2 ⟨v2,v3,bs,rfl,hB,hbl,hbs,k2⟩
  rw [Zaj,List.length_map] at hbs
  have eb:bs=Mth.inv xs:=by
   apply List.ext_getElem?
   intro i
   by_cases hi:i < n
   ·have hm:=tn.mem (i:=(i:Int)) (by omega) (by omega)
    have hil:=List.idxOf_lt_length_of_mem hm
    have:=hbs (xs.idxOf (i:Int)) hil (i:Int) (by rw [List.getElem?_eq_getElem hil];exact congrArg some (List.getElem_idxOf hil))
    rw [Int.toNat_natCast] at this
    rw [this]
    have ea:=Mth.xaj (xs:=Mth.inv xs) (i:=(i:Int)) (by omega) (by rw [Mth.yaG];omega)
    rw [Int.toNat_natCast,Mth.xaZ (by omega) (by omega)] at ea
    exact ea.symm
   ·rw [List.getElem?_eq_none (by omega),List.getElem?_eq_none (by rw [Mth.yaG];omega)]
  subst eb
  refine zai ?_
  refine Yaa ?_
  intro qhQ hQ
  set_option simprocs false in simp only [wpB,Zad hB]
  exact hQ _ _ ⟨rfl,k2⟩
theorem XaJ {st:Store} {xs ys:List Int} (hb:∀ x∈xs,0≤x∧x < (ys.length:Int)) (hn:xs.length≤100):Wp (yas [.tup (xs.map D.int),.tup (ys.map D.int)] st) fun d st'=>d=.tup ((Mth.fol xs ys).map D.int)∧Ex [] st st':=by
 refine Xax ?_
 show Ws (zaO [some (.tup (xs.map D.int)),some (.tup (ys.map D.int))] st) _ _ _ _
 unfold zaO
 refine zai ?_
 refine Yaa ?_
 intro qhQ hQ
 set_option simprocs false in simp only [wpB]
 refine ZaN (xs.map D.int) (fun d=>.int (Mth.app ys (inD d))) ?_ (by rw [List.length_map];omega) ?_ ?_
 ·refine Yaa ?_
  intro qhQ2 hQ2
  set_option simprocs false in simp only [wpB]
  exact hQ2 _ _ ⟨ZaP _ _,Ex.refl⟩
 ·intro d hd st1 k1
  obtain ⟨x,hx,rfl⟩:=ZaR hd
  obtain ⟨x0,x1⟩:=hb x hx
  refine Yaa ?_
  intro qhQ2 hQ2
  set_option simprocs false in simp only [wpB,List.map_cons,List.map_nil,List.getD_cons_succ,List.getD_cons_zero,Zak (xs:=ys) x0 x1]
  exact hQ2 _ _ ⟨rfl,Ex.refl⟩
 ·intro st' k'
  rw [ybI (f:=Mth.app ys) fun x hx=>rfl]
  set_option simprocs false in simp only [wpB]
  exact hQ _ _ ⟨rfl,k'.app _⟩
theorem YbK {st:Store} {xs:List Int} {n:Nat} {i:Int} (tn:Mth.Tn n xs) (hn:n≤100) (i0:0≤i) (i1:i < (n:Int)):Wp (yaE [.tup (xs.map D.int),.int i] st) fun d st'=>∃ r:List Int,d=.tup (r.map D.int)∧Mth.IsRing xs i r∧Ex [] st st':=by
 have hlen:=tn.length
 refine Xax ?_
 show Ws (YaJ [some (.tup (xs.map D.int)),some (.int i),none,none] st) _ _ _ _
 unfold YaJ
 refine Xac (zaf ?_)
 refine Yaa ?_
 intro qhQ hQ
 set_option simprocs false in simp only [wpB]
 refine ⟨rfl,hQ _ _ (Xac (zaf ?_))⟩
 clear hQ
 refine Yaa ?_
 intro qhQ hQ
 set_option simprocs false in simp only [wpB,Zak (xs:=xs) i0 (by omega)]
 refine hQ _ _ (Xac (XaX (fun m δ st2=>∃ k:Nat,m=n - (k + 1)∧δ=[some (.tup (xs.map D.int)),some (.int i),some (.ref st.length),some (.int (Mth.itr xs i (k + 1)))]∧st2[st.length]?=some (.lst ((Mth.row xs i k).map D.int))∧Mth.NB xs i k∧Ex [] st st2) (n - 1) (Nat.lt_of_le_of_lt (show n - 1≤100 by omega) (by decide)) ⟨0,rfl,rfl,Xag,fun j h1 h2=>by omega,Ex.app0 _⟩ ?_))
 clear hQ
 rintro m δ st2 ⟨k,rfl,rfl,hL,nb,k2⟩
 have hrl:=tn.row_le i0 i1 nb
 refine Yaa ?_
 intro qhQ hQ
 set_option simprocs false in simp only [wpB]
 refine hQ _ _ ⟨fun hb=>?_,fun hb=>?_⟩
 ·have hb:Mth.itr xs i (k + 1)≠i:=by simpa using hb
  have nb':Mth.NB xs i (k + 1):=fun j h1 h2=>by
   by_cases hj:j≤k
   ·exact nb j h1 hj
   ·have:j=k + 1:=by omega
    rw [this];exact hb
  have hle:=tn.row_le i0 i1 nb'
  have hit:=tn.itr i0 i1 (k + 1)
  refine Xac (xa8 ?_)
  refine Yaa ?_
  intro qhQ2 hQ2
  set_option simprocs false in simp only [wpB,zaj hL]
  refine ⟨zaR (by rw [Zad hL];rfl),zan (by rw [List.length_map,Mth.xaM];omega),hQ2 _ _ (zaf ?_)⟩
  clear hQ2
  refine Yaa ?_
  intro qhQ2 hQ2
  set_option simprocs false in simp only [wpB,Zak (xs:=xs) hit.1 (by omega)]
  refine hQ2 _ _ ⟨n - (k + 1 + 1),by omega,k + 1,rfl,rfl,?_,nb',k2.loc (Nat.le_refl _)⟩
  rw [List.getElem?_set_self (zac hL),Mth.XbO,List.map_append];rfl
 ·have hb:Mth.itr xs i (k + 1)=i:=by simpa using hb
  refine zai ?_
  refine Yaa ?_
  intro qhQ2 hQ2
  set_option simprocs false in simp only [wpB,Zad hL]
  exact hQ2 _ _ ⟨_,rfl,⟨k,rfl,nb,hb⟩,k2⟩
theorem Ybv {st:Store} {xs:List Int} {n:Nat} (tn:Mth.Tn n xs) (hn:n≤100):Wp (YaH [.tup (xs.map D.int)] st) fun d st'=>∃ rs:List (List Int),d=tts rs∧Mth.Rgs xs (Mth.upto n) rs∧(∀ r∈rs,r.length≤n∧∀ x∈r,0≤x∧x < (n:Int))∧rs.length≤n∧Ex [] st st':=by
 have hlen:=tn.length
 refine Xax ?_
 show Ws (XaN [some (.tup (xs.map D.int)),none,none,none,none,none] st) _ _ _ _
 unfold XaN
 refine Xac (zaf ?_)
 refine Yaa ?_
 intro qhQ hQ
 set_option simprocs false in simp only [wpB]
 refine ⟨rfl,hQ _ _ (Xac (zaf ?_))⟩
 clear hQ
 refine Yaa ?_
 intro qhQ hQ
 set_option simprocs false in simp only [wpB]
 have eS:(st ++ [O.lst []]).length=st.length + 1:=by simp
 rw [eS]
 refine hQ _ _ (Xac (YaB (rangeD 0 n) (fun k δ st2=>∃ (v3 v4 v5:Option D) (rs:List (List Int)) (kvs:List (Key×D)),δ=[some (.tup (xs.map D.int)),some (.ref st.length),some (.ref (st.length + 1)),v3,v4,v5]∧st2[st.length]?=some (.lst (rs.map fun r=>.tup (r.map D.int)))∧st2[st.length + 1]?=some (.dct kvs) ∧
   (∀ rest,Mth.Rgs xs (Mth.from' n k (fun x=>(valD kvs (Sum.inl x:Key)).isSome)) rest→Mth.Rgs xs (Mth.upto n) (rs ++ rest))∧(∀ r∈rs,r.length≤n∧∀ x∈r,0≤x∧x < (n:Int))∧rs.length≤k∧kvs.length≤k * n∧Ex [] st st2) ?_ (by rw [Xab];omega) ?_ ?_))
 ·clear hQ
  refine Yaa ?_
  intro qhQ hQ
  set_option simprocs false in simp only [wpB]
  rw [List.length_map,hlen]
  refine ⟨by omega,hQ _ _ ⟨by rw [Int.toNat_natCast],none,none,none,[],[],rfl,xak Xag,by rw [← eS];exact Xag,fun rest hrest=>?_,(fun r hr=>nomatch hr),Nat.le_refl _,Nat.zero_le _,(Ex.app0 _).app _⟩⟩
  have e:Mth.from' n 0 (fun x=>(valD ([]:List (Key×D)) (Sum.inl x:Key)).isSome)=Mth.upto n:=Mth.xbC n
  rw [e] at hrest
  exact hrest
 ·rintro k d δ st2 hd ⟨v3,v4,v5,rs,kvs,rfl,hR2,hS2,hrg,hb,hrl,hkl,k2⟩
  have hk:=zac hd
  rw [Xab] at hk
  rw [xax hk,Int.zero_add] at hd
  cases hd
  have hkn:k * n≤10000:=Nat.le_trans (Nat.mul_le_mul (show k≤100 by omega) hn) (by decide)
  clear hQ
  refine Yaa ?_
  intro qhQ hQ
  set_option simprocs false in simp only [wpB]
  refine hQ _ _ (yaw ?_)
  clear hQ
  refine Yaa ?_
  intro qhQ hQ
  set_option simprocs false in simp only [wpB,zau hS2,Xbe]
  have hfs:=Mth.YbC hk (fun x=>(valD kvs (Sum.inl x:Key)).isSome)
  refine hQ _ _ ⟨fun hs=>?_,fun hs=>?_⟩
  ·have hsn:(valD kvs (Sum.inl (k:Int):Key)).isSome=false:=by simpa using hs
   simp only [hsn,Bool.false_eq_true,if_false] at hfs
   clear hQ
   refine Xac (zaf ?_)
   refine Yaa ?_
   intro qhQ hQ
   set_option simprocs false in simp only [wpB]
   refine xab (YbK tn hn (i:=(k:Int)) (by omega) (by omega)) ?_
   rintro d st3 ⟨r,rfl,hring,k3⟩
   refine hQ _ _ (Xac (xa8 ?_))
   clear hQ
   have hR3:=k3.keep _ _ hR2 (by simp)
   have hS3:=k3.keep _ _ hS2 (by simp)
   have hrl':=hring.len tn (by omega) (by omega)
   have hrb:=hring.bound tn (by omega) (by omega)
   refine Yaa ?_
   intro qhQ hQ
   set_option simprocs false in simp only [wpB,zaj hR3]
   refine ⟨zaR (by rw [Zad hR3];rfl),zan (by rw [List.length_map];omega),hQ _ _ ?_⟩
   clear hQ
   refine YaB (r.map D.int) (fun j δ st5=>∃ (v5:Option D) (kvs':List (Key×D)),δ=[some (.tup (xs.map D.int)),some (.ref st.length),some (.ref (st.length + 1)),some (.int (k:Int)),some (.tup (r.map D.int)),v5]∧st5[st.length]?=some (.lst ((rs ++ [r]).map fun r=>.tup (r.map D.int)))∧st5[st.length + 1]?=some (.dct kvs') ∧
     (∀ x:Int,(valD kvs' (Sum.inl x:Key)).isSome=((valD kvs (Sum.inl x:Key)).isSome || (r.take j).contains x))∧kvs'.length≤kvs.length + j∧Ex [] st st5) ?_ (by rw [List.length_map];omega) ?_ ?_
   ·refine Yaa ?_
    intro qhQ hQ
    set_option simprocs false in simp only [wpB]
    refine hQ _ _ ⟨rfl,v5,kvs,rfl,?_,?_,fun x=>by simp,by omega,(k2.trans k3).loc (Nat.le_refl _)⟩
    ·rw [List.getElem?_set_self (zac hR3),List.map_append];rfl
    ·rw [List.getElem?_set_ne (by omega)];exact hS3
   ·rintro j y δ st5 hj ⟨v5,kvs',rfl,hR5,hS5,hv5,hl5,k5⟩
    obtain ⟨x,hx,rfl⟩:=yaR hj
    obtain ⟨hjl,ex⟩:=List.getElem?_eq_some_iff.mp hx
    subst ex
    refine Yaa ?_
    intro qhQ hQ
    set_option simprocs false in simp only [wpB]
    refine hQ _ _ (zbk ?_)
    clear hQ
    refine Yaa ?_
    intro qhQ hQ
    set_option simprocs false in simp only [wpB]
    refine hQ _ _ ?_
    refine Yaa ?_
    intro qhQ2 hQ2
    set_option simprocs false in simp only [wpB]
    refine hQ2 _ _ ?_
    refine Yaa ?_
    intro qhQ3 hQ3
    set_option simprocs false in simp only [wpB]
    refine hQ3 _ _ ⟨_,kvs',_,rfl,zau hS5,Xbe _,zan (by omega),_,_,rfl,?_,List.getElem?_set_self (zac hS5),fun x=>?_,?_,k5.loc (by omega)⟩
    ·rw [List.getElem?_set_ne (by omega)];exact hR5
    ·rw [ybp,Za2 hjl]
     by_cases hx:x=r[j]
     ·subst hx;simp
     ·rw [if_neg (by intro z;exact hx (Sum.inl.inj z)),hv5 x]
      have:(x == r[j])=false:=beq_eq_false_iff_ne.mpr hx
      rw [this,Bool.or_false]
    ·have:=YaP kvs' (Sum.inl r[j]:Key) (.bl true);omega
   ·rintro δ st5 ⟨v5,kvs',rfl,hR5,hS5,hv5,hl5,k5⟩
    rw [List.length_map] at hl5 hv5
    refine ⟨_,_,_,rs ++ [r],kvs',rfl,hR5,hS5,fun rest hrest=>?_,fun r' hr'=>?_,by rw [List.length_append];simp;omega,by rw [Nat.succ_mul];omega,k5⟩
    ·have e:(fun x=>(valD kvs' (Sum.inl x:Key)).isSome)=fun x=>((valD kvs (Sum.inl x:Key)).isSome || r.contains x):=by
      funext x;rw [hv5 x,List.take_length]
     rw [e,← Mth.ybP] at hrest
     rw [List.append_assoc]
     refine hrg _ ?_
     rw [hfs]
     refine .cons hring ?_
     have e2:Mth.out ((k:Int) :: Mth.from' n (k + 1) (fun x=>(valD kvs (Sum.inl x:Key)).isSome)) r=Mth.out (Mth.from' n (k + 1) (fun x=>(valD kvs (Sum.inl x:Key)).isSome)) r:=by
      unfold Mth.out
      rw [List.filter_cons,if_neg (by simp [hring.mem])]
     rw [e2]
     exact hrest
    ·rcases List.mem_append.mp hr' with h | h
     ·exact hb r' h
     ·have:r'=r:=by simpa using h
      subst this
      exact ⟨hrl',hrb⟩
  ·have hsn:(valD kvs (Sum.inl (k:Int):Key)).isSome=true:=by simpa using hs
   simp only [hsn,if_true] at hfs
   exact Yak ⟨_,_,_,rs,kvs,rfl,hR2,hS2,fun rest hrest=>hrg rest (by rw [hfs];exact hrest),hb,by omega,by rw [Nat.succ_mul];omega,k2⟩
 ·rintro δ st2 ⟨v3,v4,v5,rs,kvs,rfl,hR2,hS2,hrg,hb,hrl,hkl,k2⟩
  rw [Xab] at hrg hrl
  refine zai ?_
  clear hQ
  refine Yaa ?_
  intro qhQ hQ
  set_option simprocs false in simp only [wpB,Zad hR2]
  refine hQ _ _ ⟨rs,rfl,?_,hb,hrl,k2⟩
  have:=hrg [] (by rw [Mth.zbP];exact .nil)
  rwa [List.append_nil] at this
theorem xbv {st:Store} {xs ys:List Int} {n:Nat} (tx:Mth.Tn n xs) (ty:Mth.Tn n ys) (hn:n≤100):Wp (Zar [flD xs ys] st) fun d st'=>d=.tup ((Mth.rnd xs ys).map D.int)∧Ex [] st st':=by
 have hlx:=tx.length
 have hly:=ty.length
 have ix:=tx.inv_tn
 have iy:=ty.inv_tn
 refine Xax ?_
 show Ws (Xaw [some (flD xs ys),none,none,none] st) _ _ _ _
 unfold Xaw flD
 refine Xac (zaf ?_)
 refine Yaa ?_
 intro qhQ hQ
 set_option simprocs false in simp only [wpB]
 refine hQ _ _ (Xac (zaf ?_))
 clear hQ
 refine Yaa ?_
 intro qhQ hQ
 set_option simprocs false in simp only [wpB]
 refine hQ _ _ (Xac (zaf ?_))
 clear hQ
 refine Yaa ?_
 intro qhQ hQ
 set_option simprocs false in simp only [wpB]
 refine xab (ZaS tx hn) ?_
 rintro d st1 ⟨rfl,k1⟩
 refine xab (ZaS ty hn) ?_
 rintro d st2 ⟨rfl,k2⟩
 refine xab (XaJ (xs:=Mth.inv xs) (ys:=Mth.inv ys) (fun x hx=>by rw [iy.length];exact ix.bound hx) (by rw [ix.length];omega)) ?_
 rintro d st3 ⟨rfl,k3⟩
 refine hQ _ _ (zai ?_)
 clear hQ
 refine Yaa ?_
 intro qhQ hQ
 set_option simprocs false in simp only [wpB]
 refine xab (XaJ (xs:=xs) (ys:=ys) (fun x hx=>by rw [hly];exact tx.bound hx) (by omega)) ?_
 rintro d st4 ⟨rfl,k4⟩
 refine xab (XaJ (xs:=Mth.fol xs ys) (ys:=Mth.fol (Mth.inv xs) (Mth.inv ys)) (fun x hx=>by rw [Mth.ZaG,ix.length];exact (tx.fol ty).bound hx) (by rw [Mth.ZaG];omega)) ?_
 rintro d st5 ⟨rfl,k5⟩
 exact hQ _ _ ⟨rfl,(((k1.trans k2).trans k3).trans k4).trans k5⟩
noncomputable def stepS:Nat→Str
 | 0=>"r"
 | 1=>"u"
 | 2=>"l"
 | _=>"d"
noncomputable def stepT (xs ys:List Int):Nat→List Int
 | 0=>xs
 | 1=>ys
 | 2=>Mth.inv xs
 | _=>Mth.inv ys
noncomputable def nbr (xs ys:List Int) (s:Int):Nat→Int
 | 0=>Mth.app xs s
 | 1=>Mth.app ys s
 | 2=>Mth.app (Mth.inv xs) s
 | _=>Mth.app (Mth.inv ys) s
theorem xbK (xs ys:List Int) (s:Int) (j:Nat):nbr xs ys s j=Mth.app (stepT xs ys j) s:=by
 unfold nbr stepT
 split <;> rfl
theorem YaS {n:Nat} {xs ys:List Int} (tx:Mth.Tn n xs) (ty:Mth.Tn n ys) (j:Nat):Mth.Tn n (stepT xs ys j):=by
 unfold stepT
 split
 ·exact tx
 ·exact ty
 ·exact tx.inv_tn
 ·exact ty.inv_tn
noncomputable def turnsK (xs ys:List Int):List (Key×D):=[(.inr "r",.tup (xs.map D.int)),(.inr "l",.tup ((Mth.inv xs).map D.int)),(.inr "u",.tup (ys.map D.int)),(.inr "d",.tup ((Mth.inv ys).map D.int))]
theorem Ya5 (xs ys:List Int) {j:Nat} (hj:j < 4):valD (turnsK xs ys) (.inr (stepS j))=some (.tup ((stepT xs ys j).map D.int)):=by
 have c:j=0∨j=1∨j=2∨j=3:=by omega
 rcases c with rfl | rfl | rfl | rfl <;> rfl
theorem ybb {st:Store} {xs ys:List Int} {n:Nat} (tx:Mth.Tn n xs) (ty:Mth.Tn n ys) (hn:n≤100):Wp (zar [flD xs ys] st) fun d st'=>d=.ref st.length∧st'[st.length]?=some (.dct (turnsK xs ys))∧Ex [] st st':=by
 refine Xax ?_
 show Ws (xaw [some (flD xs ys)] st) _ _ _ _
 unfold xaw flD
 refine zai ?_
 refine Yaa ?_
 intro qhQ hQ
 set_option simprocs false in simp only [wpB]
 refine xab (ZaS (st:=st ++ [O.dct []]) tx hn) ?_
 rintro d st1 ⟨rfl,k1⟩
 refine xab (ZaS (st:=st1) ty hn) ?_
 rintro d st2 ⟨rfl,k2⟩
 have h2:=(k1.trans k2).keep _ _ Xag (by simp)
 refine ⟨h2,turnsK xs ys,rfl,(show 4≤15 by decide),hQ _ _ ⟨rfl,?_,?_⟩⟩
 ·rw [List.getElem?_set_self (zac h2)];rfl
 ·exact (((Ex.app0 _).trans k1).trans k2).loc (Nat.le_refl _)
noncomputable def pur:Nat→D→Prop
 | _,.int _=>True
 | _,.str _=>True
 | _,.bl _=>True
 | _,.non=>True
 | n + 1,.tup ds=>ds.length < 100000∧∀ d∈ds,pur n d
 | _,_=>False
theorem tysLT:tysD (.tup [.ty "list",.ty "tuple"])=some ["list","tuple"]:=rfl
theorem yaO {st:Store} {d:D} {T:String} {v:V} (m:Nat) (hT:∀ st,tyNm st d=some T) (h1:isaAny T ["list","tuple"]=some false) {b c:Bool} (h2:isaAny T ["bool"]=some b) (h3:isaAny T ["str"]=some c) (hv:sV d=some v) (hs:scal v v=true):Wp (yaj (m + 1) [d,d] st) fun r st'=>r=.bl true∧Ex [] st st':=by
 refine Xax ?_
 show Ws (Xar (yaj m) [some d,some d] st) _ _ _ _
 unfold Xar
 refine Xac (yaw ?_)
 refine Yaa ?_
 intro qhQ hQ
 set_option simprocs false in simp only [wpB,za5 (hT _) tysLT h1]
 refine ⟨rfl,hQ _ _ ⟨fun h=>absurd h (by decide),fun _=>Yak (Xac (yaw ?_))⟩⟩
 clear hQ
 refine Yaa ?_
 intro qhQ hQ
 set_option simprocs false in simp only [wpB,za5 (hT _) (show tysD (.ty "bool")=some ["bool"] from rfl) h2,za5 (hT _) (show tysD (.ty "str")=some ["str"] from rfl) h3,XbY]
 refine hQ _ _ ⟨fun h=>absurd h (by simp),fun _=>Yak (zai ?_)⟩
 clear hQ
 refine Yaa ?_
 intro qhQ hQ
 set_option simprocs false in simp only [wpB,ZbS hv hs]
 exact hQ _ _ ⟨rfl,Ex.refl⟩
theorem xa5:∀ (n:Nat) {st:Store} {d:D},pur n d→Wp (yaj (n + 1) [d,d] st) fun r st'=>r=.bl true∧Ex [] st st'
 | n,st,.int i,_=>yaO n (fun _=>rfl) rfl (b:=false) rfl (c:=false) rfl rfl rfl
 | n,st,.str x,_=>yaO n (fun _=>rfl) rfl (b:=false) rfl (c:=true) rfl rfl rfl
 | n,st,.bl b,_=>yaO n (fun _=>rfl) rfl (b:=true) rfl (c:=false) rfl rfl rfl
 | n,st,.non,_=>yaO n (fun _=>rfl) rfl (b:=false) rfl (c:=false) rfl rfl rfl
 | n,st,.ty _,h=>by cases n <;> exact h.elim
 | n,st,.ref _,h=>by cases n <;> exact h.elim
 | 0,st,.tup _,h=>h.elim
 | n + 1,st,.tup ds,h=>by
  have hT:∀ st,tyNm st (.tup ds)=some "tuple" := fun _=>rfl
  refine Xax ?_
  show Ws (Xar (yaj (n + 1)) [some (.tup ds),some (.tup ds)] st) _ _ _ _
  unfold Xar
  refine Xac (yaw ?_)
  refine Yaa ?_
  intro qhQ hQ
  set_option simprocs false in simp only [wpB,za5 (hT _) tysLT (show isaAny "tuple" ["list","tuple"]=some true from rfl)]
  refine ⟨rfl,hQ _ _ ⟨fun _=>Xac (yaw ?_),fun h=>absurd h (by decide)⟩⟩
  clear hQ
  refine Yaa ?_
  intro qhQ hQ
  set_option simprocs false in simp only [wpB,za5 (hT _) (show tysD (.ty "tuple")=some ["tuple"] from rfl) (show isaAny "tuple" ["tuple"]=some true from rfl),za5 (hT _) (show tysD (.ty "list")=some ["list"] from rfl) (show isaAny "tuple" ["list"]=some false from rfl),XbY]
  refine hQ _ _ ⟨fun h=>absurd h (by simp),fun _=>Yak (zai ?_)⟩
  clear hQ
  refine Yaa ?_
  intro qhQ hQ
  set_option simprocs false in simp only [wpB]
  simp only [decide_true,if_true]
  refine ybf (ds.map fun d=>(d,d)) (fun _=>.bl true) ?_ (by rw [List.length_map];exact h.1) ?_ ?_
  ·refine Yaa ?_
   intro qhQ2 hQ2
   set_option simprocs false in simp only [wpB,XbI]
   refine ⟨_,_,⟨rfl,rfl⟩,ds,rfl,ds,rfl,hQ2 _ _ ⟨?_,Ex.refl⟩⟩
   have e:=Zbp (fun d:D=>d) (fun d=>d) ds
   rw [List.map_id'] at e
   rw [e,List.map_map]
   exact ZaP _ _
  ·intro p hp st1 k1
   obtain ⟨d,hd,rfl⟩:=List.mem_map.mp hp
   refine Yaa ?_
   intro qhQ2 hQ2
   set_option simprocs false in simp only [wpB]
   exact xab (xa5 n (h.2 d hd)) fun r s hr=>hQ2 _ _ hr
  ·intro st' k'
   have e:(ds.map fun d=>(d,d)).map (fun _=>D.bl true)=List.replicate ds.length (.bl true):=by
    rw [List.map_map]
    exact List.map_const' ..
   rw [e]
   set_option simprocs false in simp only [wpB,zb9]
   refine hQ _ _ ⟨?_,k'.app _⟩
   simp
theorem Xa5 {st:Store} {d:D} (h:pur 5 d):Wp (Xaq [d,d] st) fun r st'=>r=.bl true∧Ex [] st st':=xa5 5 h
theorem zbU (n:Nat) {L:List Int} (hl:L.length < 100000):pur (n + 1) (.tup (L.map D.int)):=⟨by rw [List.length_map];exact hl,fun d hd=>by
 obtain ⟨x,_,rfl⟩:=List.mem_map.mp hd
 cases n <;> trivial⟩
theorem inUD {j:Nat} (hj:j < 4):(!(Builtin.Str.occurrences "ud" (stepS j) 0 (Str.length "ud") 1).isEmpty)=decide (j=1∨j=3):=by
 have c:j=0∨j=1∨j=2∨j=3:=by omega
 rcases c with rfl | rfl | rfl | rfl <;> decide +kernel
theorem inRU {j:Nat} (hj:j < 4):(!(Builtin.Str.occurrences "ru" (stepS j) 0 (Str.length "ru") 1).isEmpty)=decide (j=0∨j=1):=by
 have c:j=0∨j=1∨j=2∨j=3:=by omega
 rcases c with rfl | rfl | rfl | rfl <;> decide +kernel
theorem ybg {st:Store} {Q:D→Store→Prop} {xs:List Int} {v:Int} (h:v∈xs):Wp (gIndex (.tup (xs.map D.int)) [.int v] st) Q↔Q (.int (xs.idxOf v:Int)) st:=by
 rw [Xbo]
 constructor
 ·rintro ⟨ns,j,h1,h2,q⟩
  rw [XbG] at h1
  cases h1
  rw [zbp h] at h2
  cases h2
  exact q
 ·intro q
  exact ⟨xs,_,XbG xs,zbp h,q⟩
theorem XaE {st:Store} {xs ys:List Int} {n:Nat} {s:Int} {j:Nat} (tx:Mth.Tn n xs) (ty:Mth.Tn n ys) (s0:0≤s) (s1:s < (n:Int)) (hj:j < 4):Wp (yah [flD xs ys,.int s,.str (stepS j)] st) fun d st'=>d=.int (nbr xs ys s j)∧Ex [] st st':=by
 have hlx:=tx.length
 have hly:=ty.length
 refine Xax ?_
 show Ws (ZaC [some (flD xs ys),some (.int s),some (.str (stepS j)),none] st) _ _ _ _
 unfold ZaC flD
 refine Xac (zaf ?_)
 refine Yaa ?_
 intro qhQ hQ
 set_option simprocs false in simp only [wpB,zbf,inUD hj]
 have c:j=0∨j=1∨j=2∨j=3:=by omega
 rcases c with rfl | rfl | rfl | rfl
 ·refine ⟨_,at0 _ _,?_⟩
  refine hQ _ _ (Xac (yaw ?_))
  clear hQ
  refine Yaa ?_
  intro qhQ hQ
  set_option simprocs false in simp only [wpB,zbf,inRU (j:=0) (by decide)]
  refine hQ _ _ ⟨fun _=>zai ?_,fun h=>absurd h (by decide)⟩
  clear hQ
  refine Yaa ?_
  intro qhQ hQ
  set_option simprocs false in simp only [wpB,Zak (xs:=xs) s0 (by omega)]
  exact hQ _ _ ⟨rfl,Ex.refl⟩
 ·refine ⟨_,at1 _ _ _,?_⟩
  refine hQ _ _ (Xac (yaw ?_))
  clear hQ
  refine Yaa ?_
  intro qhQ hQ
  set_option simprocs false in simp only [wpB,zbf,inRU (j:=1) (by decide)]
  refine hQ _ _ ⟨fun _=>zai ?_,fun h=>absurd h (by decide)⟩
  clear hQ
  refine Yaa ?_
  intro qhQ hQ
  set_option simprocs false in simp only [wpB,Zak (xs:=ys) s0 (by omega)]
  exact hQ _ _ ⟨rfl,Ex.refl⟩
 ·refine ⟨_,at0 _ _,?_⟩
  refine hQ _ _ (Xac (yaw ?_))
  clear hQ
  refine Yaa ?_
  intro qhQ hQ
  set_option simprocs false in simp only [wpB,zbf,inRU (j:=2) (by decide)]
  refine hQ _ _ ⟨fun h=>absurd h (by decide),fun _=>Yak (zai ?_)⟩
  clear hQ
  refine Yaa ?_
  intro qhQ hQ
  set_option simprocs false in simp only [wpB,ybG,ybg (tx.mem s0 s1)]
  exact hQ _ _ ⟨by rw [← Mth.xaZ s0 (by omega)];rfl,Ex.refl⟩
 ·refine ⟨_,at1 _ _ _,?_⟩
  refine hQ _ _ (Xac (yaw ?_))
  clear hQ
  refine Yaa ?_
  intro qhQ hQ
  set_option simprocs false in simp only [wpB,zbf,inRU (j:=3) (by decide)]
  refine hQ _ _ ⟨fun h=>absurd h (by decide),fun _=>Yak (zai ?_)⟩
  clear hQ
  refine Yaa ?_
  intro qhQ hQ
  set_option simprocs false in simp only [wpB,ybG,ybg (ty.mem s0 s1)]
  exact hQ _ _ ⟨by rw [← Mth.xaZ s0 (by omega)];rfl,Ex.refl⟩
noncomputable def sideJ (xs ys:List Int) (n:Nat) (s:Int):Nat→Int
 | 0=>(n:Int) + Mth.app xs s
 | 1=>Mth.app ys s
 | 2=>(n:Int) + s
 | _=>s
noncomputable def sgnJ:Nat→Int
 | 0=>1
 | 1=>-1
 | 2=>-1
 | _=>1
theorem zaI {n:Nat} {xs ys:List Int} (tx:Mth.Tn n xs) (ty:Mth.Tn n ys) {s:Int} (s0:0≤s) (s1:s < (n:Int)) (j:Nat):0≤sideJ xs ys n s j∧sideJ xs ys n s j < ((2 * n:Nat):Int):=by
 have a:=tx.app s0 s1
 have b:=ty.app s0 s1
 unfold sideJ
 split <;> omega
noncomputable def upd (L:List Int) (k v:Int):List Int:=L.set k.toNat (Mth.app L k + v)
theorem yap (L:List Int) (k v:Int):(upd L k v).length=L.length:=by unfold upd;rw [List.length_set]
theorem zaK {L:List Int} {k v i:Int} (k0:0≤k) (k1:k < (L.length:Int)) (i0:0≤i):Mth.app (upd L k v) i=Mth.app L i + if i=k then v else 0:=by
 unfold upd Mth.app
 rw [List.getD_eq_getElem?_getD,List.getD_eq_getElem?_getD,List.getD_eq_getElem?_getD]
 by_cases h:i=k
 ·subst h
  rw [if_pos rfl,List.getElem?_set_self (by omega)]
  rfl
 ·rw [if_neg h,List.getElem?_set_ne (by omega),Int.add_zero]
noncomputable def rimL (xs ys:List Int) (n:Nat) (o:Int):List Int:=upd (upd (upd (upd (List.replicate (2 * n) 0) (sideJ xs ys n o 0) 1) (sideJ xs ys n o 2) (-1)) (sideJ xs ys n o 1) (-1)) (sideJ xs ys n o 3) 1
theorem Zbb {L:List Int} {k v:Int}:(L.map D.int).set k.toNat (.int (Mth.app L k + v))=(upd L k v).map D.int:=by
 unfold upd
 rw [List.map_set]
theorem rep0 (m:Nat):(List.replicate m [D.int 0]).flatten=(List.replicate m (0:Int)).map D.int:=by
 induction m with
 | zero=>rfl
 | succ m ih=>rw [List.replicate_succ,List.flatten_cons,ih];rfl
theorem XbK:∀ {zs:List D},(∀ (i:Nat) (y:D),zs[i]?=some y→∃ x:Int,y=.int x)→∃ L:List Int,zs=L.map D.int
 | [],_=>⟨[],rfl⟩
 | z :: zs,h=>by
  obtain ⟨x,rfl⟩:=h 0 z rfl
  obtain ⟨L,rfl⟩:=XbK (zs:=zs) fun i y hy=>h (i + 1) y (by simpa using hy)
  exact ⟨x :: L,rfl⟩
theorem zbq:∀ {a b:List Int},a.length=b.length→zipD (a.map D.int) (b.map D.int)=(a.zip b).map fun p=>D.tup [.int p.1,.int p.2]
 | [],[],_=>rfl
 | x :: a,y :: b,h=>by
  show D.tup [.int x,.int y] :: zipD (a.map D.int) (b.map D.int)=_
  rw [zbq (by simpa using h)];rfl
noncomputable def rim4 (xs ys:List Int) (n:Nat) (L:List Int) (s v:Int):List Int:=upd (upd (upd (upd L s (1 * v)) ((n:Int) + Mth.app xs s) (1 * v)) (Mth.app ys s) (-1 * v)) ((n:Int) + s) (-1 * v)
noncomputable def rimsF (xs ys:List Int) (n:Nat) (w:List Int):Nat→List Int
 | 0=>List.replicate (2 * n) 0
 | i + 1=>rim4 xs ys n (rimsF xs ys n w i) (i:Int) (Mth.app w (i:Int))
theorem ybU (xs ys:List Int) (n:Nat) (L:List Int) (s v:Int):(rim4 xs ys n L s v).length=L.length:=by unfold rim4;rw [yap,yap,yap,yap]
theorem xaS (xs ys:List Int) (n:Nat) (w:List Int):∀ i,(rimsF xs ys n w i).length=2 * n
 | 0=>by unfold rimsF;rw [List.length_replicate]
 | i + 1=>by unfold rimsF;rw [ybU,xaS xs ys n w i]
theorem ZbU (m:Nat) (k:Int):Mth.app (List.replicate m 0) k=0:=by
 unfold Mth.app
 rw [List.getD_eq_getElem?_getD,List.getElem?_replicate]
 split <;> rfl
noncomputable def rims (xs ys:List Int) (n:Nat) (w:List Int):List Int:=rimsF xs ys n w n
theorem ybq (xs ys:List Int) (n:Nat) (w:List Int):(rims xs ys n w).length=2 * n:=xaS xs ys n w n
theorem Zbq {st1:Store} {r:Nat} {L:List Int} {k v:Int} (h:st1[r]?=some (.lst (L.map D.int))) (k0:0≤k) (k1:k < (L.length:Int)):ixN (L.map D.int).length k=some k.toNat:=by
 have:=ZaL (n:=(L.map D.int).length) (j:=k.toNat) (by rw [List.length_map];omega)
 rwa [Int.toNat_of_nonneg k0] at this
noncomputable def Wis (st:Store) (d:D) (w:List Int):Prop:=d=.tup (w.map D.int)∨∃ r,d=.ref r∧st[r]?=some (.lst (w.map D.int))
theorem XaV {st:Store} {xs ys w:List Int} {n:Nat} {dw:D} (tx:Mth.Tn n xs) (ty:Mth.Tn n ys) (hn:n≤100) (hw:w.length=n) (hd:Wis st dw w):Wp (Yaq [flD xs ys,dw] st) fun d st'=>d=.tup ((rims xs ys n w).map D.int)∧Ex [] st st':=by
 have hlx:=tx.length
 refine Xax ?_
 show Ws (yaJ [some (flD xs ys),some dw,none,none,none,none,none,none] st) _ _ _ _
 unfold yaJ
 refine Xac (zaf ?_)
 refine Yaa ?_
 intro qhQ hQ
 set_option simprocs false in simp only [wpB,show flD xs ys=.tup [.tup (xs.map D.int),.tup (ys.map D.int)] from rfl]
 rw [List.length_map,hlx]
 refine hQ _ _ (Xac (zaf ?_))
 clear hQ
 refine Yaa ?_
 intro qhQ hQ
 set_option simprocs false in simp only [wpB]
 rw [show (2 * (n:Int)).toNat=2 * n by omega,rep0,show (st ++ [O.lst [D.int 0]]).length=st.length + 1 by simp]
 have hg:(st ++ [O.lst [D.int 0]] ++ [O.lst ((List.replicate (2 * n) (0:Int)).map D.int)])[st.length + 1]?=some (.lst ((rimsF xs ys n w 0).map D.int)):=by
  rw [show st.length + 1=(st ++ [O.lst [D.int 0]]).length by simp]
  exact Xag
 refine ⟨rfl,.inl ⟨by decide,by decide⟩,⟨by omega,by omega⟩,zan (by rw [List.length_singleton];omega),hQ _ _ (Xac (xbJ (enumD (w.map D.int)) (fun i δ s2=>∃ v4 v5 v6 v7:Option D,δ=[some (flD xs ys),some dw,some (.int (n:Int)),some (.ref (st.length + 1)),v4,v5,v6,v7]∧s2[st.length + 1]?=some (.lst ((rimsF xs ys n w i).map D.int))∧Ex [] st s2) ?_ (by rw [Zaj,List.length_map];omega) ?_ ?_))⟩
 ·clear hQ
  have kk:Ex [] st (st ++ [O.lst [D.int 0]] ++ [O.lst ((List.replicate (2 * n) (0:Int)).map D.int)]):=(Ex.app0 _).app _
  refine XbJ ?_
  refine Yaa ?_
  intro qhQ hQ
  set_option simprocs false in simp only [wpB]
  refine hQ _ _ ?_
  rcases hd with rfl | ⟨r,rfl,hr⟩
  ·exact .inl ⟨_,rfl,fun i δ s hi _=>fix_at hi,none,none,none,none,rfl,hg,kk⟩
  ·refine .inr ⟨r,w.map D.int,rfl,Zad (kk.keep _ _ hr (by simp)),fun i δ s hi hp=>?_,none,none,none,none,rfl,hg,kk⟩
   obtain ⟨_,_,_,_,_,_,hE⟩:=hp
   exact enm_at (Zad (hE.keep _ _ hr (by simp))) hi
 ·clear hQ
  rintro i d δ s2 hd' ⟨v4,v5,v6,v7,rfl,hL,k2⟩
  obtain ⟨d',hd2,rfl⟩:=XaG hd'
  obtain ⟨x,hx,rfl⟩:=yaR hd2
  have hi:i < n:=by have:=zac hx;omega
  have i0:(0:Int)≤(i:Int):=by omega
  have i1:(i:Int) < (n:Int):=by omega
  have ex:Mth.app w (i:Int)=x:=by
   unfold Mth.app
   rw [List.getD_eq_getElem?_getD,Int.toNat_natCast,hx];rfl
  have hbx:=tx.app i0 i1
  have hby:=ty.app i0 i1
  have hly:=ty.length
  refine Yaa ?_
  intro qhQ hQ
  set_option simprocs false in simp only [wpB]
  refine ⟨rfl,hQ _ _ ?_⟩
  clear hQ
  have hRl:=xaS xs ys n w i
  generalize hR:rimsF xs ys n w i=R at hL hRl
  let ps:List (Int×Int):=[((i:Int),1),((n:Int) + Mth.app xs (i:Int),1),(Mth.app ys (i:Int),-1),((n:Int) + (i:Int),-1)]
  have hps:∀ p∈ps,0≤p.1∧p.1 < ((2 * n:Nat):Int)∧(p.2=1∨p.2=-1):=by
   intro p hp
   simp only [ps,List.mem_cons,List.not_mem_nil,or_false] at hp
   rcases hp with rfl | rfl | rfl | rfl
   ·exact ⟨i0,by omega,.inl rfl⟩
   ·exact ⟨by omega,by omega,.inl rfl⟩
   ·exact ⟨hby.1,by omega,.inr rfl⟩
   ·exact ⟨by omega,by omega,.inr rfl⟩
  refine YaB (ps.map fun p=>D.tup [.int p.1,.int p.2]) (fun j δ s3=>∃ v6 v7:Option D,δ=[some (flD xs ys),some dw,some (.int (n:Int)),some (.ref (st.length + 1)),some (.int (i:Int)),some (.int x),v6,v7]∧s3[st.length + 1]?=some (.lst (((ps.take j).foldl (fun L p=>upd L p.1 (p.2 * x)) R).map D.int))∧Ex [] st s3) ?_ (show 4 < 100000 by decide) ?_ ?_
  ·refine Yaa ?_
   intro qhQ hQ
   set_option simprocs false in simp only [wpB,show flD xs ys=.tup [.tup (xs.map D.int),.tup (ys.map D.int)] from rfl,Zak (xs:=xs) i0 (by omega),Zak (xs:=ys) i0 (by omega)]
   exact ⟨rfl,rfl,rfl,rfl,rfl,hQ _ _ ⟨rfl,_,_,rfl,hL,k2⟩⟩
  ·rintro j d δ s3 hdj ⟨v6,v7,rfl,hL3,k3⟩
   rw [List.getElem?_map] at hdj
   obtain ⟨p,hp,rfl⟩:=Option.map_eq_some_iff.mp hdj
   obtain ⟨b0,b1,b2⟩:=hps p (List.mem_of_getElem? hp)
   have hjl:=zac hp
   have et:ps.take (j + 1)=ps.take j ++ [p]:=by
    rw [List.take_succ,hp];rfl
   have hTl:((ps.take j).foldl (fun L p=>upd L p.1 (p.2 * x)) R).length=2 * n:=by
    have:∀ (l:List (Int×Int)) (L:List Int),(l.foldl (fun L p=>upd L p.1 (p.2 * x)) L).length=L.length:=by
     intro l
     induction l with
     | nil=>intro L;rfl
     | cons q l ih=>intro L;rw [List.foldl_cons,ih,yap]
    rw [this,hRl]
   rw [et,List.foldl_append]
   generalize (ps.take j).foldl (fun L p=>upd L p.1 (p.2 * x)) R=U at hL3 hTl ⊢
   refine Yaa ?_
   intro qhQ hQ
   set_option simprocs false in simp only [wpB]
   refine ⟨rfl,hQ _ _ (YaK ?_)⟩
   clear hQ
   refine Yaa ?_
   intro qhQ hQ
   set_option simprocs false in simp only [wpB,Zad hL3,Zak (xs:=U) b0 (by omega)]
   refine ⟨.inl (by omega),hQ _ _ ?_⟩
   clear hQ
   refine Yaa ?_
   intro qhQ hQ
   set_option simprocs false in simp only [wpB,zaj hL3]
   refine ⟨_,Zbq (v:=0) hL3 b0 (by omega),hQ _ _ ⟨_,_,rfl,?_,k3.loc (by omega)⟩⟩
   rw [List.getElem?_set_self (zac hL3),Zbb]
   rfl
  ·rintro δ s3 ⟨v6,v7,rfl,hL3,k3⟩
   refine ⟨_,_,_,_,rfl,?_,k3⟩
   rw [hL3]
   show some (O.lst _)=some (O.lst ((rim4 xs ys n (rimsF xs ys n w i) (i:Int) (Mth.app w (i:Int))).map D.int))
   rw [hR,ex]
   rfl
 ·clear hQ
  rintro δ s2 ⟨v4,v5,v6,v7,rfl,hL,k2⟩
  rw [Zaj,List.length_map,hw] at hL
  refine zai ?_
  refine Yaa ?_
  intro qhQ hQ
  set_option simprocs false in simp only [wpB,Zad hL]
  exact hQ _ _ ⟨rfl,k2⟩
theorem zbL {L:List Int} {k:Nat} (hk:L[k]?=some 0):((L.set k 1).filter fun x=>x == 0).length < (L.filter fun x=>x == 0).length:=by
 induction L generalizing k with
 | nil=>simp at hk
 | cons a L ih =>
  cases k with
  | zero =>
   have:a=0:=by simpa using hk
   subst this
   simp
  | succ k =>
   have hk':L[k]?=some 0:=by simpa using hk
   have:=ih hk'
   rw [List.set_cons_succ,List.filter_cons,List.filter_cons]
   split
   ·simp only [List.length_cons];omega
   ·exact this
theorem Xbv {st:Store} {xs ys:List Int} {n:Nat} {s w:Int} (tx:Mth.Tn n xs) (ty:Mth.Tn n ys) (hn:n≤100) (s0:0≤s) (s1:s < (n:Int)) (hw:w=0∨w=1):Wp (Yaz [flD xs ys,.int s,.int w] st) fun d st'=>∃ L:List Int,d=.tup (L.map D.int)∧L.length=2 * n∧Ex [] st st':=by
 have hlx:=tx.length
 have hly:=ty.length
 obtain ⟨zs,hz,tz⟩:∃ zs:List Int,atI [D.tup (xs.map D.int),D.tup (ys.map D.int)] w=some (.tup (zs.map D.int))∧Mth.Tn n zs:=by
  rcases hw with rfl | rfl
  ·exact ⟨xs,at0 _ _,tx⟩
  ·exact ⟨ys,at1 _ _ _,ty⟩
 have hlz:=tz.length
 have hnw:0≤(n:Int) * w∧(n:Int) * w≤(n:Int):=by rcases hw with rfl | rfl <;> omega
 refine Xax ?_
 show Ws (yaF [some (flD xs ys),some (.int s),some (.int w),none,none,none] st) _ _ _ _
 unfold yaF
 refine Xac (zaf ?_)
 refine Yaa ?_
 intro qhQ hQ
 set_option simprocs false in simp only [wpB,show flD xs ys=.tup [.tup (xs.map D.int),.tup (ys.map D.int)] from rfl]
 rw [List.length_map,hlx]
 refine hQ _ _ (Xac (zaf ?_))
 clear hQ
 refine Yaa ?_
 intro qhQ hQ
 set_option simprocs false in simp only [wpB]
 rw [show (2 * (n:Int)).toNat=2 * n by omega,rep0,show (st ++ [O.lst [D.int 0]]).length=st.length + 1 by simp]
 have hg:(st ++ [O.lst [D.int 0]] ++ [O.lst ((List.replicate (2 * n) (0:Int)).map D.int)])[st.length + 1]?=some (.lst ((List.replicate (2 * n) (0:Int)).map D.int)):=by
  rw [show st.length + 1=(st ++ [O.lst [D.int 0]]).length by simp]
  exact Xag
 have kk:Ex [] st (st ++ [O.lst [D.int 0]] ++ [O.lst ((List.replicate (2 * n) (0:Int)).map D.int)]):=(Ex.app0 _).app _
 generalize st ++ [O.lst [D.int 0]] ++ [O.lst ((List.replicate (2 * n) (0:Int)).map D.int)]=st1 at hg kk
 refine ⟨rfl,.inl ⟨by decide,by decide⟩,⟨by omega,by omega⟩,zan (by rw [List.length_singleton];omega),?_⟩
 refine hQ _ _ (Xac (zaf ?_))
 clear hQ
 refine Yaa ?_
 intro qhQ hQ
 set_option simprocs false in simp only [wpB]
 refine hQ _ _ (Xac (XaX (fun m δ s2=>∃ (L:List Int) (h:Int),m=(L.filter fun x=>x == 0).length∧L.length=2 * n∧0≤h∧h < (n:Int)∧δ=[some (flD xs ys),some (.int s),some (.int w),some (.int (n:Int)),some (.ref (st.length + 1)),some (.int h)]∧s2[st.length + 1]?=some (.lst (L.map D.int))∧Ex [] st s2) ((List.replicate (2 * n) (0:Int)).filter fun x=>x == 0).length (Nat.lt_of_le_of_lt (Nat.le_trans (List.length_filter_le _ _) (by rw [List.length_replicate];exact Nat.mul_le_mul_left 2 hn)) (by decide)) ⟨_,s,rfl,List.length_replicate,s0,s1,rfl,hg,kk⟩ ?_))
 clear hQ
 rintro m δ s2 ⟨L,h,rfl,hL,h0,h1,rfl,hs,k2⟩
 refine Yaa ?_
 intro qhQ hQ
 set_option simprocs false in simp only [wpB,Zad hs,Zak (xs:=L) (i:=(n:Int) * w + h) (by omega) (by omega)]
 refine ⟨.inl (by omega),hQ _ _ ⟨fun ht=>?_,fun hf=>?_⟩⟩
 ·have hL0:Mth.app L ((n:Int) * w + h)=0:=by simpa using ht
  refine Xac (YaK ?_)
  clear hQ
  refine Yaa ?_
  intro qhQ hQ
  set_option simprocs false in simp only [wpB]
  refine hQ _ _ ?_
  clear hQ
  refine Yaa ?_
  intro qhQ hQ
  set_option simprocs false in simp only [wpB,zaj hs]
  have hix:ixN (L.map D.int).length ((n:Int) * w + h)=some ((n:Int) * w + h).toNat:=Zbq (v:=0) hs (by omega) (by omega)
  refine ⟨.inl (by omega),_,hix,hQ _ _ (zaf ?_)⟩
  clear hQ
  have hb:=tz.app h0 h1
  refine Yaa ?_
  intro qhQ hQ
  set_option simprocs false in simp only [wpB,show flD xs ys=.tup [.tup (xs.map D.int),.tup (ys.map D.int)] from rfl,hz,Zak (xs:=zs) h0 (by omega)]
  refine hQ _ _ ⟨((L.set ((n:Int) * w + h).toNat 1).filter fun x=>x == 0).length,?_,L.set ((n:Int) * w + h).toNat 1,_,rfl,by rw [List.length_set,hL],hb.1,hb.2,rfl,?_,k2.loc (by omega)⟩
  ·refine zbL ?_
   have:=Mth.xaj (xs:=L) (i:=(n:Int) * w + h) (by omega) (by omega)
   rw [this,hL0]
  ·rw [List.getElem?_set_self (zac hs),List.map_set]
 ·refine zai ?_
  clear hQ
  refine Yaa ?_
  intro qhQ hQ
  set_option simprocs false in simp only [wpB,Zad hs]
  exact hQ _ _ ⟨L,rfl,hL,k2⟩
theorem YbU {st:Store} {a b:List Int} {w:Int} (hl:a.length=b.length) (hb:b.length < 100000) (h0:-100≤w) (h1:w≤100):Wp (yaH [.tup (a.map D.int),.tup (b.map D.int),.int w] st) fun d st'=>∃ L:List Int,d=.tup (L.map D.int)∧L.length=a.length∧Ex [] st st':=by
 refine Xax ?_
 show Ws (xaN [some (.tup (a.map D.int)),some (.tup (b.map D.int)),some (.int w)] st) _ _ _ _
 unfold xaN
 refine zai ?_
 refine Yaa ?_
 intro qhQ hQ
 set_option simprocs false in simp only [wpB]
 refine ybf ((a.zip b).map fun p=>(D.int p.1,D.int p.2)) (fun p=>match p with | (.int x,.int y)=>.int (x + w * y) | _=>.non) ?_ (by rw [List.length_map,List.length_zip];omega) ?_ ?_
 ·refine Yaa ?_
  intro qhQ2 hQ2
  set_option simprocs false in simp only [wpB,XbI]
  refine ⟨_,_,⟨rfl,rfl⟩,_,rfl,_,rfl,hQ2 _ _ ⟨?_,Ex.refl⟩⟩
  rw [zbq hl,List.map_map]
  exact ZaP _ _
 ·intro p hp s9 k9
  obtain ⟨q,_,rfl⟩:=List.mem_map.mp hp
  refine Yaa ?_
  intro qhQ2 hQ2
  set_option simprocs false in simp only [wpB,List.map_cons,List.map_nil,List.getD_cons_succ,List.getD_cons_zero]
  exact ⟨.inl (by omega),hQ2 _ _ ⟨rfl,Ex.refl⟩⟩
 intro s9 k9
 have es:(((a.zip b).map fun p=>(D.int p.1,D.int p.2)).map fun p=>match p with | (.int x,.int y)=>.int (x + w * y) | _=>.non)=((a.zip b).map fun p=>p.1 + w * p.2).map D.int:=by
  rw [List.map_map,List.map_map]
  rfl
 rw [es]
 set_option simprocs false in simp only [wpB]
 exact hQ _ _ ⟨_,rfl,by rw [List.length_map,List.length_zip];omega,k9.app _⟩
theorem za6 {st:Store} {f:Nat} {δ:DSt} {js:List Nat} {fi:DSt→Dm Src} {g:DSt→Dm D} {m:Nat} {Q:D→Store→Prop} (hf:FeedIs st f) (hm:m < 100000) (hi:Wp (fi δ st) fun S st1=>S=.fix (rangeD 0 m)∧st1=st)
  (hg:∀ d s,FeedIs s f→Wp (g (some d :: js.map fun j=>δ.getD j none) s) fun y s2=>(∃ x:Int,y=.int x)∧FeedIs s2 f∧Ex [f] s s2) (fin:∀ (L:List Int) s,L.length=m→FeedIs s f→Ex [f] st s→Q (.ref s.length) (s ++ [.lst (L.map D.int)])):Wp (fComp fi 1 js (hName 0) fTrue g δ st) Q:=by
 refine ybS (rangeD 0 m) (fun _ d=>∃ x:Int,d=.int x) (fun s'=>FeedIs s' f∧Ex [f] st s') ?_ (by rw [Xab];omega) ?_ ?_
 ·refine xab hi fun S s1 h=>?_
  obtain ⟨rfl,rfl⟩:=h
  exact ⟨fun i st2 hi h=>ZaP _ st2 i st2 hi Ex.refl,hf,Ex.refl⟩
 ·intro i d hd s ⟨fs,ks⟩
  exact xab (hg d s fs) fun y s2 h=>⟨h.1,h.2.1,ks.trans h.2.2⟩
 ·intro zs s ⟨fs,ks⟩ hzl hz
  obtain ⟨L,rfl⟩:=XbK hz
  rw [Xab,List.length_map] at hzl
  exact fin L s hzl fs ks
theorem xa1 {st:Store} {xs ys:List Int} {n f:Nat} (hf:FeedIs st f) (tx:Mth.Tn n xs) (ty:Mth.Tn n ys) (n1:1≤n) (hn:n≤100):Wp (Zal [.ref f,flD xs ys] st) fun d st'=>∃ L:List Int,d=.tup (L.map D.int)∧L.length=2 * n∧FeedIs st' f∧Ex [f] st st':=by
 have hlx:=tx.length
 refine Xax ?_
 show Ws (Yap [some (.ref f),some (flD xs ys),none,none,none,none] st) _ _ _ _
 unfold Yap
 refine Xac (zaf ?_)
 refine Yaa ?_
 intro qhQ hQ
 set_option simprocs false in simp only [wpB,show flD xs ys=.tup [.tup (xs.map D.int),.tup (ys.map D.int)] from rfl]
 rw [List.length_map,hlx]
 refine hQ _ _ (Xac (zaf ?_))
 clear hQ
 refine Yaa ?_
 intro qhQ hQ
 set_option simprocs false in simp only [wpB]
 refine za6 (m:=n) hf (by omega) ?_ ?_ ?_
 ·refine Yaa ?_
  intro qhQ2 hQ2
  set_option simprocs false in simp only [wpB]
  exact ⟨by omega,hQ2 _ _ ⟨by rw [Int.toNat_natCast],rfl⟩⟩
 ·intro d s fs
  refine Yaa ?_
  intro qhQ2 hQ2
  set_option simprocs false in simp only [wpB,List.map_cons,List.map_nil,List.getD_cons_succ,List.getD_cons_zero]
  refine xab (xam (n:=7) fs (by decide) (by decide)) ?_
  rintro d s2 ⟨c,rfl,c0,c1,fs2,ks2⟩
  set_option simprocs false in simp only [wpB]
  exact hQ2 _ _ ⟨⟨_,rfl⟩,fs2,ks2⟩
 intro W s hW fs ks
 refine xab (XaV (w:=W) tx ty hn hW (.inr ⟨_,rfl,Xag⟩)) ?_
 rintro d s1 ⟨rfl,k1⟩
 have f1:FeedIs s1 f:=(fs.keep (Ex.app0 _)).keep k1
 have e1:Ex [f] st s1:=(ks.app _).trans k1.any
 obtain ⟨d0,s7,e0,ct,rfl,ct0,ct1,f7,k7⟩:=xam (n:=4) f1 (by decide) (by decide)
 refine hQ _ _ (Xac (YaB (rangeD 0 ct.toNat) (fun i δ s2=>∃ (v4 v5:Option D) (L:List Int),δ=[some (.ref f),some (flD xs ys),some (.int (n:Int)),some (.tup (L.map D.int)),v4,v5]∧L.length=2 * n∧FeedIs s2 f∧Ex [f] st s2) ?_ (by rw [Xab];omega) ?_ ?_))
 ·clear hQ
  refine Yaa ?_
  intro qhQ hQ
  set_option simprocs false in simp only [wpB]
  refine ⟨_,_,e0,?_⟩
  exact ⟨_,rfl,by omega,hQ _ _ ⟨rfl,none,none,_,rfl,ybq xs ys n W,f7,e1.trans k7⟩⟩
 ·clear hQ
  rintro i d δ s2 hd ⟨v4,v5,L,rfl,hL,f2,k2⟩
  refine Yaa ?_
  intro qhQ hQ
  set_option simprocs false in simp only [wpB]
  refine hQ _ _ (Xac (zaf ?_))
  clear hQ
  refine Yaa ?_
  intro qhQ hQ
  set_option simprocs false in simp only [wpB]
  refine xab (xam (n:=2) f2 (by decide) (by decide)) ?_
  rintro d s3 ⟨c,rfl,c0,c1,f3,k3⟩
  refine hQ _ _ (zaf ?_)
  clear hQ
  refine Yaa ?_
  intro qhQ hQ
  set_option simprocs false in simp only [wpB]
  refine xab (xam (n:=(n:Int)) f3 (by omega) (by omega)) ?_
  rintro d s4 ⟨o,rfl,o0,o1,f4,k4⟩
  refine xab (Xbv (s:=o) (w:=c) tx ty hn o0 o1 (by omega)) ?_
  rintro d s5 ⟨M,rfl,hM,k5⟩
  refine xab (xam (n:=5) (f4.keep k5) (by decide) (by decide)) ?_
  rintro d s6 ⟨e,rfl,e0',e1',f6,k6⟩
  set_option simprocs false in simp only [wpB]
  refine xab (YbU (a:=L) (b:=M) (w:=e - 2) (by rw [hL,hM]) (by omega) (by omega) (by omega)) ?_
  rintro d s8 ⟨N,rfl,hN,k8⟩
  exact hQ _ _ ⟨_,_,N,rfl,by rw [hN,hL],f6.keep k8,((((k2.trans k3).trans k4).trans k5.any).trans k6).trans k8.any⟩
 ·clear hQ
  rintro δ s2 ⟨v4,v5,L,rfl,hL,f2,k2⟩
  refine zai ?_
  refine Yaa ?_
  intro qhQ hQ
  set_option simprocs false in simp only [wpB]
  exact hQ _ _ ⟨L,rfl,hL,f2,k2⟩
theorem ybL {st:Store} {xs ys:List Int} {n:Nat} {s:Int} {j:Nat} (tx:Mth.Tn n xs) (ty:Mth.Tn n ys) (s0:0≤s) (s1:s < (n:Int)) (hj:j < 4):Wp (Zat [flD xs ys,.int s,.str (stepS j)] st) fun d st'=>d=.int (sideJ xs ys n s j)∧Ex [] st st':=by
 have hlx:=tx.length
 have hly:=ty.length
 have c:j=0∨j=1∨j=2∨j=3:=by omega
 refine Xax ?_
 show Ws (xay [some (flD xs ys),some (.int s),some (.str (stepS j))] st) _ _ _ _
 unfold xay flD
 rcases c with rfl | rfl | rfl | rfl
 ·refine Xac (yaw ?_)
  refine Yaa ?_
  intro qhQ hQ
  set_option simprocs false in simp only [wpB]
  refine hQ _ _ ⟨fun _=>zai ?_,fun z=>absurd z (by decide)⟩
  clear hQ
  refine Yaa ?_
  intro qhQ hQ
  set_option simprocs false in simp only [wpB,Zak (xs:=xs) s0 (by omega)]
  rw [List.length_map,hlx]
  exact hQ _ _ ⟨rfl,Ex.refl⟩
 ·refine Xac (yaw ?_)
  refine Yaa ?_
  intro qhQ hQ
  set_option simprocs false in simp only [wpB]
  refine hQ _ _ ⟨fun z=>absurd z (by decide),fun _=>Yak (Xac (yaw ?_))⟩
  clear hQ
  refine Yaa ?_
  intro qhQ hQ
  set_option simprocs false in simp only [wpB]
  refine hQ _ _ ⟨fun z=>absurd z (by decide),fun _=>Yak (Xac (yaw ?_))⟩
  clear hQ
  refine Yaa ?_
  intro qhQ hQ
  set_option simprocs false in simp only [wpB]
  refine hQ _ _ ⟨fun _=>zai ?_,fun z=>absurd z (by decide)⟩
  clear hQ
  refine Yaa ?_
  intro qhQ hQ
  set_option simprocs false in simp only [wpB,Zak (xs:=ys) s0 (by omega)]
  exact hQ _ _ ⟨rfl,Ex.refl⟩
 ·refine Xac (yaw ?_)
  refine Yaa ?_
  intro qhQ hQ
  set_option simprocs false in simp only [wpB]
  refine hQ _ _ ⟨fun z=>absurd z (by decide),fun _=>Yak (Xac (yaw ?_))⟩
  clear hQ
  refine Yaa ?_
  intro qhQ hQ
  set_option simprocs false in simp only [wpB]
  refine hQ _ _ ⟨fun _=>zai ?_,fun z=>absurd z (by decide)⟩
  clear hQ
  refine Yaa ?_
  intro qhQ hQ
  set_option simprocs false in simp only [wpB]
  rw [List.length_map,hlx]
  exact hQ _ _ ⟨rfl,Ex.refl⟩
 ·refine Xac (yaw ?_)
  refine Yaa ?_
  intro qhQ hQ
  set_option simprocs false in simp only [wpB]
  refine hQ _ _ ⟨fun z=>absurd z (by decide),fun _=>Yak (Xac (yaw ?_))⟩
  clear hQ
  refine Yaa ?_
  intro qhQ hQ
  set_option simprocs false in simp only [wpB]
  refine hQ _ _ ⟨fun z=>absurd z (by decide),fun _=>Yak (Xac (yaw ?_))⟩
  clear hQ
  refine Yaa ?_
  intro qhQ hQ
  set_option simprocs false in simp only [wpB]
  refine hQ _ _ ⟨fun z=>absurd z (by decide),fun _=>Yak (zai ?_)⟩
  clear hQ
  refine Yaa ?_
  intro qhQ hQ
  set_option simprocs false in simp only [wpB]
  exact hQ _ _ ⟨rfl,Ex.refl⟩
noncomputable def sgnT:List (Str×TV):=[("r",.int 1),("l",.int (-1)),("u",.int (-1)),("d",.int 1)]
theorem xbU {j:Nat} (hj:j < 4):valT sgnT (stepS j)=some (.int (sgnJ j)):=by
 have c:j=0∨j=1∨j=2∨j=3:=by omega
 rcases c with rfl | rfl | rfl | rfl <;> rfl
noncomputable def rimF (xs ys:List Int) (n:Nat) (o:Int):List Nat→List Int:=fun L=>L.foldl (fun r j=>upd r (sideJ xs ys n o j) (sgnJ j)) (List.replicate (2 * n) 0)
theorem Ybq (xs ys:List Int) (n:Nat) (o:Int) (L:List Nat):(rimF xs ys n o L).length=2 * n:=by
 unfold rimF
 have:∀ (L:List Nat) (r:List Int),(L.foldl (fun r j=>upd r (sideJ xs ys n o j) (sgnJ j)) r).length=r.length:=by
  intro L
  induction L with
  | nil=>intro r;rfl
  | cons j L ih=>intro r;rw [List.foldl_cons,ih,yap]
 rw [this,List.length_replicate]
theorem xbq (xs ys:List Int) (n:Nat) (o:Int):(rimL xs ys n o).length=2 * n:=Ybq xs ys n o [0,2,1,3]
theorem XbU {st:Store} {xs ys:List Int} {n:Nat} {o:Int} (tx:Mth.Tn n xs) (ty:Mth.Tn n ys) (hn:n≤100) (o0:0≤o) (o1:o < (n:Int)):Wp (xaR [flD xs ys,.int o] st) fun d st'=>d=.tup ((rimL xs ys n o).map D.int)∧Ex [] st st':=by
 have hlx:=tx.length
 refine Xax ?_
 show Ws (yaY [some (flD xs ys),some (.int o),none,none,none] st) _ _ _ _
 unfold yaY
 refine Xac (zaf ?_)
 refine Yaa ?_
 intro qhQ hQ
 set_option simprocs false in simp only [wpB,show flD xs ys=.tup [.tup (xs.map D.int),.tup (ys.map D.int)] from rfl]
 rw [List.length_map,hlx]
 rw [show (2 * (n:Int)).toNat=2 * n by omega,rep0,show (st ++ [O.lst [D.int 0]]).length=st.length + 1 by simp]
 have hg:(st ++ [O.lst [D.int 0]] ++ [O.lst ((List.replicate (2 * n) (0:Int)).map D.int)])[st.length + 1]?=some (.lst ((rimF xs ys n o []).map D.int)):=by
  rw [show st.length + 1=(st ++ [O.lst [D.int 0]]).length by simp]
  exact Xag
 refine ⟨rfl,.inl ⟨by decide,by decide⟩,⟨by omega,by omega⟩,zan (by rw [List.length_singleton];omega),hQ _ _ (Xac (YaB (keysD sgnT) (fun i δ s2=>∃ v3 v4:Option D,δ=[some (flD xs ys),some (.int o),some (.ref (st.length + 1)),v3,v4]∧s2[st.length + 1]?=some (.lst ((rimF xs ys n o ([0,2,1,3].take i)).map D.int))∧Ex [] st s2) ?_ (by decide) ?_ ?_))⟩
 ·clear hQ
  refine Yaa ?_
  intro qhQ hQ
  set_option simprocs false in simp only [wpB,xbS]
  exact hQ _ _ ⟨rfl,none,none,rfl,hg,(Ex.app0 _).app _⟩
 ·clear hQ
  rintro i d δ s2 hd ⟨v3,v4,rfl,hL,k2⟩
  obtain ⟨j,hj4,ed,ej⟩:∃ j:Nat,j < 4∧d=.str (stepS j)∧[0,2,1,3].take (i + 1)=[0,2,1,3].take i ++ [j]:=by
   have hi:i < 4:=zac hd
   have c:i=0∨i=1∨i=2∨i=3:=by omega
   rcases c with rfl | rfl | rfl | rfl
   ·exact ⟨0,by decide,by cases hd;rfl,rfl⟩
   ·exact ⟨2,by decide,by cases hd;rfl,rfl⟩
   ·exact ⟨1,by decide,by cases hd;rfl,rfl⟩
   ·exact ⟨3,by decide,by cases hd;rfl,rfl⟩
  subst ed
  have eR:rimF xs ys n o ([0,2,1,3].take (i + 1))=upd (rimF xs ys n o ([0,2,1,3].take i)) (sideJ xs ys n o j) (sgnJ j):=by
   rw [ej];unfold rimF;rw [List.foldl_append];rfl
  have hl:=Ybq xs ys n o ([0,2,1,3].take i)
  generalize rimF xs ys n o ([0,2,1,3].take i)=R at hL eR hl
  obtain ⟨b0,b1⟩:=zaI tx ty o0 o1 j
  refine Yaa ?_
  intro qhQ hQ
  set_option simprocs false in simp only [wpB]
  refine hQ _ _ (Xac (zaf ?_))
  clear hQ
  refine Yaa ?_
  intro qhQ hQ
  set_option simprocs false in simp only [wpB]
  refine xab (ybL tx ty o0 o1 hj4) ?_
  rintro d s3 ⟨rfl,k3⟩
  have hL3:=k3.keep _ _ hL (by simp)
  refine hQ _ _ (YaK ?_)
  clear hQ
  refine Yaa ?_
  intro qhQ hQ
  set_option simprocs false in simp only [wpB,Zad hL3,Zak (xs:=R) b0 (by omega),wp_tab]
  refine ⟨_,xbU hj4,?_⟩
  rw [show tvD (.int (sgnJ j))=D.int (sgnJ j) from rfl]
  set_option simprocs false in simp only [wpB,zaj hL3]
  refine hQ _ _ ?_
  clear hQ
  refine Yaa ?_
  intro qhQ hQ
  set_option simprocs false in simp only [wpB,zaj hL3]
  have hix:ixN (R.map D.int).length (sideJ xs ys n o j)=some (sideJ xs ys n o j).toNat:=by
   have:=ZaL (n:=(R.map D.int).length) (j:=(sideJ xs ys n o j).toNat) (by rw [List.length_map];omega)
   rwa [Int.toNat_of_nonneg b0] at this
  refine ⟨_,hix,hQ _ _ ⟨_,_,rfl,?_,(k2.trans k3).loc (by omega)⟩⟩
  rw [List.getElem?_set_self (zac hL3),Zbb,eR]
 ·clear hQ
  rintro δ s2 ⟨v3,v4,rfl,hL,k2⟩
  refine zai ?_
  refine Yaa ?_
  intro qhQ hQ
  set_option simprocs false in simp only [wpB,Zad hL]
  exact hQ _ _ ⟨rfl,k2⟩
theorem zaG {st:Store} {xs ys:List Int} {Q:D→Store→Prop}:Wp (gIxT (flD xs ys) (.int 0) st) Q↔Q (.tup (xs.map D.int)) st:=Yab
theorem zaW {st:Store} {xs ys:List Int} {n:Nat} (tx:Mth.Tn n xs) (ty:Mth.Tn n ys) (hn:n≤100):Wp (yaA [flD xs ys] st) fun d st'=>∃ rs:List (List Int),d=tts rs∧Mth.Rgs (Mth.rnd xs ys) (Mth.upto n) rs∧(∀ r∈rs,r.length≤n∧∀ x∈r,0≤x∧x < (n:Int))∧rs.length≤n∧Ex [] st st':=by
 refine Xax ?_
 show Ws (xaF [some (flD xs ys)] st) _ _ _ _
 unfold xaF
 refine zai ?_
 refine Yaa ?_
 intro qhQ hQ
 set_option simprocs false in simp only [wpB]
 refine xab (xbv tx ty hn) ?_
 rintro d st1 ⟨rfl,k1⟩
 refine xab (Ybv (tx.rnd ty) hn) ?_
 rintro d st2 ⟨rs,rfl,hr,hb,hl,k2⟩
 exact hQ _ _ ⟨rs,rfl,hr,hb,hl,k1.trans k2⟩
noncomputable def tI (l:List Int):D:=.tup (l.map D.int)
theorem ZbL {st:Store} {xs ys:List Int} {n:Nat} (tx:Mth.Tn n xs) (ty:Mth.Tn n ys) (hn:n≤100):Wp (zao [flD xs ys] st) fun d st'=>∃ N:List Int,d=.tup (N.map D.int)∧N.length=n∧(∃ rs:List (List Int),Mth.Rgs (Mth.rnd xs ys) (Mth.upto n) rs∧rs.length≤n∧∀ (i:Nat) (r:List Int),rs[i]?=some r→∀ x∈r,N[x.toNat]?=some (i:Int))∧Ex [] st st':=by
 have hlx:=tx.length
 have tr:=tx.rnd ty
 refine Xax ?_
 show Ws (Zau [some (flD xs ys),none,none,none,none] st) _ _ _ _
 unfold Zau
 refine Xac (zaf ?_)
 refine Yaa ?_
 intro qhQ hQ
 set_option simprocs false in simp only [wpB]
 refine ⟨rfl,?_⟩
 rw [zaG]
 have hO:own (st ++ [O.lst [D.int 0]]) st.length=some [D.int 0]:=Xa8
 have kO:Ex [] st (st ++ [O.lst [D.int 0]]):=Ex.app0 _
 generalize (st ++ [O.lst [D.int 0]])=s1 at hO kO ⊢
 refine ⟨xs.map D.int,rfl,_,hO,?_⟩
 rw [List.length_map,hlx,Int.toNat_natCast,rep0]
 refine ⟨by omega,zan (by simp;omega),hQ _ _ ?_⟩
 clear hQ
 have hls:st.length≤s1.length:=kO.len
 have hN0:(s1 ++ [O.lst ((List.replicate n (0:Int)).map D.int)])[s1.length]?=some (.lst ((List.replicate n (0:Int)).map D.int)):=Xag
 have kN:Ex [] st (s1 ++ [O.lst ((List.replicate n (0:Int)).map D.int)]):=kO.app _
 generalize (s1 ++ [O.lst ((List.replicate n (0:Int)).map D.int)])=s2 at hN0 kN ⊢
 generalize s1.length=rn at hls hN0 ⊢
 obtain ⟨d0,s0,eC,rs,rfl,hr,hb,hl,k0⟩:=zaW (st:=s2) tx ty hn
 have rw':=hr.rw tr
 have hnd:=hr.nodup tr
 have e0:tts rs=D.tup (rs.map tI):=rfl
 have hN1:=k0.keep _ _ hN0 (by simp)
 refine Xac (YaB (enumD (rs.map tI)) (fun k δ s=>∃ (v2 v3 v4:Option D) (N:List Int),δ=[some (flD xs ys),some (.ref rn),v2,v3,v4]∧s[rn]?=some (.lst (N.map D.int))∧N.length=n∧(∀ (i:Nat) (r:List Int),i < k→rs[i]?=some r→∀ x∈r,N[x.toNat]?=some (i:Int))∧Ex [] st s) ?_ (by rw [Zaj,List.length_map];omega) ?_ ?_)
 ·refine Yaa ?_
  intro qhQ hQ
  set_option simprocs false in simp only [wpB]
  exact ⟨_,s0,eC,rs.map tI,rfl,hQ _ _ ⟨rfl,_,_,_,List.replicate n 0,rfl,hN1,by simp,fun i r h=>by omega,kN.trans k0⟩⟩
 ·rintro k d δ s hd ⟨v2,v3,v4,N,rfl,hs,hNl,hin,ks⟩
  obtain ⟨d',hd',rfl⟩:=XaG hd
  obtain ⟨r,hrk,rfl⟩:∃ r,rs[k]?=some r∧d'=tI r:=by
   rw [List.getElem?_map] at hd'
   obtain ⟨l,h1,h2⟩:=Option.map_eq_some_iff.mp hd'
   exact ⟨l,h1,h2.symm⟩
  have ar:=rw' r (List.mem_of_getElem? hrk)
  have brd:=ar.bound tr
  have rln:=ar.len tr
  unfold tI
  refine Yaa ?_
  intro qhQ hQ
  set_option simprocs false in simp only [wpB]
  refine ⟨rfl,hQ _ _ (YaB (r.map D.int) (fun j δ s=>∃ (v4:Option D) (N:List Int),δ=[some (flD xs ys),some (.ref rn),some (.int (k:Int)),some (.tup (r.map D.int)),v4]∧s[rn]?=some (.lst (N.map D.int))∧N.length=n∧(∀ (i:Nat) (r:List Int),i < k→rs[i]?=some r→∀ x∈r,N[x.toNat]?=some (i:Int))∧(∀ (i:Nat) (x:Int),i < j→r[i]?=some x→N[x.toNat]?=some (k:Int))∧Ex [] st s) ?_ (by rw [List.length_map];omega) ?_ ?_)⟩
  ·clear hQ
   refine Yaa ?_
   intro qhQ hQ
   set_option simprocs false in simp only [wpB]
   exact hQ _ _ ⟨rfl,_,N,rfl,hs,hNl,hin,fun i x h=>by omega,ks⟩
  ·rintro j d δ s hd ⟨v4,N,rfl,hs,hNl,hin,hjn,ks⟩
   obtain ⟨x,hx,rfl⟩:=yaR hd
   have hxr:=List.mem_of_getElem? hx
   obtain ⟨x0,x1⟩:=brd x hxr
   have hix:ixN (N.map D.int).length x=some x.toNat:=by
    have:=ZaL (n:=(N.map D.int).length) (j:=x.toNat) (by rw [List.length_map];omega)
    rwa [Int.toNat_of_nonneg x0] at this
   have es:(N.map D.int).set x.toNat (.int (k:Int))=(N.set x.toNat (k:Int)).map D.int:=by rw [List.map_set]
   clear hQ
   refine Yaa ?_
   intro qhQ hQ
   set_option simprocs false in simp only [wpB]
   refine hQ _ _ (YaK ?_)
   clear hQ
   refine Yaa ?_
   intro qhQ hQ
   set_option simprocs false in simp only [wpB]
   refine hQ _ _ ?_
   clear hQ
   refine Yaa ?_
   intro qhQ hQ
   set_option simprocs false in simp only [wpB,zaj hs,hix,es]
   refine hQ _ _ ⟨_,N.set x.toNat (k:Int),rfl,List.getElem?_set_self (zac hs),by rw [List.length_set];exact hNl,fun i r' hi hr' y hy=>?_,fun i y hi hy=>?_,ks.loc hls⟩
   ·have ar':=rw' r' (List.mem_of_getElem? hr')
    obtain ⟨y0,y1⟩:=ar'.bound tr y hy
    rw [List.getElem?_set_ne (fun z=>?_)]
    ·exact hin i r' hi hr' y hy
    ·have e:x=y:=by omega
     subst e
     have e2:=ar.eq ar' hxr hy
     have:=(List.getElem?_inj (zac hr') hnd).mp (hr'.trans (by rw [hrk,e2]))
     omega
   ·obtain ⟨y0,y1⟩:=brd y (List.mem_of_getElem? hy)
    by_cases e:x=y
    ·subst e
     rw [List.getElem?_set_self (by omega)]
    ·rw [List.getElem?_set_ne (by omega)]
     refine hjn i y ?_ hy
     by_cases hij:i=j
     ·subst hij;rw [hx] at hy;cases hy;exact absurd rfl e
     ·omega
  ·rintro δ s ⟨v4,N,rfl,hs,hNl,hin,hjn,ks⟩
   refine ⟨_,_,_,N,rfl,hs,hNl,fun i r' hi hr' y hy=>?_,ks⟩
   by_cases e:i=k
   ·subst e
    rw [hrk] at hr'
    cases hr'
    obtain ⟨j,hj⟩:=List.getElem?_of_mem hy
    exact hjn j y (by rw [List.length_map];exact zac hj) hj
   ·exact hin i r' (by omega) hr' y hy
 ·rintro δ s ⟨v2,v3,v4,N,rfl,hs,hNl,hin,ks⟩
  rw [Zaj,List.length_map] at hin
  refine zai ?_
  refine Yaa ?_
  intro qhQ hQ
  set_option simprocs false in simp only [wpB,Zad hs]
  exact hQ _ _ ⟨N,rfl,hNl,⟨rs,hr,hl,fun i r h=>hin i r (zac h) h⟩,ks⟩
noncomputable def nb (xs ys:List Int) (h:Int):Nat→Int
 | 0=>h
 | j + 1=>nbr xs ys (nb xs ys h j) j
theorem nb_rnd {n:Nat} {xs ys:List Int} (tx:Mth.Tn n xs) (ty:Mth.Tn n ys) {h:Int} (h0:0≤h) (h1:h < (n:Int)):nb xs ys h 4=Mth.app (Mth.rnd xs ys) h:=by
 have hlx:=tx.length
 have hly:=ty.length
 obtain ⟨a0,a1⟩:=tx.app h0 h1
 obtain ⟨b0,b1⟩:=ty.app a0 a1
 obtain ⟨c0,c1⟩:=tx.invB b0 b1
 show Mth.app (Mth.inv ys) (Mth.app (Mth.inv xs) (Mth.app ys (Mth.app xs h)))=_
 unfold Mth.rnd
 rw [Mth.yaU h0 (by rw [Mth.ZaG];omega),Mth.yaU h0 (by omega),Mth.yaU b0 (by rw [Mth.yaG];omega)]
theorem Xbq {n:Nat} {xs ys:List Int} (tx:Mth.Tn n xs) (ty:Mth.Tn n ys) {h:Int} (h0:0≤h) (h1:h < (n:Int)):∀ j,0≤nb xs ys h j∧nb xs ys h j < (n:Int)
 | 0=>⟨h0,h1⟩
 | j + 1=>by
  obtain ⟨a,b⟩:=Xbq tx ty h0 h1 j
  show 0≤nbr xs ys (nb xs ys h j) j∧nbr xs ys (nb xs ys h j) j < (n:Int)
  rw [xbK]
  exact (YaS tx ty j).app a b
noncomputable def mnI (R:List Int) (s:Int):Nat→Int
 | 0=>s
 | k + 1=>if Mth.itr R s (k + 1) < mnI R s k then Mth.itr R s (k + 1) else mnI R s k
theorem YbL:chD (Str.ofString "ruld")=[0,1,2,3].map fun j=>D.str (stepS j):=rfl
theorem XaP {st:Store} {xs ys:List Int} {n:Nat} {s:Int} (tx:Mth.Tn n xs) (ty:Mth.Tn n ys) (hn:n≤100) (s0:0≤s) (s1:s < (n:Int)):Wp (Yan [flD xs ys,.int s] st) fun d st'=>d=.int (mnI (Mth.rnd xs ys) s n)∧Ex [] st st':=by
 have hlx:=tx.length
 have tr:=tx.rnd ty
 refine Xax ?_
 show Ws (YaC [some (flD xs ys),some (.int s),none,none,none,none] st) _ _ _ _
 unfold YaC
 refine Xac (xbo ?_)
 refine Yaa ?_
 intro qhQ hQ
 set_option simprocs false in simp only [wpB]
 refine hQ _ _ ⟨_,_,rfl,?_⟩
 clear hQ
 refine Xac (YaB (rangeD 0 n) (fun k δ s2=>∃ v4 v5:Option D,δ=[some (flD xs ys),some (.int s),some (.int (mnI (Mth.rnd xs ys) s k)),some (.int (Mth.itr (Mth.rnd xs ys) s k)),v4,v5]∧Ex [] st s2) ?_ (by rw [Xab];omega) ?_ ?_)
 ·refine Yaa ?_
  intro qhQ hQ
  set_option simprocs false in simp only [wpB,zaG]
  rw [List.length_map,hlx]
  exact ⟨by omega,hQ _ _ ⟨by rw [Int.toNat_natCast],_,_,rfl,Ex.refl⟩⟩
 ·rintro k d δ s2 hd ⟨v4,v5,rfl,k2⟩
  have hk:=zac hd
  rw [Xab] at hk
  obtain ⟨y0,y1⟩:=tr.itr s0 s1 k
  generalize hy:Mth.itr (Mth.rnd xs ys) s k=y at y0 y1
  refine Yaa ?_
  intro qhQ hQ
  set_option simprocs false in simp only [wpB]
  refine hQ _ _ (Xac (YaB (chD (Str.ofString "ruld")) (fun j δ s3=>∃ v5:Option D,δ=[some (flD xs ys),some (.int s),some (.int (mnI (Mth.rnd xs ys) s k)),some (.int (nb xs ys y j)),some d,v5]∧Ex [] st s3) ?_ (by decide) ?_ ?_))
  ·clear hQ
   refine Yaa ?_
   intro qhQ hQ
   set_option simprocs false in simp only [wpB,YbI]
   exact ⟨by decide,hQ _ _ ⟨rfl,_,rfl,k2⟩⟩
  ·rintro j d' δ s3 hd' ⟨v5,rfl,k3⟩
   have hj4:j < 4:=zac hd'
   obtain rfl:d'=D.str (stepS j):=by
    rw [YbL,List.getElem?_map] at hd'
    match j,hj4 with
    | 0,_=>cases hd';rfl
    | 1,_=>cases hd';rfl
    | 2,_=>cases hd';rfl
    | 3,_=>cases hd';rfl
   obtain ⟨b0,b1⟩:=Xbq tx ty y0 y1 j
   clear hQ
   refine Yaa ?_
   intro qhQ hQ
   set_option simprocs false in simp only [wpB]
   refine hQ _ _ (zaf ?_)
   clear hQ
   refine Yaa ?_
   intro qhQ hQ
   set_option simprocs false in simp only [wpB]
   refine xab (XaE tx ty b0 b1 hj4) ?_
   rintro d s4 ⟨rfl,k4⟩
   exact hQ _ _ ⟨_,rfl,k3.trans k4⟩
  ·rintro δ s3 ⟨v5,rfl,k3⟩
   have e4:(chD (Str.ofString "ruld")).length=4:=rfl
   rw [e4,nb_rnd tx ty y0 y1]
   clear hQ
   refine zaf ?_
   refine Yaa ?_
   intro qhQ hQ
   set_option simprocs false in simp only [wpB]
   subst hy
   exact hQ _ _ ⟨some d,v5,rfl,k3⟩
 ·rintro δ s2 ⟨v4,v5,rfl,k2⟩
  rw [Xab]
  refine zai ?_
  refine Yaa ?_
  intro qhQ hQ
  set_option simprocs false in simp only [wpB]
  exact hQ _ _ ⟨rfl,k2⟩
theorem xbZ (R:List Int) (s:Int):∀ (k j:Nat),j≤k→mnI R s k≤Mth.itr R s j
 | 0,j,h=>by
  have:j=0:=by omega
  subst this
  exact Int.le_refl _
 | k + 1,j,h=>by
  show (if Mth.itr R s (k + 1) < mnI R s k then Mth.itr R s (k + 1) else mnI R s k)≤_
  by_cases e:j=k + 1
  ·subst e
   split <;> omega
  ·have:=xbZ R s k j (by omega)
   split <;> omega
theorem XbZ (R:List Int) (s:Int):∀ k:Nat,∃ j,j≤k∧mnI R s k=Mth.itr R s j
 | 0=>⟨0,Nat.le_refl _,rfl⟩
 | k + 1=>by
  obtain ⟨j,h1,h2⟩:=XbZ R s k
  show ∃ i,i≤k + 1∧(if Mth.itr R s (k + 1) < mnI R s k then Mth.itr R s (k + 1) else mnI R s k)=Mth.itr R s i
  split
  ·exact ⟨k + 1,Nat.le_refl _,rfl⟩
  ·exact ⟨j,by omega,h2⟩
theorem xbL (R:List Int) (s:Int) (a:Nat):∀ b:Nat,Mth.itr R (Mth.itr R s a) b=Mth.itr R s (a + b)
 | 0=>rfl
 | b + 1=>by show Mth.app R (Mth.itr R (Mth.itr R s a) b)=Mth.app R (Mth.itr R s (a + b));rw [xbL R s a b]
theorem mn_hd {n:Nat} {R r:List Int} {x:Int} (tr:Mth.Tn n R) (a:Mth.Rw n R r) (hx:x∈r):∃ i,i∈r∧mnI R x n=i∧∀ y∈r,mnI R y n=i:=by
 obtain ⟨i,⟨i0,i1⟩,ri,hmin⟩:=id a
 have key:∀ y∈r,mnI R y n=i:=fun y hy=>by
  have hlen:=ri.len tr i0 i1
  obtain ⟨m,em,nbm,hm⟩:=id ri
  obtain ⟨j,hj,ej⟩:=Mth.Xav.mp (em ▸ hy)
  have hrl:r.length=m + 1:=by rw [em,Mth.xaM]
  have h1:mnI R y n≤Mth.itr R y (m + 1 - j):=xbZ R y n _ (by omega)
  have h2:Mth.itr R y (m + 1 - j)=i:=by rw [← ej,xbL,show j + (m + 1 - j)=m + 1 by omega];exact hm
  obtain ⟨j',_,e'⟩:=XbZ R y n
  have h3:i≤mnI R y n:=by rw [e'];exact hmin _ (ri.itr_mem hy j')
  omega
 exact ⟨i,ri.mem,key x hx,key⟩
theorem Zbl {n:Nat} {R N:List Int} {rs:List (List Int)} (tr:Mth.Tn n R) (hr:Mth.Rgs R (Mth.upto n) rs) (hN:∀ (i:Nat) (r:List Int),rs[i]?=some r→∀ x∈r,N[x.toNat]?=some (i:Int)) (hNl:N.length=n) {x y:Int} (x0:0≤x) (x1:x < (n:Int)) (y0:0≤y) (y1:y < (n:Int)):Mth.app N x=Mth.app N y↔mnI R x n=mnI R y n:=by
 have rw':=hr.rw tr
 obtain ⟨r,hr1,hxr⟩:=hr.has x0 x1
 obtain ⟨q,hq1,hyq⟩:=hr.has y0 y1
 obtain ⟨i,hi⟩:=List.getElem?_of_mem hr1
 obtain ⟨j,hj⟩:=List.getElem?_of_mem hq1
 have ex:Mth.app N x=(i:Int):=by
  have h1:=Mth.xaj (xs:=N) (i:=x) x0 (by omega)
  rw [hN i r hi x hxr] at h1
  exact (Option.some.inj h1).symm
 have ey:Mth.app N y=(j:Int):=by
  have h1:=Mth.xaj (xs:=N) (i:=y) y0 (by omega)
  rw [hN j q hj y hyq] at h1
  exact (Option.some.inj h1).symm
 obtain ⟨a,ha,ea,ka⟩:=mn_hd tr (rw' r hr1) hxr
 obtain ⟨b,hb,eb,kb⟩:=mn_hd tr (rw' q hq1) hyq
 rw [ex,ey,ea,eb]
 constructor
 ·intro h
  have e:i=j:=by omega
  subst e
  rw [hi] at hj
  cases hj
  rw [← ea,ka x hxr,← eb,kb y hyq] at *
  rw [← ka y hyq]
 ·intro h
  subst h
  have e:=(rw' r hr1).eq (rw' q hq1) ha hb
  subst e
  have:=(List.getElem?_inj (zac hi) (hr.nodup tr)).mp (hi.trans hj.symm)
  omega
noncomputable def tot (f:Int→Int) (C:List (Int×Int)) (c:Int):Int:=(C.map fun p=>if f p.1=c then p.2 else 0).sum
theorem Ybb (f:Int→Int) (C C':List (Int×Int)) (c:Int):tot f (C ++ C') c=tot f C c + tot f C' c:=by
 unfold tot;rw [List.map_append,List.sum_append]
theorem xbb {f:Int→Int} {c:Int}:∀ {C:List (Int×Int)},(∀ p∈C,f p.1≠c)→tot f C c=0
 | [],_=>rfl
 | p :: C,h=>by
  have ih:=xbb (C:=C) fun q hq=>h q (List.mem_cons_of_mem _ hq)
  unfold tot at ih ⊢
  rw [List.map_cons,List.sum_cons,ih,if_neg (h p List.mem_cons_self)];rfl
theorem zbr {f g:Int→Int} {C:List (Int×Int)} (h:∀ p∈C,∀ q∈C,f p.1=f q.1↔g p.1=g q.1) (z:∀ c,tot f C c=0) (m:Int):tot g C m=0:=by
 by_cases e:∃ p∈C,g p.1=m
 ·obtain ⟨p,hp,rfl⟩:=e
  rw [← z (f p.1)]
  unfold tot
  congr 1
  refine List.map_congr_left fun q hq=>?_
  have:=h q hq p hp
  by_cases e:f q.1=f p.1
  ·rw [if_pos e,if_pos (this.mp e)]
  ·rw [if_neg e,if_neg (fun z=>e (this.mpr z))]
 ·exact xbb fun p hp z=>e ⟨p,hp,z⟩
noncomputable def lo (f:Int→Int) (C:List (Int×Int)) (n:Nat):List Int:=(List.range n).map fun (c:Nat)=>tot f C (c:Int)
theorem XaS (f:Int→Int) (C:List (Int×Int)) (n:Nat):(lo f C n).length=n:=by unfold lo;rw [List.length_map,List.length_range]
theorem zbw {f:Int→Int} {C:List (Int×Int)} {n i:Nat} (h:i < (lo f C n).length):(lo f C n)[i]=tot f C (i:Int):=by
 simp [lo]
theorem lo_app {f:Int→Int} {C:List (Int×Int)} {n:Nat} {c:Int} (c0:0≤c) (c1:c < (n:Int)):Mth.app (lo f C n) c=tot f C c:=by
 have h:=Mth.xaj (xs:=lo f C n) (i:=c) c0 (by rw [XaS];exact c1)
 have hl:c.toNat < (lo f C n).length:=by rw [XaS];omega
 rw [List.getElem?_eq_getElem hl,zbw,Int.toNat_of_nonneg c0] at h
 exact (Option.some.inj h).symm
theorem ybr {f:Int→Int} {C:List (Int×Int)} {n:Nat} {q v:Int} (q0:0≤f q) (q1:f q < (n:Int)):upd (lo f C n) (f q) v=lo f (C ++ [(q,v)]) n:=by
 unfold upd
 rw [lo_app q0 q1]
 refine List.ext_getElem (by rw [List.length_set,XaS,XaS]) fun i h1 h2=>?_
 rw [List.getElem_set,zbw,zbw,Ybb]
 by_cases e:f q=(i:Int)
 ·rw [if_pos (by omega),e]
  unfold tot
  simp [e]
 ·rw [if_neg (by omega)]
  unfold tot
  simp [e]
noncomputable def bgS (xs ys:List Int) (s:Int):Int:=nbr xs ys (nbr xs ys s 3) 2
noncomputable def ctP (xs ys sm:List Int) (n:Nat) (s:Int):List (Int×Int):=[(bgS xs ys s,-(Mth.app sm s)),(bgS xs ys s,-(Mth.app sm ((n:Int) + s))),(nbr xs ys s 3,Mth.app sm s),(nbr xs ys s 2,Mth.app sm ((n:Int) + s))]
noncomputable def CTP (xs ys sm:List Int) (n:Nat):Nat→List (Int×Int)
 | 0=>[]
 | k + 1=>CTP xs ys sm n k ++ ctP xs ys sm n (k:Int)
theorem xb9 (f:Int→Int) (n:Nat):lo f [] n=List.replicate n 0:=by
 refine List.ext_getElem (by rw [XaS,List.length_replicate]) fun i h1 h2=>?_
 rw [zbw,List.getElem_replicate];rfl
theorem yax {n:Nat} {xs ys:List Int} (tx:Mth.Tn n xs) (ty:Mth.Tn n ys) {s:Int} (s0:0≤s) (s1:s < (n:Int)) (j:Nat):0≤nbr xs ys s j∧nbr xs ys s j < (n:Int):=by
 rw [xbK];exact (YaS tx ty j).app s0 s1
theorem Xb9 {L:List Int} {k a b:Int} (k0:0≤k) (k1:k < (L.length:Int)):(L.map D.int).set k.toNat (.int (Mth.app L k - a - b))=(upd (upd L k (-a)) k (-b)).map D.int:=by
 have h:=zaK (L:=L) (k:=k) (v:=-a) (i:=k) k0 k1 k0
 rw [if_pos rfl] at h
 rw [show D.int (Mth.app L k - a - b)=D.int (Mth.app (upd L k (-a)) k + -b) by rw [h];first | rfl | (congr 1;omega)]
 unfold upd
 rw [List.map_set,List.map_set,List.set_set]
theorem Ybl {st:Store} {xs ys sm:List Int} {n:Nat} (tx:Mth.Tn n xs) (ty:Mth.Tn n ys) (hn:n≤100) (hm:sm.length=2 * n):Wp (YaE [flD xs ys,.tup (sm.map D.int)] st) fun d st'=>∃ (N:List Int) (rs:List (List Int)),N.length=n∧Mth.Rgs (Mth.rnd xs ys) (Mth.upto n) rs∧(∀ (i:Nat) (r:List Int),rs[i]?=some r→∀ x∈r,N[x.toNat]?=some (i:Int))∧d=.bl ((lo (Mth.app N) (CTP xs ys sm n n) n).all fun x=>decide (x=0))∧Ex [] st st':=by
 have hlx:=tx.length
 have tr:=tx.rnd ty
 refine Xax ?_
 show Ws (xaJ [some (flD xs ys),some (.tup (sm.map D.int)),none,none,none,none,none,none,none,none] st) _ _ _ _
 unfold xaJ
 refine Xac (zaf ?_)
 refine Yaa ?_
 intro qhQ hQ
 set_option simprocs false in simp only [wpB]
 refine xab (ybb tx ty hn) ?_
 rintro d s1 ⟨rfl,h1,k1⟩
 refine hQ _ _ (Xac (zaf ?_))
 clear hQ
 refine Yaa ?_
 intro qhQ hQ
 set_option simprocs false in simp only [wpB]
 refine xab (ZbL tx ty hn) ?_
 rintro d s2 ⟨N,rfl,hNl,⟨rs,hr,hrl,hN⟩,k2⟩
 have bN:∀ x:Int,0≤x→x < (n:Int)→0≤Mth.app N x∧Mth.app N x < (n:Int):=fun x x0 x1=>by
  obtain ⟨r,hr1,hxr⟩:=hr.has x0 x1
  obtain ⟨i,hi⟩:=List.getElem?_of_mem hr1
  have h1:=Mth.xaj (xs:=N) (i:=x) x0 (by omega)
  rw [hN i r hi x hxr] at h1
  have:=zac hi
  have:=Option.some.inj h1
  omega
 refine hQ _ _ (Xac (zaf ?_))
 clear hQ
 refine Yaa ?_
 intro qhQ hQ
 set_option simprocs false in simp only [wpB]
 refine ⟨rfl,?_⟩
 rw [zaG]
 have hO:own (s2 ++ [O.lst [D.int 0]]) s2.length=some [D.int 0]:=Xa8
 have kO:Ex [] st (s2 ++ [O.lst [D.int 0]]):=(k1.trans k2).app _
 have hT0:(s2 ++ [O.lst [D.int 0]])[st.length]?=some (.dct (turnsK xs ys)):=xak (k2.keep _ _ h1 (by simp))
 generalize (s2 ++ [O.lst [D.int 0]])=s3 at hO kO hT0 ⊢
 refine ⟨xs.map D.int,rfl,_,hO,?_⟩
 rw [List.length_map,hlx,Int.toNat_natCast,rep0]
 refine ⟨by omega,zan (by simp;omega),hQ _ _ ?_⟩
 clear hQ
 have hls:st.length≤s3.length:=kO.len
 have hL0:(s3 ++ [O.lst ((List.replicate n (0:Int)).map D.int)])[s3.length]?=some (.lst ((List.replicate n (0:Int)).map D.int)):=Xag
 have kL:Ex [] st (s3 ++ [O.lst ((List.replicate n (0:Int)).map D.int)]):=kO.app _
 have hT:(s3 ++ [O.lst ((List.replicate n (0:Int)).map D.int)])[st.length]?=some (.dct (turnsK xs ys)):=xak hT0
 have hlt:=zac hT0
 generalize (s3 ++ [O.lst ((List.replicate n (0:Int)).map D.int)])=s4 at hL0 kL hT ⊢
 generalize s3.length=rl at hls hL0 hlt ⊢
 refine Xac (YaB (rangeD 0 n) (fun k δ s=>∃ (v5 v6 v7 v8 v9:Option D),δ=[some (flD xs ys),some (.tup (sm.map D.int)),some (.ref st.length),some (.tup (N.map D.int)),some (.ref rl),v5,v6,v7,v8,v9]∧s[st.length]?=some (.dct (turnsK xs ys))∧s[rl]?=some (.lst ((lo (Mth.app N) (CTP xs ys sm n k) n).map D.int))∧Ex [] st s) ?_ (by rw [Xab];omega) ?_ ?_)
 ·refine Yaa ?_
  intro qhQ hQ
  set_option simprocs false in simp only [wpB,zaG]
  rw [List.length_map,hlx]
  exact ⟨by omega,hQ _ _ ⟨by rw [Int.toNat_natCast],_,_,_,_,_,rfl,hT,by rw [show CTP xs ys sm n 0=[] from rfl,xb9];exact hL0,kL⟩⟩
 ·rintro k d δ s hd ⟨v5,v6,v7,v8,v9,rfl,hT,hL,ks⟩
  have hk:=zac hd
  rw [Xab] at hk
  rw [xax hk,Int.zero_add] at hd
  cases hd
  have k0:(0:Int)≤(k:Int):=by omega
  have k1:(k:Int) < (n:Int):=by omega
  obtain ⟨d0,d1⟩:=yax tx ty k0 k1 3
  obtain ⟨l0,l1⟩:=yax tx ty k0 k1 2
  obtain ⟨b0,b1⟩:=yax tx ty d0 d1 2
  have eD:valD (turnsK xs ys) (.inr (Str.ofString "d"))=some (.tup ((stepT xs ys 3).map D.int)):=Ya5 xs ys (j:=3) (by decide)
  have eL:valD (turnsK xs ys) (.inr (Str.ofString "l"))=some (.tup ((stepT xs ys 2).map D.int)):=Ya5 xs ys (j:=2) (by decide)
  have aD:atI ((stepT xs ys 3).map D.int) (k:Int)=some (.int (nbr xs ys k 3)):=by rw [xbK];exact Zak k0 (by rw [(YaS tx ty 3).length];exact k1)
  have aL:atI ((stepT xs ys 2).map D.int) (k:Int)=some (.int (nbr xs ys k 2)):=by rw [xbK];exact Zak k0 (by rw [(YaS tx ty 2).length];exact k1)
  have aB:atI ((stepT xs ys 2).map D.int) (nbr xs ys k 3)=some (.int (bgS xs ys k)):=by unfold bgS;rw [xbK xs ys (nbr xs ys k 3) 2];exact Zak d0 (by rw [(YaS tx ty 2).length];exact d1)
  refine Yaa ?_
  intro qhQ hQ
  set_option simprocs false in simp only [wpB]
  refine hQ _ _ (Xac (zaf ?_))
  clear hQ
  refine Yaa ?_
  intro qhQ hQ
  set_option simprocs false in simp only [wpB]
  refine ⟨turnsK xs ys,zau hT,_,rfl,_,eD,?_⟩
  set_option simprocs false in simp only [wpB,aD]
  refine hQ _ _ (Xac (zaf ?_))
  clear hQ
  refine Yaa ?_
  intro qhQ hQ
  set_option simprocs false in simp only [wpB]
  refine ⟨turnsK xs ys,zau hT,_,rfl,_,eL,?_⟩
  set_option simprocs false in simp only [wpB,aB,Zak (xs:=N) (i:=bgS xs ys k) b0 (by rw [hNl];exact b1)]
  refine hQ _ _ (Xac (zaf ?_))
  clear hQ
  refine Yaa ?_
  intro qhQ hQ
  set_option simprocs false in simp only [wpB,Zak (xs:=N) d0 (by rw [hNl];exact d1)]
  refine hQ _ _ (Xac (zaf ?_))
  clear hQ
  refine Yaa ?_
  intro qhQ hQ
  set_option simprocs false in simp only [wpB]
  refine ⟨turnsK xs ys,zau hT,_,rfl,_,eL,?_⟩
  set_option simprocs false in simp only [wpB,aL,Zak (xs:=N) l0 (by rw [hNl];exact l1)]
  obtain ⟨nb0,nb1⟩:=bN (bgS xs ys k) b0 b1
  obtain ⟨nd0,nd1⟩:=bN _ d0 d1
  obtain ⟨nl0,nl1⟩:=bN _ l0 l1
  have ll:=XaS (Mth.app N) (CTP xs ys sm n k) n
  have aS:=Zak (xs:=sm) (i:=(k:Int)) k0 (by omega)
  have aS2:=Zak (xs:=sm) (i:=(n:Int) + (k:Int)) (by omega) (by omega)
  refine hQ _ _ (Xac (YaK ?_))
  clear hQ
  have nN:∀ C:List (Int×Int),(lo (Mth.app N) C n).length=n:=fun C=>XaS _ C n
  have ix:∀ (C:List (Int×Int)) (i:Int),0≤i→i < (n:Int)→ixN ((lo (Mth.app N) C n).map D.int).length i=some i.toNat:=fun C i i0 i1=>by
   have:=ZaL (n:=((lo (Mth.app N) C n).map D.int).length) (j:=i.toNat) (by rw [List.length_map,nN];omega)
   rwa [Int.toNat_of_nonneg i0] at this
  have eX:((xs.map D.int).length:Int)=(n:Int):=by rw [List.length_map,hlx]
  refine Yaa ?_
  intro qhQ hQ
  set_option simprocs false in simp only [wpB,Zad hL,zaG,Zak (xs:=lo (Mth.app N) (CTP xs ys sm n k) n) nb0 (by rw [nN];exact nb1),aS,eX,aS2]
  refine hQ _ _ ?_
  clear hQ
  refine Yaa ?_
  intro qhQ hQ
  set_option simprocs false in simp only [wpB,zaj hL]
  refine ⟨_,ix _ _ nb0 nb1,hQ _ _ (Xac (YaK ?_))⟩
  clear hQ
  rw [Xb9 nb0 (by rw [nN];exact nb1),ybr nb0 nb1,ybr nb0 nb1]
  have hL1:(s.set rl (.lst ((lo (Mth.app N) (CTP xs ys sm n k ++ [(bgS xs ys k,-(Mth.app sm k))] ++ [(bgS xs ys k,-(Mth.app sm ((n:Int) + k)))]) n).map D.int)))[rl]?=some (.lst ((lo (Mth.app N) (CTP xs ys sm n k ++ [(bgS xs ys k,-(Mth.app sm k))] ++ [(bgS xs ys k,-(Mth.app sm ((n:Int) + k)))]) n).map D.int)):=List.getElem?_set_self (zac hL)
  have hT1:(s.set rl (.lst ((lo (Mth.app N) (CTP xs ys sm n k ++ [(bgS xs ys k,-(Mth.app sm k))] ++ [(bgS xs ys k,-(Mth.app sm ((n:Int) + k)))]) n).map D.int)))[st.length]?=some (.dct (turnsK xs ys)):=by rw [List.getElem?_set_ne (by omega)];exact hT
  have kk1:Ex [] st (s.set rl (.lst ((lo (Mth.app N) (CTP xs ys sm n k ++ [(bgS xs ys k,-(Mth.app sm k))] ++ [(bgS xs ys k,-(Mth.app sm ((n:Int) + k)))]) n).map D.int))):=ks.loc hls
  have eC:CTP xs ys sm n (k + 1)=CTP xs ys sm n k ++ [(bgS xs ys k,-(Mth.app sm k))] ++ [(bgS xs ys k,-(Mth.app sm ((n:Int) + k)))] ++ [(nbr xs ys k 3,Mth.app sm k)] ++ [(nbr xs ys k 2,Mth.app sm ((n:Int) + k))]:=by
   show CTP xs ys sm n k ++ ctP xs ys sm n k=_
   unfold ctP
   simp
  generalize (CTP xs ys sm n k ++ [(bgS xs ys k,-(Mth.app sm k))] ++ [(bgS xs ys k,-(Mth.app sm ((n:Int) + k)))])=C1 at hL1 hT1 kk1 eC ⊢
  generalize (s.set rl (.lst ((lo (Mth.app N) C1 n).map D.int)))=t1 at hL1 hT1 kk1 ⊢
  refine Yaa ?_
  intro qhQ hQ
  set_option simprocs false in simp only [wpB,Zad hL1,zaG,Zak (xs:=lo (Mth.app N) C1 n) nd0 (by rw [nN];exact nd1),aS,eX,aS2]
  refine hQ _ _ ?_
  clear hQ
  refine Yaa ?_
  intro qhQ hQ
  set_option simprocs false in simp only [wpB,zaj hL1]
  refine ⟨_,ix _ _ nd0 nd1,hQ _ _ (YaK ?_)⟩
  clear hQ
  rw [Zbb,ybr nd0 nd1]
  have hL2:(t1.set rl (.lst ((lo (Mth.app N) (C1 ++ [(nbr xs ys k 3,Mth.app sm k)]) n).map D.int)))[rl]?=some (.lst ((lo (Mth.app N) (C1 ++ [(nbr xs ys k 3,Mth.app sm k)]) n).map D.int)):=List.getElem?_set_self (zac hL1)
  have hT2:(t1.set rl (.lst ((lo (Mth.app N) (C1 ++ [(nbr xs ys k 3,Mth.app sm k)]) n).map D.int)))[st.length]?=some (.dct (turnsK xs ys)):=by rw [List.getElem?_set_ne (by omega)];exact hT1
  have kk2:Ex [] st (t1.set rl (.lst ((lo (Mth.app N) (C1 ++ [(nbr xs ys k 3,Mth.app sm k)]) n).map D.int))):=kk1.loc hls
  generalize (C1 ++ [(nbr xs ys k 3,Mth.app sm k)])=C2 at hL2 hT2 kk2 eC ⊢
  generalize (t1.set rl (.lst ((lo (Mth.app N) C2 n).map D.int)))=t2 at hL2 hT2 kk2 ⊢
  refine Yaa ?_
  intro qhQ hQ
  set_option simprocs false in simp only [wpB,Zad hL2,zaG,Zak (xs:=lo (Mth.app N) C2 n) nl0 (by rw [nN];exact nl1),aS,eX,aS2]
  refine hQ _ _ ?_
  clear hQ
  refine Yaa ?_
  intro qhQ hQ
  set_option simprocs false in simp only [wpB,zaj hL2]
  refine ⟨_,ix _ _ nl0 nl1,hQ _ _ ⟨_,_,_,_,_,rfl,?_,?_,kk2.loc hls⟩⟩
  ·rw [List.getElem?_set_ne (by omega)];exact hT2
  ·rw [List.getElem?_set_self (zac hL2),Zbb,ybr nl0 nl1,eC]
 ·rintro δ s ⟨v5,v6,v7,v8,v9,rfl,hT,hL,ks⟩
  rw [Xab] at hL
  refine zai ?_
  refine Yaa ?_
  intro qhQ hQ
  set_option simprocs false in simp only [wpB]
  refine ZaN ((lo (Mth.app N) (CTP xs ys sm n n) n).map D.int) (fun d=>.bl (decide (inD d=0))) ?_ (by rw [List.length_map,XaS];omega) ?_ ?_
  ·refine Yaa ?_
   intro qhQ2 hQ2
   set_option simprocs false in simp only [wpB]
   exact ⟨_,Zad hL,hQ2 _ _ ⟨zbS (Zad hL),Ex.refl⟩⟩
  ·intro d hd s5 k5
   obtain ⟨x,hx,rfl⟩:=ZaR hd
   refine Yaa ?_
   intro qhQ2 hQ2
   set_option simprocs false in simp only [wpB,List.map_cons,List.map_nil,List.getD_cons_succ,List.getD_cons_zero]
   exact hQ2 _ _ ⟨rfl,Ex.refl⟩
  ·intro s5 k5
   have e1:mapO bV (((lo (Mth.app N) (CTP xs ys sm n n) n).map D.int).map fun d=>D.bl (decide (inD d=0)))=some ((lo (Mth.app N) (CTP xs ys sm n n) n).map fun x=>decide (x=0)):=by
    rw [List.map_map]
    exact XaM (f:=bV) (g:=fun x=>D.bl (decide (x=0))) (k:=fun x=>decide (x=0)) (fun _=>rfl) _
   have e2:((lo (Mth.app N) (CTP xs ys sm n n) n).map fun x=>decide (x=0)).all id=(lo (Mth.app N) (CTP xs ys sm n n) n).all fun x=>decide (x=0):=by rw [List.all_map];rfl
   set_option simprocs false in simp only [wpB,zaq,e1,e2]
   exact hQ _ _ ⟨N,rs,hNl,hr,hN,rfl,(ks.trans k5).app _⟩
noncomputable def ctL (xs ys sm:List Int) (n:Nat) (s:Int):List (Int×Int):=[(bgS xs ys s,-(Mth.app sm s)),(nbr xs ys s 3,Mth.app sm s),(bgS xs ys s,-(Mth.app sm ((n:Int) + s))),(nbr xs ys s 2,Mth.app sm ((n:Int) + s))]
noncomputable def CTL (xs ys sm:List Int) (n:Nat):Nat→List (Int×Int)
 | 0=>[]
 | k + 1=>CTL xs ys sm n k ++ ctL xs ys sm n (k:Int)
theorem XbL (f:Int→Int) (xs ys sm:List Int) (n:Nat) (c:Int):∀ k,tot f (CTP xs ys sm n k) c=tot f (CTL xs ys sm n k) c
 | 0=>rfl
 | k + 1=>by
  show tot f (CTP xs ys sm n k ++ ctP xs ys sm n k) c=tot f (CTL xs ys sm n k ++ ctL xs ys sm n k) c
  rw [Ybb,Ybb,XbL f xs ys sm n c k]
  congr 1
  unfold tot ctP ctL
  simp only [List.map_cons,List.map_nil,List.sum_cons,List.sum_nil]
  omega
structure DsIs (g:Int→Int) (C:List (Int×Int)) (kvs:List (Key×D)):Prop where
 at':∀ p∈kvs,∃ m:Int,p.1=.inl m∧p.2=.int (tot g C m)
 no:∀ m:Int,valD kvs (.inl m)=none→tot g C m=0
theorem Xbb {kvs:List (Key×D)} {k:Key} {d:D} (h:valD kvs k=some d):(k,d)∈kvs:=by
 unfold valD at h
 obtain ⟨p,h1,h2⟩:=Option.map_eq_some_iff.mp h
 have h3:=List.find?_some h1
 have h4:p.1=k:=of_decide_eq_true h3
 have:=List.mem_of_find?_eq_some h1
 rw [← h2,← h4];exact this
theorem DsIs.get {g:Int→Int} {C:List (Int×Int)} {kvs:List (Key×D)} (h:DsIs g C kvs) (m:Int):(valD kvs (.inl m)).getD (.int 0)=.int (tot g C m):=by
 cases e:valD kvs (.inl m) with
 | none=>rw [h.no m e];rfl
 | some d =>
  obtain ⟨m',h1,h2⟩:=h.at' _ (Xbb e)
  cases h1
  exact h2
theorem Xa1 (g:Int→Int) (C:List (Int×Int)) (q v m:Int):tot g (C ++ [(q,v)]) m=tot g C m + if g q=m then v else 0:=by
 rw [Ybb];unfold tot;simp
theorem DsIs.put {g:Int→Int} {C:List (Int×Int)} {kvs:List (Key×D)} (h:DsIs g C kvs) (q v:Int):DsIs g (C ++ [(q,v)]) (putD kvs (.inl (g q)) (.int (tot g C (g q) + v))):=by
 refine ⟨fun p hp=>?_,fun m hm=>?_⟩
 ·unfold putD at hp
  split at hp
  ·obtain ⟨p0,h1,rfl⟩:=List.mem_map.mp hp
   obtain ⟨m,e1,e2⟩:=h.at' p0 h1
   by_cases e:p0.1=.inl (g q)
   ·rw [if_pos e]
    exact ⟨g q,e,by rw [Xa1,if_pos rfl]⟩
   ·rw [if_neg e]
    refine ⟨m,e1,?_⟩
    rw [Xa1,if_neg (fun z=>e (by rw [e1,z])),Int.add_zero];exact e2
  ·next hn =>
   rcases List.mem_append.mp hp with h1 | h1
   ·obtain ⟨m,e1,e2⟩:=h.at' p h1
    refine ⟨m,e1,?_⟩
    have ne:g q≠m:=fun z=>hn (List.any_eq_true.mpr ⟨p,h1,by rw [e1,z];exact decide_eq_true rfl⟩)
    rw [Xa1,if_neg ne,Int.add_zero];exact e2
   ·rw [List.mem_singleton.mp h1]
    exact ⟨g q,rfl,by rw [Xa1,if_pos rfl]⟩
 ·rw [ybp] at hm
  split at hm
  ·cases hm
  ·next ne =>
   rw [Xa1,if_neg (fun z=>ne (by rw [z])),Int.add_zero]
   exact h.no m hm
theorem zbM {δ:DSt} {st st1:Store} {S:Src} {fi:DSt→Dm Src} {js:List Nat} {c:DSt→Dm Bool} {f:DSt→Dm D} {Q:D→Store→Prop} (ds:List D) (q:D→Bool) (h:D→D) (e1:fi δ st=some (S,st1)) (hS:SrcOk S ds st1) (hl:ds.length < 100000)
  (cond:∀ d∈ds,∀ st2,Ex [] st1 st2→Wp (c (some d :: js.map fun j=>δ.getD j none) st2) fun b st3=>b=q d∧Ex [] st2 st3)
  (step:∀ d∈ds,q d=true→∀ st2,Ex [] st1 st2→Wp (f (some d :: js.map fun j=>δ.getD j none) st2) fun y st3=>y=h d∧Ex [] st2 st3) (fin:∀ st',Ex [] st1 st'→Q (.ref st'.length) (st' ++ [.lst ((ds.filter q).map h)])):Wp (fComp fi 1 js (hName 0) c f δ st) Q:=by
 refine Xa0 ds (fun i ys δ' st8=>(∃ v,δ'=v :: js.map fun j=>δ.getD j none)∧ys=((ds.take i).filter q).map h∧Ex [] st1 st8) ⟨S,st1,e1,fun i ys δ' st8 hi' hp=>hS i st8 hi' hp.2.2,⟨none,rfl⟩,rfl,Ex.refl⟩ hl ?_ ?_ ?_
 ·rintro i ys δ' st8 ⟨_,rfl,_⟩
  rw [List.length_map]
  refine Nat.le_trans (List.length_filter_le _ _) ?_
  rw [List.length_take];omega
 ·rintro i d ys δ' st8 hd ⟨⟨v,rfl⟩,rfl,k8⟩
  obtain ⟨hlt,e⟩:=List.getElem?_eq_some_iff.mp hd
  have hm:=List.mem_of_getElem? hd
  rw [zaN]
  refine xab (cond d hm st8 k8) ?_
  rintro b st9 ⟨rfl,k9⟩
  refine ⟨fun hq=>xab (step d hm hq st9 (k8.trans k9)) ?_,fun hq=>⟨⟨some d,rfl⟩,?_,k8.trans k9⟩⟩
  ·rintro y st10 ⟨rfl,k10⟩
   refine ⟨⟨some d,rfl⟩,?_,(k8.trans k9).trans k10⟩
   rw [List.take_succ_eq_append_getElem hlt,List.filter_append,List.map_append,e,List.filter_cons_of_pos hq];rfl
  ·rw [List.take_succ_eq_append_getElem hlt,List.filter_append,List.map_append,e,List.filter_cons_of_neg (by rw [hq];decide)]
   simp
 ·rintro ys δ' st8 ⟨_,rfl,k8⟩
  rw [List.take_length]
  exact fin st8 k8
theorem zca:chD (Str.ofString "dl")=[3,2].map fun j=>D.str (stepS j):=rfl
theorem za3 {st:Store} {xs ys sm:List Int} {n:Nat} (tx:Mth.Tn n xs) (ty:Mth.Tn n ys) (hn:n≤100) (hm:sm.length=2 * n):Wp (Zao [flD xs ys,.tup (sm.map D.int)] st) fun d st'=>∃ b:Bool,d=.bl b∧(b=true↔∀ m,tot (fun x=>mnI (Mth.rnd xs ys) x n) (CTL xs ys sm n n) m=0)∧Ex [] st st':=by
 have hlx:=tx.length
 have tr:=tx.rnd ty
 refine Xax ?_
 show Ws (Yau [some (flD xs ys),some (.tup (sm.map D.int)),none,none,none,none,none,none,none] st) _ _ _ _
 unfold Yau
 refine Xac (zaf ?_)
 refine Yaa ?_
 intro qhQ hQ
 set_option simprocs false in simp only [wpB,zaG]
 rw [List.length_map,hlx]
 refine hQ _ _ (Xac (zaf ?_))
 clear hQ
 refine Yaa ?_
 intro qhQ hQ
 set_option simprocs false in simp only [wpB]
 have hD0:(st ++ [O.dct []])[st.length]?=some (O.dct []):=Xag
 have kD:Ex [] st (st ++ [O.dct []]):=Ex.app0 _
 refine hQ _ _ ?_
 clear hQ
 generalize hgg:(fun x=>mnI (Mth.rnd xs ys) x n)=g
 have hg:∀ x,mnI (Mth.rnd xs ys) x n=g x:=fun x=>by rw [← hgg]
 generalize (st ++ [O.dct []])=s1 at hD0 kD ⊢
 refine Xac (YaB (rangeD 0 n) (fun k δ s=>∃ (v4 v5 v6 v7 v8:Option D) (kvs:List (Key×D)),δ=[some (flD xs ys),some (.tup (sm.map D.int)),some (.int (n:Int)),some (.ref st.length),v4,v5,v6,v7,v8]∧s[st.length]?=some (.dct kvs)∧DsIs g (CTL xs ys sm n k) kvs∧kvs.length≤4 * k∧Ex [] st s) ?_ (by rw [Xab];omega) ?_ ?_)
 ·refine Yaa ?_
  intro qhQ hQ
  set_option simprocs false in simp only [wpB]
  exact ⟨by omega,hQ _ _ ⟨by rw [Int.toNat_natCast],_,_,_,_,_,[],rfl,hD0,⟨fun p hp=>(nomatch hp),fun m _=>rfl⟩,Nat.le_refl _,kD⟩⟩
 ·rintro k d δ s hd ⟨v4,v5,v6,v7,v8,kvs,rfl,hD,ds,hkl,ks⟩
  have hk:=zac hd
  rw [Xab] at hk
  rw [xax hk,Int.zero_add] at hd
  cases hd
  have k0:(0:Int)≤(k:Int):=by omega
  have k1:(k:Int) < (n:Int):=by omega
  obtain ⟨d0,d1⟩:=yax tx ty k0 k1 3
  obtain ⟨l0,l1⟩:=yax tx ty k0 k1 2
  obtain ⟨b0,b1⟩:=yax tx ty d0 d1 2
  have aS:=Zak (xs:=sm) (i:=(k:Int)) k0 (by omega)
  have aS2:=Zak (xs:=sm) (i:=(n:Int) + (k:Int)) (by omega) (by omega)
  refine Yaa ?_
  intro qhQ hQ
  set_option simprocs false in simp only [wpB]
  refine hQ _ _ (Xac (zaf ?_))
  clear hQ
  refine Yaa ?_
  intro qhQ hQ
  set_option simprocs false in simp only [wpB]
  refine xab (XaE (j:=3) tx ty k0 k1 (by decide)) ?_
  rintro d s2 ⟨rfl,k2⟩
  refine xab (XaE (j:=2) tx ty d0 d1 (by decide)) ?_
  rintro d s3 ⟨rfl,k3⟩
  refine xab (XaP tx ty hn b0 b1) ?_
  rintro d s4 ⟨rfl,k4⟩
  have eb:nbr xs ys (nbr xs ys k 3) 2=bgS xs ys k:=rfl
  rw [hg,eb]
  have kk4:Ex [] s s4:=(k2.trans k3).trans k4
  refine hQ _ _ (Xac (zaf ?_))
  clear hQ
  refine Yaa ?_
  intro _ hQ
  refine ZaN (chD (Str.ofString "dl")) (fun d=>match d with | .str x=>if x=stepS 3 then .int (g (nbr xs ys k 3)) else .int (g (nbr xs ys k 2)) | _=>.non) ?_ (by decide) ?_ ?_
  ·refine Yaa ?_
   intro qhQ2 hQ2
   set_option simprocs false in simp only [wpB,YbI]
   exact ⟨by decide,hQ2 _ _ ⟨ZaP _ _,Ex.refl⟩⟩
  ·intro d hd s5 k5
   rw [zca] at hd
   obtain ⟨j,hj,rfl⟩:=List.mem_map.mp hd
   have hj':j=3∨j=2:=by simpa using hj
   refine Yaa ?_
   intro qhQ2 hQ2
   set_option simprocs false in simp only [wpB,List.map_cons,List.map_nil,List.getD_cons_succ,List.getD_cons_zero]
   rcases hj' with rfl | rfl
   ·refine xab (XaE (j:=3) tx ty k0 k1 (by decide)) ?_
    rintro d s6 ⟨rfl,k6⟩
    refine xab (XaP tx ty hn d0 d1) ?_
    rintro d s7 ⟨rfl,k7⟩
    refine hQ2 _ _ ⟨?_,k6.trans k7⟩
    rw [hg];rfl
   ·refine xab (XaE (j:=2) tx ty k0 k1 (by decide)) ?_
    rintro d s6 ⟨rfl,k6⟩
    refine xab (XaP tx ty hn l0 l1) ?_
    rintro d s7 ⟨rfl,k7⟩
    refine hQ2 _ _ ⟨?_,k6.trans k7⟩
    rw [hg];rfl
  ·intro s5 k5
   have eM:(chD (Str.ofString "dl")).map (fun d=>match d with | .str x=>if x=stepS 3 then D.int (g (nbr xs ys k 3)) else .int (g (nbr xs ys k 2)) | _=>.non)=[D.int (g (nbr xs ys k 3)),.int (g (nbr xs ys k 2))]:=rfl
   rw [eM]
   have hE:items (s5 ++ [O.lst [D.int (g (nbr xs ys k 3)),.int (g (nbr xs ys k 2))]]) s5.length=some [D.int (g (nbr xs ys k 3)),.int (g (nbr xs ys k 2))]:=zaq
   have hD5:(s5 ++ [O.lst [D.int (g (nbr xs ys k 3)),.int (g (nbr xs ys k 2))]])[st.length]?=some (.dct kvs):=xak ((kk4.trans k5).keep _ _ hD (by simp))
   have kk5:Ex [] st (s5 ++ [O.lst [D.int (g (nbr xs ys k 3)),.int (g (nbr xs ys k 2))]]):=((ks.trans kk4).trans k5).app _
   have hlt:st.length < s5.length:=Nat.lt_of_lt_of_le (zac hD) (kk4.trans k5).len
   refine hQ _ _ ?_
   clear hQ
   generalize (s5 ++ [O.lst [D.int (g (nbr xs ys k 3)),.int (g (nbr xs ys k 2))]])=s6 at hE hD5 kk5 ⊢
   generalize s5.length=re at hE hlt ⊢
   generalize hva:Mth.app sm (k:Int)=va at aS
   generalize hvb:Mth.app sm ((n:Int) + (k:Int))=vb at aS2
   have ePr:∀ j:Nat,j < 2→∃ v q:Int,(zipD [D.int va,.int vb] [D.int (g (nbr xs ys k 3)),.int (g (nbr xs ys k 2))])[j]?=some (D.tup [.int v,.int (g q)])∧(ctL xs ys sm n k).take (2 * (j + 1))=(ctL xs ys sm n k).take (2 * j) ++ [(bgS xs ys k,-v)] ++ [(q,v)]:=fun j hj=>by
    unfold ctL
    rw [hva,hvb]
    match j,hj with
    | 0,_=>exact ⟨va,nbr xs ys k 3,rfl,rfl⟩
    | 1,_=>exact ⟨vb,nbr xs ys k 2,rfl,rfl⟩
   refine xbJ (zipD [D.int va,.int vb] [D.int (g (nbr xs ys k 3)),.int (g (nbr xs ys k 2))]) (fun j δ s=>∃ (v7 v8:Option D) (kvs:List (Key×D)),δ=[some (flD xs ys),some (.tup (sm.map D.int)),some (.int (n:Int)),some (.ref st.length),some (.int (k:Int)),some (.int (g (bgS xs ys k))),some (.ref re),v7,v8]∧items s re=some [D.int (g (nbr xs ys k 3)),.int (g (nbr xs ys k 2))]∧s[st.length]?=some (.dct kvs)∧DsIs g (CTL xs ys sm n k ++ (ctL xs ys sm n k).take (2 * j)) kvs∧kvs.length≤4 * k + 2 * j∧Ex [] st s) ?_ (by show 2 < 100000;decide) ?_ ?_
   ·refine Yaa ?_
    intro qhQ hQ
    set_option simprocs false in simp only [wpB,zbT,aS,aS2]
    refine ⟨rfl,_,_,⟨rfl,rfl⟩,_,rfl,_,hE,hQ _ _ ⟨fun i δ' s' hi hp=>?_,_,_,kvs,rfl,hE,hD5,by simpa using ds,by omega,kk5⟩⟩
    obtain ⟨_,_,_,_,hE',_⟩:=hp
    exact src_zr hE' i s' hi Ex.refl
   ·rintro j d δ s hd ⟨v7,v8,kvs,rfl,hE,hD,ds,hkl,ks⟩
    have hj2:j < 2:=zac hd
    obtain ⟨v,q,e1,e2⟩:=ePr j hj2
    rw [e1] at hd
    cases hd
    refine Yaa ?_
    intro qhQ hQ
    set_option simprocs false in simp only [wpB]
    refine ⟨rfl,hQ _ _ (Xac (zbk ?_))⟩
    clear hQ
    set_option simprocs false in simp only [wpB]
    refine Xbp ?_
    set_option simprocs false in simp only [wpB]
    refine ⟨⟨kvs,zau hD⟩,kvs,zau hD,_,rfl,?_⟩
    rw [ds.get]
    set_option simprocs false in simp only [wpB]
    have ds1:=ds.put (bgS xs ys k) (-v)
    refine ⟨kvs,zau hD,_,rfl,zan (by omega),zbk ?_⟩
    rw [Int.sub_eq_add_neg]
    have hD1:(s.set st.length (.dct (putD kvs (.inl (g (bgS xs ys k))) (.int (tot g (CTL xs ys sm n k ++ (ctL xs ys sm n k).take (2 * j)) (g (bgS xs ys k)) + -v)))))[st.length]?=some (.dct (putD kvs (.inl (g (bgS xs ys k))) (.int (tot g (CTL xs ys sm n k ++ (ctL xs ys sm n k).take (2 * j)) (g (bgS xs ys k)) + -v)))):=List.getElem?_set_self (zac hD)
    have hE1:items (s.set st.length (.dct (putD kvs (.inl (g (bgS xs ys k))) (.int (tot g (CTL xs ys sm n k ++ (ctL xs ys sm n k).take (2 * j)) (g (bgS xs ys k)) + -v))))) re=some [D.int (g (nbr xs ys k 3)),.int (g (nbr xs ys k 2))]:=by
     unfold items at hE ⊢
     rw [List.getElem?_set_ne (by omega)];exact hE
    have kk1:Ex [] st (s.set st.length (.dct (putD kvs (.inl (g (bgS xs ys k))) (.int (tot g (CTL xs ys sm n k ++ (ctL xs ys sm n k).take (2 * j)) (g (bgS xs ys k)) + -v))))):=ks.loc (Nat.le_refl _)
    have hl1:=YaP kvs (.inl (g (bgS xs ys k))) (.int (tot g (CTL xs ys sm n k ++ (ctL xs ys sm n k).take (2 * j)) (g (bgS xs ys k)) + -v))
    generalize putD kvs (.inl (g (bgS xs ys k))) (.int (tot g (CTL xs ys sm n k ++ (ctL xs ys sm n k).take (2 * j)) (g (bgS xs ys k)) + -v))=kv1 at hD1 hE1 kk1 hl1 ds1 ⊢
    generalize (s.set st.length (.dct kv1))=t1 at hD1 hE1 kk1 ⊢
    set_option simprocs false in simp only [wpB]
    refine Xbp ?_
    set_option simprocs false in simp only [wpB]
    refine ⟨⟨kv1,zau hD1⟩,kv1,zau hD1,_,rfl,?_⟩
    rw [ds1.get]
    set_option simprocs false in simp only [wpB]
    have ds2:=ds1.put q v
    have hl2:=YaP kv1 (.inl (g q)) (.int (tot g (CTL xs ys sm n k ++ (ctL xs ys sm n k).take (2 * j) ++ [(bgS xs ys k,-v)]) (g q) + v))
    refine ⟨kv1,zau hD1,_,rfl,zan (by omega),_,_,⟨rfl,rfl⟩,?_,putD kv1 (.inl (g q)) (.int (tot g (CTL xs ys sm n k ++ (ctL xs ys sm n k).take (2 * j) ++ [(bgS xs ys k,-v)]) (g q) + v)),List.getElem?_set_self (zac hD1),?_,?_,kk1.loc (Nat.le_refl _)⟩
    ·unfold items at hE1 ⊢
     rw [List.getElem?_set_ne (by omega)];exact hE1
    ·rw [e2,← List.append_assoc,← List.append_assoc];exact ds2
    ·omega
   ·rintro δ s ⟨v7,v8,kvs,rfl,hE,hD,ds,hkl,ks⟩
    have e4:(zipD [D.int va,.int vb] [D.int (g (nbr xs ys k 3)),.int (g (nbr xs ys k 2))]).length=2:=rfl
    rw [e4] at ds hkl
    exact ⟨_,_,_,_,_,kvs,rfl,hD,ds,by omega,ks⟩
 ·rintro δ s ⟨v4,v5,v6,v7,v8,kvs,rfl,hD,ds,hkl,ks⟩
  rw [Xab] at ds hkl
  refine zai ?_
  refine Yaa ?_
  intro qhQ hQ
  set_option simprocs false in simp only [wpB]
  obtain ⟨L,eL⟩:∃ L:List Int,kvs.map (·.2)=L.map D.int:=by
   refine ⟨kvs.map fun p=>inD p.2,?_⟩
   rw [List.map_map]
   refine List.map_congr_left fun p hp=>?_
   obtain ⟨m,_,e⟩:=ds.at' p hp
   show p.2=D.int (inD p.2)
   rw [e];rfl
  have hLl:L.length≤400:=by
   have:=congrArg List.length eL
   rw [List.length_map,List.length_map] at this
   omega
  have e1:iValsF (fVar 3) [some (flD xs ys),some (D.tup (sm.map D.int)),some (D.int (n:Int)),some (D.ref st.length),v4,v5,v6,v7,v8] s=some (.fix (L.map D.int),s.set st.length .any):=by
   have:=(ZbT (fd:=fVar 3) (δ:=[some (flD xs ys),some (D.tup (sm.map D.int)),some (D.int (n:Int)),some (D.ref st.length),v4,v5,v6,v7,v8]) (st:=s) (R:=fun S s'=>S=.fix (L.map D.int)∧s'=s.set st.length .any)).mpr (by
    set_option simprocs false in simp only [wpB]
    exact ⟨kvs,zau hD,by first | rw [eL] | exact eL⟩)
   obtain ⟨S,s',e,rfl,rfl⟩:=this
   exact e
  have kkA:Ex [] st (s.set st.length .any):=ks.loc (Nat.le_refl _)
  refine zbM (L.map D.int) (fun d=>decide (inD d≠0)) (fun d=>d) e1 (ZaP _ _) (by rw [List.length_map];omega) ?_ ?_ ?_
  ·intro d hd s5 k5
   obtain ⟨x,hx,rfl⟩:=ZaR hd
   refine Yaa ?_
   intro qhQ2 hQ2
   set_option simprocs false in simp only [wpB,List.map_cons,List.map_nil,List.getD_cons_succ,List.getD_cons_zero]
   refine hQ2 _ _ ⟨?_,Ex.refl⟩
   show _=decide (x≠0)
   rw [decide_not]
  ·intro d hd hq s5 k5
   obtain ⟨x,hx,rfl⟩:=ZaR hd
   refine Yaa ?_
   intro qhQ2 hQ2
   set_option simprocs false in simp only [wpB,List.map_cons,List.map_nil,List.getD_cons_succ,List.getD_cons_zero]
   exact hQ2 _ _ ⟨rfl,Ex.refl⟩
  ·intro s5 k5
   have eF:((L.map D.int).filter fun d=>decide (inD d≠0)).map (fun d=>d)=(L.filter fun x=>decide (x≠0)).map D.int:=by
    rw [List.map_id',List.filter_map];rfl
   rw [eF]
   refine ⟨rfl,?_⟩
   have hA:items (s5 ++ [O.lst ((L.filter fun x=>decide (x≠0)).map D.int)] ++ [O.lst []]) s5.length=some ((L.filter fun x=>decide (x≠0)).map D.int):=Zad (xak Xag)
   have hE:items (s5 ++ [O.lst ((L.filter fun x=>decide (x≠0)).map D.int)] ++ [O.lst []]) (s5 ++ [O.lst ((L.filter fun x=>decide (x≠0)).map D.int)]).length=some (([]:List Int).map D.int):=zaq
   rw [YbH hA hE,if_neg (by decide)]
   refine hQ _ _ ⟨_,rfl,?_,((kkA.trans k5).app _).app _⟩
   rw [decide_eq_true_eq,List.filter_eq_nil_iff]
   have mL:∀ p∈kvs,∃ x∈L,p.2=D.int x:=fun p hp=>by
    have:p.2∈kvs.map (·.2):=List.mem_map_of_mem hp
    rw [eL] at this
    obtain ⟨x,hx,e⟩:=List.mem_map.mp this
    exact ⟨x,hx,e.symm⟩
   constructor
   ·intro h m
    cases e:valD kvs (.inl m) with
    | none=>exact ds.no m e
    | some d =>
     obtain ⟨x,hx,ex⟩:=mL _ (Xbb e)
     obtain ⟨m',h1,h2⟩:=ds.at' _ (Xbb e)
     cases h1
     have h3:D.int x=D.int (tot g (CTL xs ys sm n n) m):=ex.symm.trans h2
     have hz:=h x hx
     simp at hz
     cases h3
     exact hz
   ·intro h x hx
    have:D.int x∈kvs.map (·.2):=by rw [eL];exact List.mem_map_of_mem hx
    obtain ⟨p,hp,e⟩:=List.mem_map.mp this
    obtain ⟨m,_,h2⟩:=ds.at' p hp
    have h3:D.int x=D.int (tot g (CTL xs ys sm n n) m):=e.symm.trans h2
    cases h3
    simp [h m]
theorem zb0 {xs ys sm:List Int} {n:Nat} (tx:Mth.Tn n xs) (ty:Mth.Tn n ys):∀ k:Nat,k≤n→∀ p∈CTP xs ys sm n k,0≤p.1∧p.1 < (n:Int)
 | 0,_,p,hp=>nomatch hp
 | k + 1,hk,p,hp=>by
  rcases List.mem_append.mp hp with h | h
  ·exact zb0 tx ty k (by omega) p h
  ·obtain ⟨d0,d1⟩:=yax (xs:=xs) (ys:=ys) tx ty (s:=(k:Int)) (by omega) (by omega) 3
   obtain ⟨l0,l1⟩:=yax (xs:=xs) (ys:=ys) tx ty (s:=(k:Int)) (by omega) (by omega) 2
   obtain ⟨b0,b1⟩:=yax tx ty d0 d1 2
   unfold ctP at h
   simp only [List.mem_cons,List.not_mem_nil,or_false] at h
   rcases h with rfl | rfl | rfl | rfl
   ·exact ⟨b0,b1⟩
   ·exact ⟨b0,b1⟩
   ·exact ⟨d0,d1⟩
   ·exact ⟨l0,l1⟩
theorem xbl {xs ys sm N:List Int} {rs:List (List Int)} {n:Nat} {b:Bool} (tx:Mth.Tn n xs) (ty:Mth.Tn n ys) (hNl:N.length=n) (hr:Mth.Rgs (Mth.rnd xs ys) (Mth.upto n) rs) (hN:∀ (i:Nat) (r:List Int),rs[i]?=some r→∀ x∈r,N[x.toNat]?=some (i:Int)) (hb:b=true↔∀ m,tot (fun x=>mnI (Mth.rnd xs ys) x n) (CTL xs ys sm n n) m=0) (hrl:rs.length≤n):((lo (Mth.app N) (CTP xs ys sm n n) n).all fun x=>decide (x=0))=b:=by
 have tr:=tx.rnd ty
 have bN:∀ x:Int,0≤x→x < (n:Int)→0≤Mth.app N x∧Mth.app N x < (n:Int):=fun x x0 x1=>by
  obtain ⟨r,hr1,hxr⟩:=hr.has x0 x1
  obtain ⟨i,hi⟩:=List.getElem?_of_mem hr1
  have h1:=Mth.xaj (xs:=N) (i:=x) x0 (by omega)
  rw [hN i r hi x hxr] at h1
  have:=zac hi
  have:=Option.some.inj h1
  omega
 have sq:=zb0 (sm:=sm) tx ty n (Nat.le_refl _)
 have same:∀ p∈CTP xs ys sm n n,∀ q∈CTP xs ys sm n n,Mth.app N p.1=Mth.app N q.1↔(fun x=>mnI (Mth.rnd xs ys) x n) p.1=(fun x=>mnI (Mth.rnd xs ys) x n) q.1:=fun p hp q hq =>
  Zbl tr hr hN hNl (sq p hp).1 (sq p hp).2 (sq q hq).1 (sq q hq).2
 rw [Bool.eq_iff_iff,hb,List.all_eq_true]
 constructor
 ·intro h
  have z:∀ c,tot (Mth.app N) (CTP xs ys sm n n) c=0:=fun c=>by
   by_cases hc:0≤c∧c < (n:Int)
   ·have hl:c.toNat < (lo (Mth.app N) (CTP xs ys sm n n) n).length:=by rw [XaS];omega
    have:=h _ (List.getElem_mem hl)
    rw [zbw,Int.toNat_of_nonneg hc.1] at this
    exact of_decide_eq_true this
   ·refine xbb fun p hp e=>hc ?_
    have:=bN p.1 (sq p hp).1 (sq p hp).2
    omega
  intro m
  rw [← XbL]
  exact zbr same z m
 ·intro h x hx
  have z:∀ c,tot (fun x=>mnI (Mth.rnd xs ys) x n) (CTP xs ys sm n n) c=0:=fun c=>by rw [XbL];exact h c
  obtain ⟨i,hi,rfl⟩:=List.getElem_of_mem hx
  rw [zbw]
  exact decide_eq_true (zbr (f:=fun x=>mnI (Mth.rnd xs ys) x n) (g:=Mth.app N) (fun p hp q hq=>(same p hp q hq).symm) z _)
theorem yca {n:Nat} {xs ys:List Int} (tx:Mth.Tn n xs) (ty:Mth.Tn n ys) {o:Int} (o0:0≤o) (o1:o < (n:Int)) {k:Int} (k0:0≤k):Mth.app (rimL xs ys n o) k=(if k=(n:Int) + Mth.app xs o then 1 else 0) + (if k=(n:Int) + o then -1 else 0) + (if k=Mth.app ys o then -1 else 0) + (if k=o then 1 else 0):=by
 have b0:=zaI tx ty o0 o1 0
 have b1:=zaI tx ty o0 o1 1
 have b2:=zaI tx ty o0 o1 2
 have b3:=zaI tx ty o0 o1 3
 unfold rimL
 have hz:Mth.app (List.replicate (2 * n) (0:Int)) k=0:=by
  unfold Mth.app
  rw [List.getD_eq_getElem?_getD,List.getElem?_replicate]
  split <;> rfl
 rw [zaK b3.1 (by rw [yap,yap,yap,List.length_replicate];exact b3.2) k0,zaK b1.1 (by rw [yap,yap,List.length_replicate];exact b1.2) k0,zaK b2.1 (by rw [yap,List.length_replicate];exact b2.2) k0,zaK b0.1 (by rw [List.length_replicate];exact b0.2) k0,hz,Int.zero_add]
 rfl
noncomputable def unt (n:Nat) (s:Int):List Int:=(Mth.upto n).map fun k=>if k=s then 1 else 0
theorem ybM (n:Nat) (s:Int):(unt n s).length=n:=by unfold unt;rw [List.length_map,Mth.Zan]
theorem Zca {n:Nat} {s:Int} {i:Nat} (hi:i < n):Mth.app (unt n s) (i:Int)=if (i:Int)=s then 1 else 0:=by
 have h:=Mth.xaj (xs:=unt n s) (i:=(i:Int)) (by omega) (by rw [ybM];omega)
 unfold unt Mth.upto at h
 simp only [Int.toNat_natCast,List.map_map,List.getElem?_map,List.getElem?_range hi,Option.map_some] at h
 have:=Option.some.inj h
 unfold unt Mth.upto
 simp only [List.map_map]
 rw [← this]
 rfl
theorem Yca {xs ys L:List Int} {n:Nat} {s v k:Int} (tx:Mth.Tn n xs) (ty:Mth.Tn n ys) (hl:L.length=2 * n) (s0:0≤s) (s1:s < (n:Int)) (k0:0≤k):Mth.app (rim4 xs ys n L s v) k=Mth.app L k + (if k=s then v else 0) + (if k=(n:Int) + Mth.app xs s then v else 0) + (if k=Mth.app ys s then -v else 0) + (if k=(n:Int) + s then -v else 0):=by
 have a:=tx.app s0 s1
 have b:=ty.app s0 s1
 unfold rim4
 rw [zaK (by omega) (by rw [yap,yap,yap,hl];omega) k0,zaK b.1 (by rw [yap,yap,hl];omega) k0,zaK (by omega) (by rw [yap,hl];omega) k0,zaK s0 (by rw [hl];omega) k0]
 rw [Int.one_mul,Int.neg_one_mul]
theorem rimsU {xs ys:List Int} {n:Nat} {s k:Int} (tx:Mth.Tn n xs) (ty:Mth.Tn n ys) (s0:0≤s) (s1:s < (n:Int)) (k0:0≤k):∀ i:Nat,i≤n→Mth.app (rimsF xs ys n (unt n s) i) k=if s < (i:Int) then (if k=s then 1 else 0) + (if k=(n:Int) + Mth.app xs s then 1 else 0) + (if k=Mth.app ys s then -1 else 0) + (if k=(n:Int) + s then -1 else 0) else 0
 | 0,_=>by
  rw [if_neg (by omega)]
  exact ZbU _ _
 | i + 1,hi=>by
  show Mth.app (rim4 xs ys n (rimsF xs ys n (unt n s) i) (i:Int) (Mth.app (unt n s) (i:Int))) k=_
  rw [Yca tx ty (xaS _ _ _ _ _) (by omega) (by omega) k0,rimsU tx ty s0 s1 k0 i (by omega),Zca (by omega)]
  by_cases e:(i:Int)=s
  ·have h1:¬ s < (i:Int):=by omega
   have h2:s < ((i + 1:Nat):Int):=by omega
   rw [if_pos e,if_neg h1,if_pos h2,e]
   omega
  ·rw [if_neg e]
   by_cases h:s < (i:Int)
   ·have h2:s < ((i + 1:Nat):Int):=by omega
    rw [if_pos h,if_pos h2]
    simp only [Int.neg_zero,ite_self,Int.add_zero]
   ·have h2:¬ s < ((i + 1:Nat):Int):=by omega
    rw [if_neg h,if_neg h2]
    simp only [Int.neg_zero,ite_self,Int.add_zero]
theorem zbV {xs ys:List Int} {n:Nat} {s:Int} (tx:Mth.Tn n xs) (ty:Mth.Tn n ys) (s0:0≤s) (s1:s < (n:Int)):rims xs ys n (unt n s)=rimL xs ys n s:=by
 refine Mth.yb4 (n:=2 * n) (ybq _ _ _ _) (xbq _ _ _ _) fun k k0 k1=>?_
 unfold rims
 rw [rimsU tx ty s0 s1 k0 n (Nat.le_refl _),if_pos s1,yca tx ty s0 s1 k0]
 omega
theorem ZbM {sm:List Int} {m p:Nat} {v:Int} (hm:sm.length=m) (hp:p < m):∃ L:List Int,cutD (sm.map D.int) none (some (p:Int)) ++ [D.int v] ++ cutD (sm.map D.int) (some ((p:Int) + 1)) none=L.map D.int∧L.length=m:=by
 refine ⟨sm.take p ++ [v] ++ sm.drop (p + 1),?_,?_⟩
 ·rw [Za9,show ((p:Int) + 1)=((p + 1:Nat):Int) by omega,XbH,List.map_append,List.map_append,List.map_take,List.map_drop];rfl
 ·rw [List.length_append,List.length_append,List.length_take,List.length_drop,List.length_singleton];omega
noncomputable def AskK (st:Store) (d:D):Prop:=∃ (n:Nat) (xs ys:List Int) (r:Nat) (S:List D),d=.tup [flD xs ys,.ref r]∧2≤r∧IsFl n xs ys∧1≤n∧n≤8∧st[r]?=some (.lst S)∧S.length≤3∧∀ e∈S,∃ sm:List Int,e=.tup (sm.map D.int)∧sm.length=2 * n
theorem AskK.keep {st st':Store} {d:D} (h:AskK st d) (k:Ex [] st st'):AskK st' d:=by
 obtain ⟨n,xs,ys,r,S,h1,hr,h2,h3,h4,h5,h6⟩:=h
 exact ⟨n,xs,ys,r,S,h1,hr,h2,h3,h4,k.keep _ _ h5 (by simp),h6⟩
theorem AskK.set1 {st:Store} {d:D} {o:O} (h:AskK st d):AskK (st.set 1 o) d:=by
 obtain ⟨n,xs,ys,r,S,h1,hr,h2,h3,h4,h5,h6⟩:=h
 exact ⟨n,xs,ys,r,S,h1,hr,h2,h3,h4,by rw [List.getElem?_set_ne (by omega)];exact h5,h6⟩
theorem ybw {st:Store} {f:Nat} (hst:2≤st.length) (hf:FeedIs st f):Wp (Xaz [.ref f] st) fun d st'=>∃ (r:Nat) (a b:D),d=.ref r∧st'[r]?=some (.lst [a,b])∧AskK st' a∧AskK st' b∧FeedIs st' f∧Ex [f] st st':=by
 refine Xax ?_
 show Ws (ZaF [some (.ref f),none,none,none,none,none,none,none] st) _ _ _ _
 unfold ZaF
 refine Xac (xbo ?_)
 refine Yaa ?_
 intro qhQ hQ
 set_option simprocs false in simp only [wpB]
 refine xab (xam (n:=16) hf (by decide) (by decide)) ?_
 rintro d s1 ⟨pl,rfl,pl0,pl1,f1,k1⟩
 refine xab (xam (n:=5) f1 (by decide) (by decide)) ?_
 rintro d s2 ⟨b,rfl,b0,b1,f2,k2⟩
 set_option simprocs false in simp only [wpB]
 refine ⟨rfl,?_⟩
 refine xab (xam (n:=3) (f2.keep (Ex.app0 [O.lst [D.int 1,D.int (0 - 1),D.int (1 + b)]])) (by decide) (by decide)) ?_
 rintro d s3 ⟨c,rfl,c0,c1,f3,k3⟩
 have hi3:s3[s2.length]?=some (.lst [D.int 1,D.int (0 - 1),D.int (1 + b)]):=k3.keep _ _ Xag (by have:=f2.lt;simp;omega)
 obtain ⟨bb,hbb⟩:∃ v:Int,atI [D.int 1,D.int (0 - 1),D.int (1 + b)] c=some (.int v):=by
  obtain ⟨j,rfl⟩:∃ j:Nat,c=(j:Int):=⟨c.toNat,by omega⟩
  have hj:j < 3:=by omega
  match j,hj with
  | 0,_=>exact ⟨_,ZaT (j:=0) rfl⟩
  | 1,_=>exact ⟨_,ZaT (j:=1) rfl⟩
  | 2,_=>exact ⟨_,ZaT (j:=2) rfl⟩
 set_option simprocs false in simp only [wpB,Zad hi3,hbb]
 have e3:Ex [f] st s3:=((k1.trans k2).app _).trans k3
 refine hQ _ _ ⟨_,_,rfl,Xac (zaf ?_)⟩
 clear hQ
 refine Yaa ?_
 intro qhQ hQ
 set_option simprocs false in simp only [wpB]
 refine xab (xam (n:=8) f3 (by decide) (by decide)) ?_
 rintro d s5 ⟨n1,rfl,n10,n11,f5,k5⟩
 set_option simprocs false in simp only [wpB]
 obtain ⟨n,hn1⟩:∃ n:Nat,1 + n1=(n:Int):=⟨(1 + n1).toNat,by omega⟩
 rw [hn1]
 refine xab (Za5 (n:=n) f5 (by omega) (by omega)) ?_
 rintro d s6 ⟨xs,ys,rfl,fl,f6,k6⟩
 have e6:Ex [f] st s6:=(e3.trans k5).trans k6
 have hlx:=fl.1.length
 refine hQ _ _ (Xac (zaf ?_))
 clear hQ
 refine Yaa ?_
 intro qhQ hQ
 set_option simprocs false in simp only [wpB,zaG]
 rw [List.length_map,hlx]
 refine ⟨.inl ⟨by decide,by decide⟩,?_⟩
 refine hQ _ _ (Xac (zaf ?_))
 clear hQ
 refine Yaa ?_
 intro qhQ hQ
 set_option simprocs false in simp only [wpB]
 refine xab (xa1 f6 fl.1 fl.2.1 (by omega) (by omega)) ?_
 rintro d s7 ⟨L,rfl,hL,f7,k7⟩
 have e7:Ex [f] st s7:=e6.trans k7
 refine hQ _ _ (Xac (zaf ?_))
 clear hQ
 refine Yaa ?_
 intro qhQ hQ
 set_option simprocs false in simp only [wpB]
 obtain ⟨p,hp,hp2⟩:∃ p:Nat,pl % (2 * (n:Int))=(p:Int)∧p < 2 * n:=⟨(pl % (2 * (n:Int))).toNat,by have:=Int.emod_nonneg pl (b:=2 * (n:Int)) (by omega);omega,by have:=Int.emod_nonneg pl (b:=2 * (n:Int)) (by omega);have:=Int.emod_lt_of_pos pl (b:=2 * (n:Int)) (by omega);omega⟩
 rw [hp]
 refine ⟨by omega,?_⟩
 refine hQ _ _ (Xac (zaf ?_))
 clear hQ
 refine Yaa ?_
 intro qhQ hQ
 set_option simprocs false in simp only [wpB,Zak (xs:=L) (i:=(p:Int)) (by omega) (by omega)]
 obtain ⟨so,hso,hsl⟩:=ZbM (v:=Mth.app L (p:Int) + bb) hL hp2
 rw [hso]
 have hc1:=zbI (L.map D.int) none (some (p:Int))
 have hc2:=zbI (L.map D.int) (some ((p:Int) + 1)) none
 rw [List.length_map,hL] at hc1 hc2
 refine ⟨rfl,zan (by rw [List.length_singleton];omega),zan (by rw [List.length_append,List.length_singleton];omega),?_⟩
 refine hQ _ _ (Xac (zaf ?_))
 clear hQ
 refine Yaa ?_
 intro qhQ hQ
 set_option simprocs false in simp only [wpB]
 refine za6 (m:=2 * n) f7 (by omega) ?_ ?_ ?_
 ·refine Yaa ?_
  intro qhQ2 hQ2
  set_option simprocs false in simp only [wpB]
  exact ⟨by omega,hQ2 _ _ ⟨by rw [show (2 * (n:Int)).toNat=2 * n by omega],rfl⟩⟩
 ·intro d s fs
  refine Yaa ?_
  intro qhQ2 hQ2
  set_option simprocs false in simp only [wpB,List.map_cons,List.map_nil,List.getD_cons_succ,List.getD_cons_zero]
  refine xab (xam (n:=2001) fs (by decide) (by decide)) ?_
  rintro d s2 ⟨c,rfl,c0,c1,fs2,ks2⟩
  set_option simprocs false in simp only [wpB]
  exact hQ2 _ _ ⟨⟨_,rfl⟩,fs2,ks2⟩
 intro S s hS fs ks
 set_option simprocs false in simp only [wpB,zaq]
 refine ⟨rfl,?_⟩
 have e8:Ex [f] st (s ++ [O.lst (S.map D.int)] ++ [O.lst [D.tup (L.map D.int),D.tup (so.map D.int),D.tup (S.map D.int)]]):=((e7.trans ks).app _).app _
 have f8:FeedIs (s ++ [O.lst (S.map D.int)] ++ [O.lst [D.tup (L.map D.int),D.tup (so.map D.int),D.tup (S.map D.int)]]) f:=(fs.keep (Ex.app0 _)).keep (Ex.app0 _)
 have h8:(s ++ [O.lst (S.map D.int)] ++ [O.lst [D.tup (L.map D.int),D.tup (so.map D.int),D.tup (S.map D.int)]])[(s ++ [O.lst (S.map D.int)]).length]?=some (.lst [D.tup (L.map D.int),D.tup (so.map D.int),D.tup (S.map D.int)]):=Xag
 refine hQ _ _ (zai ?_)
 clear hQ
 generalize (s ++ [O.lst (S.map D.int)] ++ [O.lst [D.tup (L.map D.int),D.tup (so.map D.int),D.tup (S.map D.int)]])=s8 at e8 f8 h8 ⊢
 have hrs:2≤(s ++ [O.lst (S.map D.int)]).length:=by
  have:=(e7.trans ks).len
  rw [List.length_append];omega
 generalize (s ++ [O.lst (S.map D.int)]).length=rs at h8 hrs ⊢
 refine Yaa ?_
 intro qhQ hQ
 set_option simprocs false in simp only [wpB]
 refine ⟨rfl,by omega,?_⟩
 rw [show 2 * (n:Int) / 2=(n:Int) by omega]
 refine xab (Za5 (n:=n) f8 (by omega) (by omega)) ?_
 rintro d s9 ⟨xs',ys',rfl,fl',f9,k9⟩
 have hne:rs≠f:=fun z=>by
  obtain ⟨o,m,e,_⟩:=f8
  rw [z,e] at h8
  cases h8
 have h9:=k9.keep _ _ h8 (by simpa using hne)
 have hall:∀ e∈[D.tup (L.map D.int),D.tup (so.map D.int),D.tup (S.map D.int)],∃ sm:List Int,e=.tup (sm.map D.int)∧sm.length=2 * n:=fun e he=>by
  simp only [List.mem_cons,List.not_mem_nil,or_false] at he
  rcases he with rfl | rfl | rfl
  ·exact ⟨L,rfl,hL⟩
  ·exact ⟨so,rfl,hsl⟩
  ·exact ⟨S,rfl,hS⟩
 refine ⟨rfl,rfl,hQ _ _ ⟨_,_,_,rfl,Xag,⟨n,xs,ys,rs,_,rfl,hrs,fl,by omega,by omega,xak h9,Nat.le_refl _,hall⟩,⟨n,xs',ys',rs,_,rfl,hrs,fl',by omega,by omega,xak h9,Nat.le_refl _,hall⟩,f9.keep (Ex.app0 _),(e8.trans k9).app _⟩⟩
theorem law_true (ns:List Int) (hn:ns.length≤63):Wp (Yb9 [.ref 0] [.fzn (ns.map D.int)]) fun d _=>d=.bl true:=by
 refine Xax ?_
 show Ws (YbT [some (.ref 0),none,none,none,none,none,none,none,none] [.fzn (ns.map D.int)]) _ _ _ _
 unfold YbT
 have hc6:(cutD (ns.map D.int) none (some 6)).length≤6:=by
  have:=Za9 (ns.map D.int) 6
  rw [show ((6:Nat):Int)=6 from rfl] at this
  rw [this,List.length_take];omega
 obtain ⟨m,hm,hm6⟩:∃ m:Nat,(if ((cutD (ns.map D.int) none (some 6)).length:Int) > 2 then ((cutD (ns.map D.int) none (some 6)).length:Int) else 2)=(m:Int)∧m≤6:=by
  by_cases h:((cutD (ns.map D.int) none (some 6)).length:Int) > 2
  ·rw [if_pos h];exact ⟨_,rfl,hc6⟩
  ·rw [if_neg h];exact ⟨2,rfl,by omega⟩
 have hS1:items ([O.fzn (ns.map D.int)] ++ [O.lst []]:Store) 0=some (ns.map D.int):=rfl
 refine Xac (zaf ?_)
 refine Yaa ?_
 intro qhQ hQ
 set_option simprocs false in simp only [wpB]
 refine ⟨rfl,hQ _ _ (Xac (YaB (rangeD 0 m) (fun k δ s=>∃ (v2:Option D) (qs:List D),δ=[some (.ref 0),some (.ref 1),v2,none,none,none,none,none,none]∧s[0]?=some (.fzn (ns.map D.int))∧s[1]?=some (.lst qs)∧qs.length=2 * k∧∀ d∈qs,AskK s d) ?_ (by rw [Xab];omega) ?_ ?_))⟩
 ·clear hQ
  refine Yaa ?_
  intro qhQ hQ
  set_option simprocs false in simp only [wpB,hS1,hm,zaq]
  exact ⟨by omega,hQ _ _ ⟨by rw [Int.toNat_natCast],none,[],rfl,rfl,rfl,rfl,fun d hd=>nomatch hd⟩⟩
 ·rintro k d δ s hd ⟨v2,qs,rfl,h0,h1,hql,hq⟩
  have hk:=zac hd
  rw [Xab] at hk
  rw [xax hk,Int.zero_add] at hd
  cases hd
  clear hQ
  refine Yaa ?_
  intro qhQ hQ
  set_option simprocs false in simp only [wpB]
  refine hQ _ _ (xa8 ?_)
  clear hQ
  refine Yaa ?_
  intro qhQ hQ
  set_option simprocs false in simp only [wpB]
  refine ⟨zaR (by rw [Zad h1];rfl),?_⟩
  refine xab (ZbK (a:=0) (ns:=ns) (k:=k) (XbF h0) (by omega)) ?_
  rintro d st2 ⟨rfl,f2,k2⟩
  refine xab (ybw (by have:=k2.len;have:=zac h1;omega) f2) ?_
  rintro d st3 ⟨r,a,b,rfl,hr,ha,hb,f3,k3⟩
  have kk:Ex [] s st3:=k2.drop k3 (Nat.le_refl _)
  have h13:=kk.keep _ _ h1 (by simp)
  have h03:=kk.keep _ _ h0 (by simp)
  set_option simprocs false in simp only [wpB,zaj h13,zaj hr]
  refine ⟨zan (by simp;omega),hQ _ _ ⟨_,qs ++ [a,b],rfl,?_,List.getElem?_set_self (zac h13),by rw [List.length_append];simp;omega,fun d hd=>?_⟩⟩
  ·rw [List.getElem?_set_ne (by decide)];exact h03
  ·rcases List.mem_append.mp hd with h | h
   ·exact ((hq d h).keep kk).set1
   ·simp only [List.mem_cons,List.not_mem_nil,or_false] at h
    rcases h with rfl | rfl
    ·exact ha.set1
    ·exact hb.set1
 ·rintro δ s ⟨v2,qs,rfl,h0,h1,hql,hq⟩
  rw [Xab] at hql
  clear hQ
  have e1:cutD qs none (some 1)=qs.take 1:=Za9 qs 1
  have h2:(s ++ [O.lst (qs.take 1)])[1]?=some (.lst qs):=xak h1
  have e3:(s ++ [O.lst (qs.take 1)]).length=s.length + 1:=by simp
  refine Xac (Ybj (qs ++ qs.take 1) (s.length + 1) (fun j δ s'=>∃ (v3 v4 v5 v6 v7 v8:Option D),δ=[some (.ref 0),some (.ref 1),v2,v3,v4,v5,v6,v7,v8]∧items s' (s.length + 1)=some (qs ++ qs.take 1)∧∀ d∈qs,AskK s' d) ?_ (by rw [List.length_append,List.length_take];omega) ?_ ?_ ?_)
  ·refine Yaa ?_
   intro qhQ hQ
   set_option simprocs false in simp only [wpB,Zad h1,e1,zaj h2,Xa8]
   exact ⟨zan (by rw [List.length_take];omega),hQ _ _ ⟨by rw [e3],_,_,_,_,_,_,rfl,by rw [← e3];exact zaq,fun d hd=>(hq d hd).keep (((Ex.refl).app _).app _)⟩⟩
  ·rintro j δ s' ⟨_,_,_,_,_,_,_,h,_⟩
   exact h
  ·rintro j d δ s' hd ⟨v3,v4,v5,v6,v7,v8,rfl,hit,hq'⟩
   have hd':d∈qs:=by
    rcases List.mem_append.mp (List.mem_of_getElem? hd) with h | h
    ·exact h
    ·exact List.mem_of_mem_take h
   obtain ⟨n,xs,ys,r,S,rfl,hr2,fl,n1,n8,hS,hSl,hSa⟩:=hq' d hd'
   have hlx:=fl.1.length
   refine Yaa ?_
   intro qhQ hQ
   set_option simprocs false in simp only [wpB]
   refine ⟨rfl,hQ _ _ (Xac (zaf ?_))⟩
   clear hQ
   refine Yaa ?_
   intro qhQ hQ
   set_option simprocs false in simp only [wpB,zaG]
   rw [List.length_map,hlx]
   refine hQ _ _ (Xac (Ybj S r (fun i δ s2=>∃ (v6:Option D),δ=[some (.ref 0),some (.ref 1),v2,some (flD xs ys),some (.ref r),some (.int (n:Int)),v6,v7,v8]∧items s2 r=some S∧Ex [] s' s2) ?_ (by omega) ?_ ?_ ?_))
   ·clear hQ
    refine Yaa ?_
    intro qhQ hQ
    set_option simprocs false in simp only [wpB]
    exact ⟨_,Zad hS,hQ _ _ ⟨rfl,_,rfl,Zad hS,Ex.refl⟩⟩
   ·rintro i δ s2 ⟨_,_,h,_⟩
    exact h
   ·rintro i e δ s2 he ⟨v6,rfl,hit2,k2⟩
    obtain ⟨sm,rfl,hsm⟩:=hSa e (List.mem_of_getElem? he)
    clear hQ
    refine Yaa ?_
    intro qhQ hQ
    set_option simprocs false in simp only [wpB]
    refine hQ _ _ (yaw ?_)
    clear hQ
    refine Yaa ?_
    intro qhQ hQ
    set_option simprocs false in simp only [wpB]
    refine xab (Ybl fl.1 fl.2.1 (by omega) hsm) ?_
    rintro d s3 ⟨N,rs,hNl,hrs,hN,rfl,k3⟩
    refine xab (za3 fl.1 fl.2.1 (by omega) hsm) ?_
    rintro d s4 ⟨b,rfl,hb,k4⟩
    have hrl:rs.length≤n:=by
     obtain ⟨_,_,_,rs2,_,h2,_,h3,_⟩:=zaW (st:=[]) fl.1 fl.2.1 (by omega)
     cases h2.unique hrs
     exact h3
    rw [xbl fl.1 fl.2.1 hNl hrs hN hb hrl]
    refine xab (Xa5 (d:=.bl b) trivial) ?_
    rintro d s5 ⟨rfl,k5⟩
    set_option simprocs false in simp only [wpB]
    refine hQ _ _ ⟨fun h=>absurd h (by decide),fun _=>Yak ⟨_,rfl,yaN hit2 ((k3.trans k4).trans k5),((k2.trans k3).trans k4).trans k5⟩⟩
   ·rintro δ s2 ⟨v6,rfl,hit2,k2⟩
    refine YaB (rangeD 0 n) (fun i δ s3=>∃ (v7 v8:Option D),δ=[some (.ref 0),some (.ref 1),v2,some (flD xs ys),some (.ref r),some (.int (n:Int)),v6,v7,v8]∧Ex [] s' s3) ?_ (by rw [Xab];omega) ?_ ?_
    ·clear hQ
     refine Yaa ?_
     intro qhQ hQ
     set_option simprocs false in simp only [wpB]
     exact ⟨by omega,hQ _ _ ⟨by rw [Int.toNat_natCast],_,_,rfl,k2⟩⟩
    ·rintro i d δ s3 hd ⟨w7,w8,rfl,k3⟩
     have hi:=zac hd
     rw [Xab] at hi
     rw [xax hi,Int.zero_add] at hd
     cases hd
     clear hQ
     refine Yaa ?_
     intro qhQ hQ
     set_option simprocs false in simp only [wpB]
     refine hQ _ _ (Xac (zaf ?_))
     clear hQ
     refine Yaa ?_
     intro _ hQ
     refine ZaN (rangeD 0 n) (fun d=>.int (if inD d=(i:Int) then 1 else 0)) ?_ (by rw [Xab];omega) ?_ ?_
     ·refine Yaa ?_
      intro qhQ2 hQ2
      set_option simprocs false in simp only [wpB]
      exact ⟨by omega,hQ2 _ _ ⟨by rw [Int.toNat_natCast];exact ZaP _ _,Ex.refl⟩⟩
     ·intro d hd s4 k4
      rw [ZaD] at hd
      obtain ⟨x,hx,rfl⟩:=ZaR hd
      refine Yaa ?_
      intro qhQ2 hQ2
      set_option simprocs false in simp only [wpB,List.map_cons,List.map_nil,List.getD_cons_succ,List.getD_cons_zero,Ybo]
      refine hQ2 _ _ ⟨?_,Ex.refl⟩
      show D.int (if decide (x=(i:Int))=true then 1 else 0)=D.int (if x=(i:Int) then 1 else 0)
      simp
     ·intro s4 k4
      have eU:(rangeD 0 n).map (fun d=>D.int (if inD d=(i:Int) then 1 else 0))=(unt n (i:Int)).map D.int:=by
       rw [ZaD,ybI (f:=fun x=>if x=(i:Int) then 1 else 0) fun x hx=>rfl];rfl
      rw [eU]
      have h4:(s4 ++ [O.lst ((unt n (i:Int)).map D.int)])[s4.length]?=some (.lst ((unt n (i:Int)).map D.int)):=Xag
      have kk4:Ex [] s' (s4 ++ [O.lst ((unt n (i:Int)).map D.int)]):=(k3.trans k4).app _
      refine hQ _ _ (yaw ?_)
      clear hQ
      generalize (s4 ++ [O.lst ((unt n (i:Int)).map D.int)])=s5 at h4 kk4 ⊢
      generalize s4.length=ru at h4 ⊢
      refine Yaa ?_
      intro qhQ hQ
      set_option simprocs false in simp only [wpB]
      refine xab (XbU fl.1 fl.2.1 (by omega) (show (0:Int)≤(i:Int) by omega) (by omega)) ?_
      rintro d s6 ⟨rfl,k6⟩
      refine xab (XaV (w:=unt n (i:Int)) fl.1 fl.2.1 (by omega) (ybM n i) (.inr ⟨ru,rfl,k6.keep _ _ h4 (by simp)⟩)) ?_
      rintro d s7 ⟨rfl,k7⟩
      rw [zbV fl.1 fl.2.1 (by omega) (by omega)]
      refine xab (Xa5 (zbU 4 (by rw [xbq];omega))) ?_
      rintro d s8 ⟨rfl,k8⟩
      set_option simprocs false in simp only [wpB]
      refine hQ _ _ ⟨fun h=>absurd h (by decide),fun _=>Yak ⟨_,_,rfl,((kk4.trans k6).trans k7).trans k8⟩⟩
    ·rintro δ s3 ⟨w7,w8,rfl,k3⟩
     exact ⟨_,_,_,_,_,_,rfl,yaN hit k3,fun d hd=>(hq' d hd).keep k3⟩
  ·rintro δ s' ⟨v3,v4,v5,v6,v7,v8,rfl,hit,hq'⟩
   refine zai ?_
   refine Yaa ?_
   intro qhQ hQ
   set_option simprocs false in simp only [wpB]
   exact hQ _ _ rfl
theorem all_ok {P:Program} {w:World} {K:PySem.W.Frag} {mg:Str→Option Value} {base:Heap} (T:Txt mg) (CSIGNS:ConD K mg "SIGNS" [("r",.int 1),("l",.int (-1)),("u",.int (-1)),("d",.int 1)]) {f_law_take:Addr} {d_law_take:FuncData} (D_law_take:Def K mg "_law_take" yaq ["_law_feed_here","_law_many"] f_law_take d_law_take) {f_law_turning:Addr} {d_law_turning:FuncData} (D_law_turning:Def K mg "_law_turning" yat ["_law_feed_here","_law_n"] f_law_turning d_law_turning) {f_law_met:Addr} {d_law_met:FuncData} (D_law_met:Def K mg "_law_met" zaH ["_law_floor_here"] f_law_met d_law_met) {f_law_floor:Addr} {d_law_floor:FuncData} (D_law_floor:Def K mg "_law_floor" Zaz ["_law_feed_here","_law_n"] f_law_floor d_law_floor) {f_law_rims:Addr} {d_law_rims:FuncData} (D_law_rims:Def K mg "_law_rims" zay ["_law_floor_here","_law_weights"] f_law_rims d_law_rims) {f_law_sum:Addr} {d_law_sum:FuncData} (D_law_sum:Def K mg "_law_sum" ZaH ["_law_one","_law_other","_law_weight"] f_law_sum d_law_sum) {f_law_along:Addr} {d_law_along:FuncData} (D_law_along:Def K mg "_law_along" xaz ["_law_floor_here","_law_s","_law_way"] f_law_along d_law_along) {f_law_closed_seam:Addr} {d_law_closed_seam:FuncData} (D_law_closed_seam:Def K mg "_law_closed_seam" Yal ["_law_feed_here","_law_floor_here"] f_law_closed_seam d_law_closed_seam) {f_law_drawn:Addr} {d_law_drawn:FuncData} (D_law_drawn:Def K mg "_law_drawn" zaA ["_law_feed_here"] f_law_drawn d_law_drawn) {f_law_feed:Addr} {d_law_feed:FuncData} (D_law_feed:Def K mg "_law_feed" zaE ["_law_script","_law_k"] f_law_feed d_law_feed) {f_law_alike:Addr} {d_law_alike:FuncData} (D_law_alike:Def K mg "_law_alike" Zav ["_law_found","_law_due"] f_law_alike d_law_alike) {fturned_back:Addr} {dturned_back:FuncData} (Dturned_back:Def K mg "turned_back" zas ["turning"] fturned_back dturned_back) {fstep_turnings:Addr} {dstep_turnings:FuncData} (Dstep_turnings:Def K mg "step_turnings" yar ["floor"] fstep_turnings dstep_turnings) {fring_from:Addr} {dring_from:FuncData} (Dring_from:Def K mg "ring_from" ZaE ["turning","first"] fring_from dring_from) {frings_of:Addr} {drings_of:FuncData} (Drings_of:Def K mg "rings_of" xaH ["turning"] frings_of drings_of) {ffollowed:Addr} {dfollowed:FuncData} (Dfollowed:Def K mg "followed" XaH ["one","other"] ffollowed dfollowed) {fround_corners:Addr} {dround_corners:FuncData} (Dround_corners:Def K mg "round_corners" Yar ["floor"] fround_corners dround_corners) {fcorners_of:Addr} {dcorners_of:FuncData} (Dcorners_of:Def K mg "corners_of" ZaA ["floor"] fcorners_of dcorners_of) {fcorner_numbers:Addr} {dcorner_numbers:FuncData} (Dcorner_numbers:Def K mg "corner_numbers" yao ["floor"] fcorner_numbers dcorner_numbers) {fis_closed:Addr} {dis_closed:FuncData} (Dis_closed:Def K mg "is_closed" xaE ["floor","seam"] fis_closed dis_closed) {f_law_beside:Addr} {d_law_beside:FuncData} (D_law_beside:Def K mg "_law_beside" Zas ["_law_floor_here","_law_s","_law_step"] f_law_beside d_law_beside) {f_law_corner:Addr} {d_law_corner:FuncData} (D_law_corner:Def K mg "_law_corner" zax ["_law_floor_here","_law_s"] f_law_corner d_law_corner) {f_law_is_closed:Addr} {d_law_is_closed:FuncData} (D_law_is_closed:Def K mg "_law_is_closed" Yao ["_law_floor_here","_law_seam"] f_law_is_closed d_law_is_closed) {fside_crossed:Addr} {dside_crossed:FuncData} (Dside_crossed:Def K mg "side_crossed" Yat ["floor","s","step"] fside_crossed dside_crossed) {frim_of:Addr} {drim_of:FuncData} (Drim_of:Def K mg "rim_of" XaR ["floor","s"] frim_of drim_of) {flaw:Addr} {dlaw:FuncData} (Dlaw:Def K mg "law" xbT ["_law_script"] flaw dlaw):FnOk P w K mg base CX0 8 flaw dlaw ["_law_script"] (spF K 1 Yb9):=by
 have G_law_take:=Zbf (P:=P) (w:=w) (base:=base) D_law_take T
 have G_law_turning:=ya1 (P:=P) (w:=w) (base:=base) D_law_turning T  D_law_take G_law_take
 have G_law_met:=Zbk (P:=P) (w:=w) (base:=base) D_law_met T
 have G_law_floor:=zba (P:=P) (w:=w) (base:=base) D_law_floor T  D_law_take G_law_take D_law_turning G_law_turning D_law_met G_law_met
 have G_law_rims:=Ybf (P:=P) (w:=w) (base:=base) D_law_rims T
 have G_law_sum:=xbk (P:=P) (w:=w) (base:=base) D_law_sum T
 have G_law_along:=yba (P:=P) (w:=w) (base:=base) D_law_along T
 have G_law_closed_seam:=xaP (P:=P) (w:=w) (base:=base) D_law_closed_seam T  D_law_rims G_law_rims D_law_take G_law_take D_law_sum G_law_sum D_law_along G_law_along
 have G_law_drawn:=Zba (P:=P) (w:=w) (base:=base) D_law_drawn T  D_law_floor G_law_floor D_law_closed_seam G_law_closed_seam D_law_take G_law_take
 have G_law_feed:=xbf (P:=P) (w:=w) (base:=base) D_law_feed T
 have G_law_alike:=xba (P:=P) (w:=w) (base:=base) D_law_alike T
 have Gturned_back:=Ya2 (P:=P) (w:=w) (base:=base) Dturned_back T
 have Gstep_turnings:=xaW (P:=P) (w:=w) (base:=base) Dstep_turnings T  Dturned_back Gturned_back
 have Gring_from:=Xbf (P:=P) (w:=w) (base:=base) Dring_from T
 have Grings_of:=Xbk (P:=P) (w:=w) (base:=base) Drings_of T  Dring_from Gring_from
 have Gfollowed:=ybl (P:=P) (w:=w) (base:=base) Dfollowed T
 have Ground_corners:=XaW (P:=P) (w:=w) (base:=base) Dround_corners T  Dfollowed Gfollowed Dturned_back Gturned_back
 have Gcorners_of:=zbb (P:=P) (w:=w) (base:=base) Dcorners_of T  Drings_of Grings_of Dround_corners Ground_corners
 have Gcorner_numbers:=ZaU (P:=P) (w:=w) (base:=base) Dcorner_numbers T  Dcorners_of Gcorners_of
 have Gis_closed:=zbg (P:=P) (w:=w) (base:=base) Dis_closed T  Dstep_turnings Gstep_turnings Dcorner_numbers Gcorner_numbers
 have G_law_beside:=xa2 (P:=P) (w:=w) (base:=base) D_law_beside T
 have G_law_corner:=Xa2 (P:=P) (w:=w) (base:=base) D_law_corner T  D_law_beside G_law_beside
 have G_law_is_closed:=YaU (P:=P) (w:=w) (base:=base) D_law_is_closed T  D_law_corner G_law_corner D_law_beside G_law_beside
 have Gside_crossed:=Ya1 (P:=P) (w:=w) (base:=base) Dside_crossed T
 have Grim_of:=ybK (P:=P) (w:=w) (base:=base) Drim_of T CSIGNS Dside_crossed Gside_crossed
 have Glaw:=ok_law (P:=P) (w:=w) (base:=base) Dlaw T  D_law_drawn G_law_drawn D_law_feed G_law_feed D_law_alike G_law_alike Dis_closed Gis_closed D_law_is_closed G_law_is_closed Drim_of Grim_of D_law_rims G_law_rims
 exact Glaw
end My
open PySem PySem.W PyProof.Rows L2
set_option maxRecDepth 100000 in
set_option maxHeartbeats 0 in
theorem PySem.Challenge.cw_shearfloor_k43_rims_and_closed_seams_holds : PySem.Challenge.rw_shearfloor_k43_rims_and_closed_seams.Holds := by
 w_on;o_law;k_head;(case hw=>w_witness2)
 k_fill
 refine L2.YbN (l:=PySem.Challenge.rw_shearfloor_k43_rims_and_closed_seams) (n:=63) (k:=8) (x:="_law_script") (CX:=CX0) (sp:=L4.spLaw) rfl (by decide) rfl ⟨rfl,by decide,by decide,rfl⟩ (fun w h Y=>PySem.W.kIn_of Y) ?F ?S ?C
 case F =>
  intro w mg fa h KX G hmg
  have T:My.Txt mg:=by
   refine' ⟨Yax KX G ?z0,Yax KX G ?z1,Yax KX G ?z2,Yax KX G ?z3,Yax KX G ?z4,Yax KX G ?z5,Yax KX G ?z6,Yax KX G ?z7,Yax KX G ?z8,Yax KX G ?z9,Yax KX G ?z10,Yax KX G ?z11,Yax KX G ?z12⟩
   (case z0=>k_is);(case z1=>k_is);(case z2=>k_is);(case z3=>k_is);(case z4=>k_is);(case z5=>k_is);(case z6=>k_is);(case z7=>k_is);(case z8=>k_is);(case z9=>k_is);(case z10=>k_is);(case z11=>k_is);(case z12=>k_is)
  have C_SIGNS:L2.ConD (L2.KOf KX) mg "SIGNS" [("r",.int 1),("l",.int (-1)),("u",.int (-1)),("d",.int 1)]:=by
   dsimp only [L2.KOf];refine' L2.zb2 KX G ?a ?l
   (case a=>k_is);(case l=>first | rfl | k_is | decide +kernel)
  have D__law_take:∃ f fd,Def (L2.KOf KX) mg "_law_take" My.yaq ["_law_feed_here","_law_many"] f fd:=by
   dsimp only [L2.KOf];refine' Xam KX G (fun _ _ _ _ _ _ us hl=>match us,hl with | [_,_],_=>rfl) ?a ?l ?c ?k
   (case a=>k_is);(case l=>k_is);(case c=>k_is);(case k=>k_is)
  obtain ⟨_,_,D__law_take⟩:=D__law_take
  have D__law_turning:∃ f fd,Def (L2.KOf KX) mg "_law_turning" My.yat ["_law_feed_here","_law_n"] f fd:=by
   dsimp only [L2.KOf];refine' Xam KX G (fun _ _ _ _ _ _ us hl=>match us,hl with | [_,_],_=>rfl) ?a ?l ?c ?k
   (case a=>k_is);(case l=>k_is);(case c=>k_is);(case k=>k_is)
  obtain ⟨_,_,D__law_turning⟩:=D__law_turning
  have D__law_met:∃ f fd,Def (L2.KOf KX) mg "_law_met" My.zaH ["_law_floor_here"] f fd:=by
   dsimp only [L2.KOf];refine' Xam KX G (fun _ _ _ _ _ _ us hl=>match us,hl with | [_],_=>rfl) ?a ?l ?c ?k
   (case a=>k_is);(case l=>k_is);(case c=>k_is);(case k=>k_is)
  obtain ⟨_,_,D__law_met⟩:=D__law_met
  have D__law_floor:∃ f fd,Def (L2.KOf KX) mg "_law_floor" My.Zaz ["_law_feed_here","_law_n"] f fd:=by
   dsimp only [L2.KOf];refine' Xam KX G (fun _ _ _ _ _ _ us hl=>match us,hl with | [_,_],_=>rfl) ?a ?l ?c ?k
   (case a=>k_is);(case l=>k_is);(case c=>k_is);(case k=>k_is)
  obtain ⟨_,_,D__law_floor⟩:=D__law_floor
  have D__law_rims:∃ f fd,Def (L2.KOf KX) mg "_law_rims" My.zay ["_law_floor_here","_law_weights"] f fd:=by
   dsimp only [L2.KOf];refine' Xam KX G (fun _ _ _ _ _ _ us hl=>match us,hl with | [_,_],_=>rfl) ?a ?l ?c ?k
   (case a=>k_is);(case l=>k_is);(case c=>k_is);(case k=>k_is)
  obtain ⟨_,_,D__law_rims⟩:=D__law_rims
  have D__law_sum:∃ f fd,Def (L2.KOf KX) mg "_law_sum" My.ZaH ["_law_one","_law_other","_law_weight"] f fd:=by
   dsimp only [L2.KOf];refine' Xam KX G (fun _ _ _ _ _ _ us hl=>match us,hl with | [_,_,_],_=>rfl) ?a ?l ?c ?k
   (case a=>k_is);(case l=>k_is);(case c=>k_is);(case k=>k_is)
  obtain ⟨_,_,D__law_sum⟩:=D__law_sum
  have D__law_along:∃ f fd,Def (L2.KOf KX) mg "_law_along" My.xaz ["_law_floor_here","_law_s","_law_way"] f fd:=by
   dsimp only [L2.KOf];refine' Xam KX G (fun _ _ _ _ _ _ us hl=>match us,hl with | [_,_,_],_=>rfl) ?a ?l ?c ?k
   (case a=>k_is);(case l=>k_is);(case c=>k_is);(case k=>k_is)
  obtain ⟨_,_,D__law_along⟩:=D__law_along
  have D__law_closed_seam:∃ f fd,Def (L2.KOf KX) mg "_law_closed_seam" My.Yal ["_law_feed_here","_law_floor_here"] f fd:=by
   dsimp only [L2.KOf];refine' Xam KX G (fun _ _ _ _ _ _ us hl=>match us,hl with | [_,_],_=>rfl) ?a ?l ?c ?k
   (case a=>k_is);(case l=>k_is);(case c=>k_is);(case k=>k_is)
  obtain ⟨_,_,D__law_closed_seam⟩:=D__law_closed_seam
  have D__law_drawn:∃ f fd,Def (L2.KOf KX) mg "_law_drawn" My.zaA ["_law_feed_here"] f fd:=by
   dsimp only [L2.KOf];refine' Xam KX G (fun _ _ _ _ _ _ us hl=>match us,hl with | [_],_=>rfl) ?a ?l ?c ?k
   (case a=>k_is);(case l=>k_is);(case c=>k_is);(case k=>k_is)
  obtain ⟨_,_,D__law_drawn⟩:=D__law_drawn
  have D__law_feed:∃ f fd,Def (L2.KOf KX) mg "_law_feed" My.zaE ["_law_script","_law_k"] f fd:=by
   dsimp only [L2.KOf];refine' Xam KX G (fun _ _ _ _ _ _ us hl=>match us,hl with | [_,_],_=>rfl) ?a ?l ?c ?k
   (case a=>k_is);(case l=>k_is);(case c=>k_is);(case k=>k_is)
  obtain ⟨_,_,D__law_feed⟩:=D__law_feed
  have D__law_alike:∃ f fd,Def (L2.KOf KX) mg "_law_alike" My.Zav ["_law_found","_law_due"] f fd:=by
   dsimp only [L2.KOf];refine' Xam KX G (fun _ _ _ _ _ _ us hl=>match us,hl with | [_,_],_=>rfl) ?a ?l ?c ?k
   (case a=>k_is);(case l=>k_is);(case c=>k_is);(case k=>k_is)
  obtain ⟨_,_,D__law_alike⟩:=D__law_alike
  have D_turned_back:∃ f fd,Def (L2.KOf KX) mg "turned_back" My.zas ["turning"] f fd:=by
   dsimp only [L2.KOf];refine' Xam KX G (fun _ _ _ _ _ _ us hl=>match us,hl with | [_],_=>rfl) ?a ?l ?c ?k
   (case a=>k_is);(case l=>k_is);(case c=>k_is);(case k=>k_is)
  obtain ⟨_,_,D_turned_back⟩:=D_turned_back
  have D_step_turnings:∃ f fd,Def (L2.KOf KX) mg "step_turnings" My.yar ["floor"] f fd:=by
   dsimp only [L2.KOf];refine' Xam KX G (fun _ _ _ _ _ _ us hl=>match us,hl with | [_],_=>rfl) ?a ?l ?c ?k
   (case a=>k_is);(case l=>k_is);(case c=>k_is);(case k=>k_is)
  obtain ⟨_,_,D_step_turnings⟩:=D_step_turnings
  have D_ring_from:∃ f fd,Def (L2.KOf KX) mg "ring_from" My.ZaE ["turning","first"] f fd:=by
   dsimp only [L2.KOf];refine' Xam KX G (fun _ _ _ _ _ _ us hl=>match us,hl with | [_,_],_=>rfl) ?a ?l ?c ?k
   (case a=>k_is);(case l=>k_is);(case c=>k_is);(case k=>k_is)
  obtain ⟨_,_,D_ring_from⟩:=D_ring_from
  have D_rings_of:∃ f fd,Def (L2.KOf KX) mg "rings_of" My.xaH ["turning"] f fd:=by
   dsimp only [L2.KOf];refine' Xam KX G (fun _ _ _ _ _ _ us hl=>match us,hl with | [_],_=>rfl) ?a ?l ?c ?k
   (case a=>k_is);(case l=>k_is);(case c=>k_is);(case k=>k_is)
  obtain ⟨_,_,D_rings_of⟩:=D_rings_of
  have D_followed:∃ f fd,Def (L2.KOf KX) mg "followed" My.XaH ["one","other"] f fd:=by
   dsimp only [L2.KOf];refine' Xam KX G (fun _ _ _ _ _ _ us hl=>match us,hl with | [_,_],_=>rfl) ?a ?l ?c ?k
   (case a=>k_is);(case l=>k_is);(case c=>k_is);(case k=>k_is)
  obtain ⟨_,_,D_followed⟩:=D_followed
  have D_round_corners:∃ f fd,Def (L2.KOf KX) mg "round_corners" My.Yar ["floor"] f fd:=by
   dsimp only [L2.KOf];refine' Xam KX G (fun _ _ _ _ _ _ us hl=>match us,hl with | [_],_=>rfl) ?a ?l ?c ?k
   (case a=>k_is);(case l=>k_is);(case c=>k_is);(case k=>k_is)
  obtain ⟨_,_,D_round_corners⟩:=D_round_corners
  have D_corners_of:∃ f fd,Def (L2.KOf KX) mg "corners_of" My.ZaA ["floor"] f fd:=by
   dsimp only [L2.KOf];refine' Xam KX G (fun _ _ _ _ _ _ us hl=>match us,hl with | [_],_=>rfl) ?a ?l ?c ?k
   (case a=>k_is);(case l=>k_is);(case c=>k_is);(case k=>k_is)
  obtain ⟨_,_,D_corners_of⟩:=D_corners_of
  have D_corner_numbers:∃ f fd,Def (L2.KOf KX) mg "corner_numbers" My.yao ["floor"] f fd:=by
   dsimp only [L2.KOf];refine' Xam KX G (fun _ _ _ _ _ _ us hl=>match us,hl with | [_],_=>rfl) ?a ?l ?c ?k
   (case a=>k_is);(case l=>k_is);(case c=>k_is);(case k=>k_is)
  obtain ⟨_,_,D_corner_numbers⟩:=D_corner_numbers
  have D_is_closed:∃ f fd,Def (L2.KOf KX) mg "is_closed" My.xaE ["floor","seam"] f fd:=by
   dsimp only [L2.KOf];refine' Xam KX G (fun _ _ _ _ _ _ us hl=>match us,hl with | [_,_],_=>rfl) ?a ?l ?c ?k
   (case a=>k_is);(case l=>k_is);(case c=>k_is);(case k=>k_is)
  obtain ⟨_,_,D_is_closed⟩:=D_is_closed
  have D__law_beside:∃ f fd,Def (L2.KOf KX) mg "_law_beside" My.Zas ["_law_floor_here","_law_s","_law_step"] f fd:=by
   dsimp only [L2.KOf];refine' Xam KX G (fun _ _ _ _ _ _ us hl=>match us,hl with | [_,_,_],_=>rfl) ?a ?l ?c ?k
   (case a=>k_is);(case l=>k_is);(case c=>k_is);(case k=>k_is)
  obtain ⟨_,_,D__law_beside⟩:=D__law_beside
  have D__law_corner:∃ f fd,Def (L2.KOf KX) mg "_law_corner" My.zax ["_law_floor_here","_law_s"] f fd:=by
   dsimp only [L2.KOf];refine' Xam KX G (fun _ _ _ _ _ _ us hl=>match us,hl with | [_,_],_=>rfl) ?a ?l ?c ?k
   (case a=>k_is);(case l=>k_is);(case c=>k_is);(case k=>k_is)
  obtain ⟨_,_,D__law_corner⟩:=D__law_corner
  have D__law_is_closed:∃ f fd,Def (L2.KOf KX) mg "_law_is_closed" My.Yao ["_law_floor_here","_law_seam"] f fd:=by
   dsimp only [L2.KOf];refine' Xam KX G (fun _ _ _ _ _ _ us hl=>match us,hl with | [_,_],_=>rfl) ?a ?l ?c ?k
   (case a=>k_is);(case l=>k_is);(case c=>k_is);(case k=>k_is)
  obtain ⟨_,_,D__law_is_closed⟩:=D__law_is_closed
  have D_side_crossed:∃ f fd,Def (L2.KOf KX) mg "side_crossed" My.Yat ["floor","s","step"] f fd:=by
   dsimp only [L2.KOf];refine' Xam KX G (fun _ _ _ _ _ _ us hl=>match us,hl with | [_,_,_],_=>rfl) ?a ?l ?c ?k
   (case a=>k_is);(case l=>k_is);(case c=>k_is);(case k=>k_is)
  obtain ⟨_,_,D_side_crossed⟩:=D_side_crossed
  have D_rim_of:∃ f fd,Def (L2.KOf KX) mg "rim_of" My.XaR ["floor","s"] f fd:=by
   dsimp only [L2.KOf];refine' Xam KX G (fun _ _ _ _ _ _ us hl=>match us,hl with | [_,_],_=>rfl) ?a ?l ?c ?k
   (case a=>k_is);(case l=>k_is);(case c=>k_is);(case k=>k_is)
  obtain ⟨_,_,D_rim_of⟩:=D_rim_of
  have D_law:∃ f fd,Def (L2.KOf KX) mg "law" My.xbT ["_law_script"] f fd:=by
   dsimp only [L2.KOf];refine' Xam KX G (fun _ _ _ _ _ _ us hl=>match us,hl with | [_],_=>rfl) ?a ?l ?c ?k
   (case a=>k_is);(case l=>k_is);(case c=>k_is);(case k=>k_is)
  obtain ⟨_,_,D_law⟩:=D_law
  have e0:=hmg.symm.trans D_law.m
  cases e0
  exact ⟨_,D_law.bindsTo,fun base _ _=>L4.law_of (My.all_ok T C_SIGNS D__law_take D__law_turning D__law_met D__law_floor D__law_rims D__law_sum D__law_along D__law_closed_seam D__law_drawn D__law_feed D__law_alike D_turned_back D_step_turnings D_ring_from D_rings_of D_followed D_round_corners D_corners_of D_corner_numbers D_is_closed D__law_beside D__law_corner D__law_is_closed D_side_crossed D_rim_of D_law) fun ns hn=>let ⟨_,st,e,h⟩:=My.law_true ns hn;⟨st,h ▸ e⟩⟩
 case S=>exact fun K H a ns hl hO hS=>⟨a,ns,rfl,hS.script hO,hl,fun _=>rfl⟩
 case C=>exact fun _ _ _ _ z=>z
