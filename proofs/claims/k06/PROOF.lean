import PyProof.Rows.All
import Wide.All
import OpenK.AllK
import Wide.FinOn
import Lean
import PyProof.EqAt
import PyProof.EqKinds
import PyProof.TupleCall
import PyProof.DictIter
import PyProof.EnumMake
import KE.KSortTup
import KE.KDictLaws
import KE.KDictSum
import PyProof.StrLawsTight
import KE.KIntText
import PyProof.MinMaxWalk
import PyProof.WalkInts
import KE.KIsAll
import PyProof.ExcInit
import PyProof.NsDelKeeps
import PyProof.ExcBaseAll.ValueError
import OpenK.KOwn
import PyProof.ExcAttrAll.ValueError
import PyProof.InstStoreFacts
import PySem.Challenge.RW_shearfloor_k06_the_first_thing_amiss
set_option Elab.async false
set_option linter.all false
set_option maxRecDepth 100000
set_option maxHeartbeats 4000000
set_option genSizeOf false
noncomputable section
namespace L2
open PySem PySem.Spec PyProof.Rows
abbrev Key:=Sum Int Str
noncomputable def keyIs:Key→Value→Bool
 | .inl k,v=>Value.isInt k v
 | .inr x,v=>Value.isStrOf x v
noncomputable def keyH (w:World):Key→Int
 | .inl k=>hashInt k
 | .inr x=>hashStr w x
theorem Zak:∀ {k:Key} {v:Value},keyIs k v=true→(∃ i t,k=Sum.inl i∧v=Value.int i t)∨(∃ x t,k=Sum.inr x∧v=Value.str x t)
 | .inl i,v,h=>by
  obtain ⟨t,e⟩:=Value.isInt_shape (k:=i) (v:=v) h
  exact .inl ⟨i,t,rfl,e⟩
 | .inr x,v,h=>by
  obtain ⟨t,e⟩:=Value.isStrOf_shape (x:=x) (v:=v) h
  exact .inr ⟨x,t,rfl,e⟩
theorem key_ll (a b:Int):decide ((Sum.inl a:Key)=Sum.inl b)=(a == b):=by
 by_cases e:a=b
 ·subst e;simp
 ·have h:¬ (Sum.inl a:Key)=Sum.inl b:=fun q=>e (Sum.inl.inj q)
  rw [decide_eq_false h]
  exact (beq_eq_false_iff_ne.mpr e).symm
theorem key_rr (a b:Str):decide ((Sum.inr a:Key)=Sum.inr b)=decide (a=b):=by
 by_cases e:a=b
 ·subst e;simp
 ·have h:¬ (Sum.inr a:Key)=Sum.inr b:=fun q=>e (Sum.inr.inj q)
  rw [decide_eq_false h,decide_eq_false e]
theorem key_lr (a:Int) (b:Str):decide ((Sum.inl a:Key)=Sum.inr b)=false:=decide_eq_false (fun q=>nomatch q)
theorem key_rl (a:Str) (b:Int):decide ((Sum.inr a:Key)=Sum.inl b)=false:=decide_eq_false (fun q=>nomatch q)
noncomputable def mixKind (prog:Program) (w:World):PySem.KeyKind prog w Key where
 is:=keyIs
 hash:=keyH w
 inj:=fun v a b ha hb=>by
  rcases Zak ha with ⟨i,t,rfl,rfl⟩ | ⟨x,t,rfl,rfl⟩
  ·rcases Zak hb with ⟨j,u,rfl,e⟩ | ⟨y,u,rfl,e⟩
   ·injection e with e1 _;rw [e1]
   ·exact nomatch e
  ·rcases Zak hb with ⟨j,u,rfl,e⟩ | ⟨y,u,rfl,e⟩
   ·exact nomatch e
   ·injection e with e1 _;rw [e1]
 byValue:=fun k v h=>by
  rcases Zak h with ⟨i,t,rfl,rfl⟩ | ⟨x,t,rfl,rfl⟩ <;> rfl
 pyHash:=fun hv h=>by
  rcases Zak hv with ⟨i,t,rfl,rfl⟩ | ⟨x,t,rfl,rfl⟩
  ·exact wpAny_pyHash_int h
  ·exact wpAny_pyHash_str h
 eqBool:=fun hu hv h=>by
  rcases Zak hu with ⟨i,t,rfl,rfl⟩ | ⟨x,t,rfl,rfl⟩
  ·rcases Zak hv with ⟨j,u,rfl,rfl⟩ | ⟨y,u,rfl,rfl⟩
   ·rw [key_ll] at h;exact wpAny_eqBool_int h
   ·rw [key_lr] at h;exact SeqAt.EqAt.int_str i t y u _ _ _ _ h
  ·rcases Zak hv with ⟨j,u,rfl,rfl⟩ | ⟨y,u,rfl,rfl⟩
   ·rw [key_rl] at h;exact SeqAt.EqAt.str_int x t j u _ _ _ _ h
   ·rw [key_rr] at h;exact wpAny_eqBool_str h
 «strs»:=fun k x t v h=>by
  rcases Zak h with ⟨i,u,rfl,e⟩ | ⟨y,u,rfl,e⟩
  ·exact nomatch e
  ·injection e with e1 _
   subst e1
   cases v <;> rfl
end L2
namespace L2
open PySem PySem.Spec PyProof.Rows
inductive V where
 | non | bl (b:Bool) | int (i:Int) | str (x:Str) | byt (b:Array UInt8) | flt (b:UInt64) | ref (a:Addr) | ty (n:String)
 deriving DecidableEq
noncomputable def RelV:V→Value→Prop
 | .non,u=>u=Value.none
 | .bl b,u=>u=Value.bool b
 | .int i,u=>∃ t,u=Value.int i t
 | .str x,u=>∃ t,u=Value.str x t
 | .byt b,u=>∃ t,u=Value.bytes b t
 | .flt b,u=>∃ t,u=Value.float b t
 | .ref a,u=>u=Value.ref a
 | .ty n,u=>u=Value.type n
abbrev Vals:List V→List Value→Prop:=Paired RelV
theorem Vals.length {xs:List V} {us:List Value} (r:Vals xs us):xs.length=us.length:=Paired.length r
theorem Vals.get:∀ {xs:List V} {us:List Value} {i:Nat} {x:V},Vals xs us→xs[i]?=some x→∃ u,us[i]?=some u∧RelV x u
 | _,_,_,_,.nil,e=>by simp at e
 | _,_,0,_,.cons r _,e=>by simp at e;subst e;exact ⟨_,rfl,r⟩
 | _,_,i + 1,x,.cons _ t,e=>by
  obtain ⟨u,h1,h2⟩:=Vals.get (i:=i) (x:=x) t (by simpa using e)
  exact ⟨u,by simpa using h1,h2⟩
theorem Vals.set {x:V} {u:Value} (r:RelV x u):∀ {xs:List V} {us:List Value} (i:Nat),Vals xs us→Vals (xs.set i x) (us.set i u)
 | _,_,_,.nil=>.nil
 | _,_,0,.cons _ t=>.cons r t
 | _,_,i + 1,.cons q t=>.cons q (Vals.set r i t)
theorem Vals.append:∀ {xs ys:List V} {us ws:List Value},Vals xs us→Vals ys ws→Vals (xs ++ ys) (us ++ ws)
 | _,_,_,_,.nil,s=>s
 | _,_,_,_,.cons r t,s=>.cons r (Vals.append t s)
theorem Vals.take:∀ {xs:List V} {us:List Value} (n:Nat),Vals xs us→Vals (xs.take n) (us.take n)
 | _,_,0,_=>.nil
 | _,_,_ + 1,.nil=>.nil
 | _,_,n + 1,.cons r t=>.cons r (Vals.take n t)
theorem Vals.drop:∀ {xs:List V} {us:List Value} (n:Nat),Vals xs us→Vals (xs.drop n) (us.drop n)
 | _,_,0,r=>r
 | _,_,_ + 1,.nil=>.nil
 | _,_,n + 1,.cons _ t=>Vals.drop n t
noncomputable def RelO:Option V→Option Value→Prop
 | some v,some u=>RelV v u
 | none,none=>True
 | _,_=>False
noncomputable def KV {κ:Type}:List (κ×V)→List (κ×Value)→Prop:=Paired fun (p:κ×V) (q:κ×Value)=>p.1=q.1∧RelV p.2 q.2
noncomputable def kV:Key→V
 | .inl i=>.int i
 | .inr x=>.str x
set_option genInjectivity false in
inductive HO where
 /-- a list -/
 | lst (xs:List V)
 /-- a tuple (never changes) -/
 | tup (xs:List V)
 /-- a dict whose keys are ints and texts;one whose keys are tuples of ints and texts (the empty one is both) -/
 | dK (kvs:List (Key×V)) | dT (kvs:List (List Key×V))
 /-- a set of ints: its members,its size -/
 | set (S:Int→Bool) (n:Nat)
 /-- an instance of the class at C,its dict at dx,its attributes -/
 | ins (C dx:Addr) (fs:List (Str×V))
 /-- the dict of the instance at x -/
 | own (x:Addr)
 /-- the dict of an exception -/
 | xd (fs:List (Str×V))
 /-- a bound method,f of x -/
 | met (f x:Addr)
 /-- a range object lo,lo + 1,.. below hi -/
 | rng (lo hi:Int)
 /-- a thing that is known to the object (the script;a dict while a loop walks it): read,never written while it is so -/
 | frz (o:Obj) (u:HO)
 /-- a code object's table -/
 | tbl (ps:Array Value)
 /-- any other thing,by what is true of its one object (a def of one's own: SetO a S n:=HO.ext fun h=>..) -/
 | ext (φ:Heap→Prop)
abbrev Hp:=Addr→Option HO
noncomputable def upd (H:Hp) (a:Addr) (o:HO):Hp:=fun b=>if b=a then some o else H b
theorem yag {H:Hp} {a:Addr} {o:HO}:upd H a o a=some o:=by unfold upd;rw [if_pos rfl]
theorem Yae {H:Hp} {a b:Addr} {o:HO} (h:b≠a):upd H a o b=H b:=by unfold upd;rw [if_neg h]
theorem Xbd {H:Hp} {a:Addr} {o u:HO}:upd (upd H a o) a u=upd H a u:=by
 funext b;unfold upd;split <;> rfl
theorem ne_of {H:Hp} {a b:Addr} {o u:HO} (h:H a=some o) (h':H b=some u) (d:o≠u):a≠b:=by
 intro e;subst e;rw [h] at h';exact d (Option.some.inj h')
theorem yas {H:Hp} {a b:Addr} {o:HO} (h:H a=some o) (h':H b=none):a≠b:=by
 intro e;subst e;rw [h] at h';cases h'
noncomputable def PTup (h:Heap) (a:Addr) (its:Array Value):Prop:=∃ o,h.get? a=some o∧o.cls=.type "tuple" ∧ o.dict=none∧∃ n,o.data=.seq its n
theorem PTup.tup {h:Heap} {a:Addr} {its:Array Value} (x:PTup h a its):IsTup h a its:=let ⟨o,e,c,_,n,d⟩:=x;⟨o,e,c,n,d⟩
theorem PTup.new (h:Heap) (its:Array Value):PTup (h.push { cls:=.type "tuple",data:=.seq its }) h.objs.size its:=⟨_,Heap.get?_push_size _ rfl,rfl,rfl,_,rfl⟩
section
variable (P:Program) (w:World)
noncomputable def ObjOk (H:Hp) (h:Heap) (a:Addr):HO→Prop
 | .lst xs=>xs.length≤sizeLine∧∃ (its:List Value) (n:Nat),Vals xs its∧h.get? a=some { cls:=.type "list",data:=.seq its.toArray n }
 | .tup xs=>xs.length≤sizeLine∧∃ its:List Value,Vals xs its∧PTup h a its.toArray
 | .dK kvs=>kvs.length≤sizeLine∧(a == sysModules)=false∧∃ vs,KV kvs vs∧h.DictOf (mixKind P w) a vs
 | .dT kvs=>kvs.length≤sizeLine∧(a == sysModules)=false∧∃ xs:List (List Key×Addr×Value),
   Paired (fun (p:List Key×V) (q:List Key×Addr×Value)=>p.1=q.1∧H q.2.1=some (.tup (p.1.map kV))∧RelV p.2 q.2.2) kvs xs ∧
   ∃ o es ep,h.get? a=some o∧o.ExactDict∧o.data=.dict es ep∧es.toList=xs.map (entryOfKey (tupleKind (mixKind P w)))∧(xs.map (·.1)).Nodup
 | .set S n=>h.SetOf (intKind P w) a S n
 | .ins C dx fs=>H dx=some (.own a)∧fs.length≤1000∧dx≠a∧h.get? a=some (PySem.W.instObj C dx) ∧
   ∃ mA,h.Ns1 dx mA∧(∀ f,RelO (fs.lookup f) (mA f))∧PySem.Within mA (fs.map (·.1))
 | .own _=>∃ o,h.get? a=some o
 | .xd fs=>∃ mA,h.Ns1 a mA∧∀ f,RelO (fs.lookup f) (mA f)
 | .rng lo hi=>∃ t u v,h.get? a=some { cls:=.type "range",data:=.fields #[.int lo t,.int hi u,.int 1 v] }
 | .frz o u=>h.get? a=some o∧ObjOk H h a u
 | .tbl ps=>h.get? a=some { cls:=.none,data:=.fields ps }
 | .met f x=>h.get? a=some (PySem.W.methodObj (.ref f) (.ref x))
 | .ext φ=>φ h∧(∃ o,h.get? a=some o)∧∀ h1 h2:Heap,φ h1→(∀ o,h1.get? a=some o→h2.get? a=some o)→φ h2
noncomputable def HOk (H:Hp) (h:Heap):Prop:=∀ a o,H a=some o→ObjOk P w H h a o
end
section
variable {P:Program} {w:World} {H H':Hp} {h h':Heap} {a:Addr} {o:HO}
theorem ObjOk.lt (x:ObjOk P w H h a o):a < h.objs.size:=by
 cases o with
 | lst xs=>obtain ⟨_,_,_,_,e⟩:=x;exact Heap.lt_size e
 | tup xs=>obtain ⟨_,_,_,_,e,_⟩:=x;exact Heap.lt_size e
 | dK kvs=>obtain ⟨_,_,_,_,o,_,_,e,_⟩:=x;exact Heap.lt_size e
 | dT kvs=>obtain ⟨_,_,_,_,o,_,_,e,_⟩:=x;exact Heap.lt_size e
 | set S n=>obtain ⟨o,_,_,_,e,_⟩:=x;exact Heap.lt_size e
 | ins C dx fs=>obtain ⟨_,_,_,e,_⟩:=x;exact Heap.lt_size e
 | own y=>obtain ⟨_,e⟩:=x;exact Heap.lt_size e
 | xd fs=>obtain ⟨_,⟨_,_,_,e,_⟩,_⟩:=x;exact Heap.lt_size e
 | rng lo hi=>obtain ⟨_,_,_,e⟩:=x;exact Heap.lt_size e
 | frz ob u=>obtain ⟨e,_⟩:=x;exact Heap.lt_size e
 | tbl ps=>exact Heap.lt_size (show h.get? a=some _ from x)
 | met f y=>exact Heap.lt_size (show h.get? a=some _ from x)
 | ext φ=>obtain ⟨_,⟨_,e⟩,_⟩:=x;exact Heap.lt_size e
theorem Paired.mapP {α β:Type} {F G:α→β→Prop}:∀ {l₁:List α} {l₂:List β},Paired F l₁ l₂→(∀ a b,F a b→G a b)→Paired G l₁ l₂
 | _,_,.nil,_=>.nil
 | _,_,.cons r t,f=>.cons (f _ _ r) (Paired.mapP t f)
theorem ObjOk.stay (x:ObjOk P w H h a o) (k:∀ b u,(b=a∨H b=some (.own a))→h.get? b=some u→h'.get? b=some u)
  (ho:∀ b,H b=some (.own a)→H' b=some (.own a)) (ht:∀ b xs,H b=some (.tup xs)→H' b=some (.tup xs)):ObjOk P w H' h' a o:=by
 induction o with
 | lst xs=>obtain ⟨z,its,n,r,e⟩:=x;exact ⟨z,its,n,r,k _ _ (.inl rfl) e⟩
 | tup xs=>obtain ⟨z,its,r,ob,e,c⟩:=x;exact ⟨z,its,r,ob,k _ _ (.inl rfl) e,c⟩
 | dK kvs=>obtain ⟨z,y,vs,r,ob,es,ep,e,c⟩:=x;exact ⟨z,y,vs,r,ob,es,ep,k _ _ (.inl rfl) e,c⟩
 | dT kvs =>
  obtain ⟨z,y,xs,r,ob,es,ep,e,c⟩:=x
  exact ⟨z,y,xs,Paired.mapP r fun p q z=>⟨z.1,ht _ _ z.2.1,z.2.2⟩,ob,es,ep,k _ _ (.inl rfl) e,c⟩
 | set S n=>obtain ⟨ob,es,ep,t,e,c⟩:=x;exact ⟨ob,es,ep,t,k _ _ (.inl rfl) e,c⟩
 | ins C dx fs =>
  obtain ⟨d,z,ne,e,mA,⟨od,es,ep,e2,c⟩,r⟩:=x
  exact ⟨ho _ d,z,ne,k _ _ (.inl rfl) e,mA,⟨od,es,ep,k _ _ (.inr d) e2,c⟩,r⟩
 | own y=>obtain ⟨ob,e⟩:=x;exact ⟨ob,k _ _ (.inl rfl) e⟩
 | xd fs=>obtain ⟨mA,⟨od,es,ep,e,c⟩,r⟩:=x;exact ⟨mA,⟨od,es,ep,k _ _ (.inl rfl) e,c⟩,r⟩
 | rng lo hi=>obtain ⟨t,u,v,e⟩:=x;exact ⟨t,u,v,k _ _ (.inl rfl) e⟩
 | frz ob u ih=>obtain ⟨e,q⟩:=x;exact ⟨k _ _ (.inl rfl) e,ih q⟩
 | tbl ps =>
  have e:h.get? a=some { cls:=.none,data:=.fields ps }:=x
  show h'.get? a=some { cls:=.none,data:=.fields ps }
  exact k a _ (.inl rfl) e
 | met f y =>
  have e:h.get? a=some (PySem.W.methodObj (.ref f) (.ref y)):=x
  show h'.get? a=some (PySem.W.methodObj (.ref f) (.ref y))
  exact k a _ (.inl rfl) e
 | ext φ=>obtain ⟨p,⟨o,e⟩,st⟩:=x;exact ⟨st _ _ p fun o q=>k _ _ (.inl rfl) q,⟨o,k _ _ (.inl rfl) e⟩,st⟩
theorem HOk.lt (x:HOk P w H h) (e:H a=some o):a < h.objs.size:=(x a o e).lt
theorem HOk.fresh (x:HOk P w H h) (e:h.objs.size≤a):H a=none:=by
 cases q:H a with
 | none=>rfl
 | some u=>exact absurd (Nat.lt_of_lt_of_le (x.lt q) e) (Nat.lt_irrefl _)
theorem HOk.kept (x:HOk P w H h) (k:∀ b u,h.get? b=some u→h'.get? b=some u):HOk P w H h':=fun a o e =>
 (x a o e).stay (fun b u _ q=>k b u q) (fun _ q=>q) fun _ _ q=>q
theorem HOk.laid (x:HOk P w H h) (k:∀ b u,h.get? b=some u→h'.get? b=some u) (hp:h.objs.size≤a) (new:ObjOk P w (upd H a o) h' a o):HOk P w (upd H a o) h':=fun b u e=>by
 have hn:=x.fresh hp
 by_cases hb:b=a
 ·subst hb;rw [yag] at e;cases e;exact new
 ·rw [Yae hb] at e
  exact (x b u e).stay (fun c v _ q=>k c v q) (fun c q=>by rw [Yae (yas q hn)];exact q) fun c xs q=>by rw [Yae (yas q hn)];exact q
end
noncomputable def Rd (H:Hp) (a:Addr) (u:HO):Prop:=H a=some u∨∃ o,H a=some (.frz o u)
theorem Rd.ok {P:Program} {w:World} {H:Hp} {h:Heap} {a:Addr} {u:HO} (r:Rd H a u) (x:HOk P w H h):ObjOk P w H h a u:=by
 rcases r with r | ⟨o,r⟩
 ·exact x a u r
 ·obtain ⟨_,q⟩:=x a _ r
  exact q
noncomputable def Mut:Option HO→Prop
 | some (.lst _)=>True
 | some (.dK _)=>True
 | some (.dT _)=>True
 | some (.set _ _)=>True
 | some (.ins _ _ _)=>True
 | some (.ext _)=>True
 | _=>False
section
variable {P:Program} {w:World} {H:Hp} {h h':Heap} {x e:Addr} {o':HO}
theorem HOk.write (ok:HOk P w H h) (mu:Mut (H x)) (he:e=x∨H e=some (.own x)) (k:∀ b u,b≠e→h.get? b=some u→h'.get? b=some u) (heo:∃ u,h'.get? e=some u)
  (new:ObjOk P w (upd H x o') h' x o'):HOk P w (upd H x o') h':=fun b u q=>by
 have nown:∀ c y,H c=some (.own y)→c≠x:=fun c y r z=>by subst z;rw [r] at mu;exact mu
 have ntup:∀ c xs,H c=some (.tup xs)→c≠x:=fun c xs r z=>by subst z;rw [r] at mu;exact mu
 by_cases hb:b=x
 ·subst hb;rw [yag] at q;cases q;exact new
 ·rw [Yae hb] at q
  by_cases hbe:b=e
  ·have q':H b=some (.own x):=by
    rcases he with z | z
    ·exact absurd (hbe.trans z) hb
    ·rw [hbe];exact z
   rw [q] at q';cases q'
   obtain ⟨v,hv⟩:=heo
   exact ⟨v,by rw [hbe];exact hv⟩
  ·refine (ok b u q).stay (fun c v hc r=>k c v ?_ r) (fun c r=>by rw [Yae (nown c b r)];exact r) fun c xs r=>by rw [Yae (ntup c xs r)];exact r
   rcases hc with rfl | hc
   ·exact hbe
   ·rintro rfl
    rcases he with z | z
    ·exact nown c b hc z
    ·rw [hc] at z;cases z;exact hb rfl
end
structure Un (fs ex:List Addr) (H H':Hp) (h h':Heap):Prop where
 keep:∀ b o,h.get? b=some o→H b=none→b ∉ fs→b ∉ ex→h'.get? b=some o
 slot:∀ b o,h.get? b=some o→H b=none→b∈fs→b ∉ ex→∃ sl,h'.get? b=some { o with slots:=sl }
 free:∀ b o,h.get? b=some o→H b=none→b ∉ ex→H' b=none
 there:∀ b o,h.get? b=some o→b ∉ ex→∃ o',h'.get? b=some o'
 tups:∀ b xs,H b=some (.tup xs)→H' b=some (.tup xs)
 frzs:∀ b o u,H b=some (.frz o u)→H' b=some (.frz o u)
 tbls:∀ b ps,H b=some (.tbl ps)→∃ more,H' b=some (.tbl (ps ++ more))
section
variable {fs fs' ex ex':List Addr} {H H1 H2:Hp} {h h1 h2 h':Heap} {a x e:Addr} {o:HO}
theorem Un.any (u:Un fs ex H H1 h h1) {b:Addr} {ob:Obj} (q:h.get? b=some ob) (n:H b=none) (hx:b ∉ ex):∃ sl,h1.get? b=some { ob with slots:=sl }:=by
 by_cases hb:b∈fs
 ·exact u.slot b ob q n hb hx
 ·exact ⟨ob.slots,u.keep b ob q n hb hx⟩
theorem Un.kept (k:∀ b u,h.get? b=some u→h'.get? b=some u):Un fs ex H H h h' :=
 ⟨fun b ob q _ _ _=>k b ob q,fun b ob q _ _ _=>⟨ob.slots,k b ob q⟩,fun _ _ _ n _=>n,fun b ob q _=>⟨ob,k b ob q⟩,fun _ _ q=>q,fun _ _ _ q=>q,fun _ ps q=>⟨#[],by rw [q];simp⟩⟩
theorem Un.refl:Un fs ex H H h h:=Un.kept fun _ _ q=>q
theorem Un.laid (k:∀ b u,h.get? b=some u→h'.get? b=some u) (hp:h.objs.size≤a) (hn:H a=none):Un fs ex H (upd H a o) h h' where
 keep:=fun b u q _ _ _=>k b u q
 slot:=fun b u q _ _ _=>⟨u.slots,k b u q⟩
 free:=fun b u q n _=>by rw [Yae (Nat.ne_of_lt (Nat.lt_of_lt_of_le (Heap.lt_size q) hp))];exact n
 there:=fun b u q _=>⟨u,k b u q⟩
 tups:=fun b xs q=>by rw [Yae (yas q hn)];exact q
 frzs:=fun b u xs q=>by rw [Yae (yas q hn)];exact q
 tbls:=fun b ps q=>⟨#[],by rw [Yae (yas q hn),q];simp⟩
theorem Un.write (mu:Mut (H x)) (he:e=x∨H e=some (.own x)) (k:∀ b u,b≠e→h.get? b=some u→h'.get? b=some u) (heo:∃ u,h'.get? e=some u):Un fs ex H (upd H x o) h h':=by
 have hx:∀ b,H b=none→b≠x:=fun b n z=>by subst z;rw [n] at mu;exact mu
 have hb:∀ b,H b=none→b≠e:=fun b n z=>by
  subst z
  rcases he with r | r
  ·exact hx b n r
  ·rw [n] at r;cases r
 have hm:∀ b u,H b=some u→¬ Mut (some u)→b≠x:=fun b u q nm z=>by subst z;rw [q] at mu;exact nm mu
 refine ⟨fun b u q n _ _=>k b u (hb b n) q,fun b u q n _ _=>⟨u.slots,k b u (hb b n) q⟩,fun b u q n _=>by rw [Yae (hx b n)];exact n,fun b u q _=>?_,
  fun b xs q=>by rw [Yae (hm b _ q fun z=>z)];exact q,fun b u xs q=>by rw [Yae (hm b _ q fun z=>z)];exact q,fun b ps q=>⟨#[],by rw [Yae (hm b _ q fun z=>z),q];simp⟩⟩
 by_cases hbe:b=e
 ·subst hbe;exact heo
 ·exact ⟨u,k b u hbe q⟩
end
noncomputable def trk (h:Heap) (H:Hp):List Addr:=(List.range h.objs.size).filter fun a=>(H a).isSome
noncomputable def hidT (h:Heap) (H:Hp):Heap:=PySem.W.hideAll h (trk h H)
theorem zbe (h:Heap) (H:Hp):(hidT h H).objs.size=h.objs.size:=PySem.W.hideAll_size _ _
theorem zbr {h:Heap} {H:Hp} {b:Addr} {o:Obj} (e:h.get? b=some o) (n:H b=none):(hidT h H).get? b=some o :=
 PySem.W.hideAll_get _ e fun hm=>by
  have q:(H b).isSome=true:=(List.mem_filter.mp hm).2
  rw [n] at q;simp at q
theorem ybD {h:Heap} {H:Hp} {b:Addr} {o:Obj} (e:(hidT h H).get? b=some o):h.get? b=some o∧H b=none:=by
 have e':h.get? b=some o:=PySem.W.of_hideAll (trk h H) e
 refine ⟨e',?_⟩
 cases q:H b with
 | none=>rfl
 | some x =>
  have hm:b∈trk h H:=List.mem_filter.mpr ⟨List.mem_range.mpr (Heap.lt_size e'),by simp [q]⟩
  have z:(hidT h H).get? b=none:=PySem.W.hideAll_none (trk h H) hm
  rw [z] at e;cases e
noncomputable def allNews (g h:Heap) (L:Addr):List (Addr×Obj):=(List.range h.objs.size).filterMap fun a=>if a=L∨(g.get? a).isSome=true then none else (h.get? a).map fun o=>(a,o)
noncomputable def rest (g h:Heap) (L d:Addr):List (Addr×Obj):=(allNews g h L).filter fun p=>decide (p.1≠d)
end L2
namespace L2
open PySem PySem.Spec PyProof.Rows
structure Mod (K:PySem.W.Frag) (mg:Str→Option Value) (base:Heap):Prop where
 kin:K.In base
 glob:base.Ns mainGlobals mg
 blt:∃ mb,base.Ns builtinsNs mb∧∀ x:Str,x≠"__name__" → mb x=bootBuiltins x
 nolimit:base.NoLimit
set_option genInjectivity false in
structure Cx where
 prog:Program
 w:World
 K:PySem.W.Frag
 mg:Str→Option Value
 base:Heap
 A:Around
 N:List Str
 s₀:Shared
 H₀:Hp
 env:Env
 outer:List Env
 stack:List Env
 ex:List Addr
 fn:Str→Bool
 calm:Bool
 pn:List (Addr×Obj)
 xe:Value→Shared→Prop
noncomputable def frs (l:List Env):List Addr:=l.filterMap (·.frame)
abbrev Cx.fs (X:Cx):List Addr:=frs X.outer
noncomputable def Vis (sc:Scope) (x:Str):Prop:=sc.names.lookup x=some .local∨sc.names.lookup x=some .cell∨sc.names.lookup x=some .free
noncomputable def Loc (sc:Scope) (x:Str):Prop:=sc.names.lookup x=some .local∨sc.names.lookup x=some .cell
noncomputable def Look (env:Env) (h:Heap) (m:Str→Option Value) (x:Str) (u:Value):Prop :=
 (env.kindOf x=some .local∧m x=some u)∨((env.kindOf x=some .cell∨env.kindOf x=some .free)∧∃ c,env.cells.lookup x=some c∧h.IsCell c (some u))
structure Cx.Ok (X:Cx):Prop where
 mod:Mod X.K X.mg X.base
 kind:X.env.scope.kind=.function
 glob:X.env.globals=mainGlobals
 blt:X.env.builtins=builtinsNs
 above:X.s₀.heap.objs.size≤X.env.locals
 inj:∀ x y c,X.env.cells.lookup x=some c→X.env.cells.lookup y=some c→x=y
 has:∀ x,(X.env.kindOf x=some .cell∨X.env.kindOf x=some .free)→∃ c,X.env.cells.lookup x=some c
 cab:∀ x c,X.fn x=true→X.env.cells.lookup x=some c→X.s₀.heap.objs.size≤c
 hd:X.calm=true→X.A.handled=none
 frames:X.A.frames=some X.stack
 stk:X.stack=X.outer∨(X.stack=X.env :: X.outer∧X.env.frame=some X.env.locals)
 exf:∀ b∈X.ex,b≠X.env.locals∧∀ x c,X.env.cells.lookup x=some c→c≠b
 bs:∀ b o,X.base.get? b=some o→X.s₀.heap.get? b=some o∧X.H₀ b=none
 bsz:X.base.objs.size≤X.s₀.heap.objs.size
 noex:∀ b o,X.base.get? b=some o→b ∉ X.ex
 exfs:∀ b∈X.ex,b ∉ X.fs
 funs:X.s₀.heap.FunFrames X.base X.outer
 frf:∀ b∈X.fs,X.H₀ b=none
structure Inv (X:Cx) (pins:List (Addr×Obj)) (σ:List (Option V)) (H:Hp) (s:Shared):Prop where
 ok:X.Ok
 os:s.os=X.s₀.os
 bare:AllBare s.gens
 base:Un X.fs X.ex X.H₀ H X.s₀.heap s.heap
 loc:∃ m,s.heap.Ns X.env.locals m∧∀ (i:Nat) (x:Str) (v:V),X.N[i]?=some x→σ[i]?=some (some v)→Vis X.env.scope x→∃ u,RelV v u∧Look X.env s.heap m x u
 cell:∀ x c,X.env.cells.lookup x=some c→∃ v,s.heap.IsCell c v
 free:H X.env.locals=none
 freeC:∀ x c,X.env.cells.lookup x=some c→H c=none
 pin:∀ p∈X.pn ++ pins,s.heap.get? p.1=some p.2∧H p.1=none∧p.1≠X.env.locals∧p.1 ∉ X.fs∧∀ v,p.2.data≠.cell v
 hok:HOk X.prog X.w H s.heap
 len:σ.length=X.N.length
section
variable {X:Cx} {pins:List (Addr×Obj)} {σ:List (Option V)} {H H':Hp} {s:Shared} {h':Heap}
theorem Cx.Ok.nofr (ok:X.Ok) {b:Addr} {o:Obj} (e:X.base.get? b=some o):b ∉ X.fs:=fun hb=>by
 have:=(ok.funs.mem hb).1
 rw [e] at this;cases this
theorem Inv.bs (I:Inv X pins σ H s):∀ b o,X.base.get? b=some o→s.heap.get? b=some o∧H b=none:=fun b o e =>
 ⟨I.base.keep b o (I.ok.bs b o e).1 (I.ok.bs b o e).2 (I.ok.nofr e) (I.ok.noex b o e),I.base.free b o (I.ok.bs b o e).1 (I.ok.bs b o e).2 (I.ok.noex b o e)⟩
theorem Inv.bk (I:Inv X pins σ H s):∀ b o,X.base.get? b=some o→s.heap.get? b=some o:=fun b o e=>(I.bs b o e).1
theorem Inv.mod (I:Inv X pins σ H s):Mod X.K X.mg X.base:=I.ok.mod
theorem Inv.kIn (I:Inv X pins σ H s):X.K.In s.heap:=I.ok.mod.kin.keeps I.bk
theorem Inv.lt (I:Inv X pins σ H s):X.env.locals < s.heap.objs.size:=let ⟨_,hn,_⟩:=I.loc;hn.lt
theorem Inv.sz (I:Inv X pins σ H s):X.s₀.heap.objs.size≤s.heap.objs.size:=Nat.le_trans I.ok.above (Nat.le_of_lt I.lt)
theorem Inv.nofs (I:Inv X pins σ H s) {a:Addr} (h:s.heap.objs.size≤a):a ∉ X.fs:=fun hb=>by
 obtain ⟨_,o,ho,_⟩:=I.ok.funs.mem hb
 exact absurd (Nat.lt_of_lt_of_le (Heap.lt_size ho) (Nat.le_trans I.sz h)) (Nat.lt_irrefl _)
theorem Inv.cne (I:Inv X pins σ H s):∀ x c,X.env.cells.lookup x=some c→c≠X.env.locals:=fun x c e z=>by
 obtain ⟨v,o,ho,hd⟩:=I.cell x c e
 obtain ⟨m,⟨o',es,ep,ho',hd',_⟩,_⟩:=I.loc
 rw [z,ho'] at ho;cases ho;rw [hd'] at hd;cases hd
theorem Inv.funs (I:Inv X pins σ H s):s.heap.FunFrames X.base X.outer:=by
 have all:∀ (l:List Env),(∀ b∈frs l,b∈X.fs)→X.s₀.heap.FunFrames X.base l→s.heap.FunFrames X.base l:=by
  intro l
  induction l with
  | nil=>intro _ _;trivial
  | cons env r ih =>
   intro hs hl
   obtain ⟨hk,⟨L,o,hf,hn,ho,hd⟩,hr⟩:=hl
   have hL:L∈X.fs:=hs L (by unfold frs;rw [List.filterMap_cons,hf];exact List.mem_cons_self)
   obtain ⟨sl,e⟩:=I.base.slot L o ho (I.ok.frf L hL) hL fun z=>I.ok.exfs L z hL
   exact ⟨hk,⟨L,_,hf,hn,e,hd⟩,ih (fun b hb=>hs b (by unfold frs;rw [List.filterMap_cons,hf];exact List.mem_cons_of_mem _ hb)) hr⟩
 exact all X.outer (fun _ hb=>hb) I.ok.funs
theorem Inv.stack (I:Inv X pins σ H s):s.heap.FunFrames X.base X.stack:=by
 rcases I.ok.stk with e | ⟨e,hf⟩
 ·rw [e];exact I.funs
 ·rw [e]
  obtain ⟨m,hn,_⟩:=I.loc
  refine .cons (by rw [I.ok.kind];decide) hf hn ?_ I.funs
  exact Heap.get?_none_of_le (Nat.le_trans I.ok.bsz I.ok.above)
theorem Inv.stkSub (I:Inv X pins σ H s):∀ b∈frs X.stack,b∈X.env.locals :: X.fs:=fun b hb=>by
 rcases I.ok.stk with e | ⟨e,hf⟩
 ·rw [e] at hb;exact List.mem_cons_of_mem _ hb
 ·rw [e] at hb
  unfold frs at hb
  rw [List.filterMap_cons,hf] at hb
  exact hb
theorem Inv.stkFree (I:Inv X pins σ H s):∀ b∈frs X.stack,H b=none:=fun b hb=>by
 rcases List.mem_cons.mp (I.stkSub b hb) with e | hb
 ·rw [e];exact I.free
 ·obtain ⟨_,o,ho,_⟩:=I.ok.funs.mem hb
  exact I.base.free b o ho (I.ok.frf b hb) fun z=>I.ok.exfs b z hb
theorem Inv.step {g':Array GenState} {t':Nat} {d':Drawn} {ch:List Addr} (I:Inv X pins σ H s)
  (hch:∀ b∈ch,(b∈X.ex∨X.s₀.heap.objs.size≤b)∧b≠X.env.locals∧(∀ x c,X.env.cells.lookup x=some c→c≠b)∧∀ p∈X.pn ++ pins,p.1≠b)
  (keep:∀ b o,b≠X.env.locals→b ∉ X.fs→b ∉ ch→s.heap.get? b=some o→H b=none→h'.get? b=some o)
  (slot:∀ b o,b≠X.env.locals→b∈X.fs→b ∉ ch→s.heap.get? b=some o→H b=none→∃ sl,h'.get? b=some { o with slots:=sl }) (free:∀ b o,b ∉ ch→s.heap.get? b=some o→H b=none→H' b=none)
  (there:∀ b o,b ∉ ch→s.heap.get? b=some o→∃ o',h'.get? b=some o')
  (tups:∀ b xs,H b=some (.tup xs)→H' b=some (.tup xs)) (frzs:∀ b o u,H b=some (.frz o u)→H' b=some (.frz o u)) (tbls:∀ b ps,H b=some (.tbl ps)→∃ more,H' b=some (.tbl (ps ++ more)))
  (ns:∀ m,s.heap.Ns X.env.locals m→h'.Ns X.env.locals m) (hok:HOk X.prog X.w H' h') (hg:AllBare g') :
  Inv X pins σ H' { s with heap:=h',gens:=g',drawn:=d',toks:=t' }:=by
 have neL:∀ b o,X.s₀.heap.get? b=some o→b≠X.env.locals:=fun b o e=>Nat.ne_of_lt (Nat.lt_of_lt_of_le (Heap.lt_size e) I.ok.above)
 have neC:∀ b o,X.s₀.heap.get? b=some o→b ∉ X.ex→b ∉ ch:=fun b o e hx hb=>by
  rcases (hch b hb).1 with z | z
  ·exact hx z
  ·exact absurd (Nat.lt_of_lt_of_le (Heap.lt_size e) z) (Nat.lt_irrefl _)
 have cellK:∀ x c,X.env.cells.lookup x=some c→∀ v,s.heap.IsCell c v→h'.IsCell c v:=fun x c e v ⟨o,ho,hd⟩=>by
  have nch:c ∉ ch:=fun z=>(hch c z).2.2.1 x c e rfl
  by_cases hc:c∈X.fs
  ·obtain ⟨sl,q⟩:=slot c o (I.cne x c e) hc nch ho (I.freeC x c e)
   exact ⟨_,q,hd⟩
  ·exact ⟨o,keep c o (I.cne x c e) hc nch ho (I.freeC x c e),hd⟩
 refine ⟨I.ok,I.os,hg,⟨fun b o e n hb hx=>?_,fun b o e n hb hx=>?_,fun b o e n hx=>?_,fun b o e hx=>?_,fun b xs e=>tups b xs (I.base.tups b xs e),fun b o xs e=>frzs b o xs (I.base.frzs b o xs e),fun b ps e=>?_⟩,?_,fun x c e=>?_,?_,fun x c e=>?_,fun p hp=>?_,hok,I.len⟩
 ·exact keep b o (neL b o e) hb (neC b o e hx) (I.base.keep b o e n hb hx) (I.base.free b o e n hx)
 ·obtain ⟨sl,e1⟩:=I.base.slot b o e n hb hx
  obtain ⟨sl',e2⟩:=slot b _ (neL b o e) hb (neC b o e hx) e1 (I.base.free b o e n hx)
  exact ⟨sl',e2⟩
 ·obtain ⟨o',e1⟩:=I.base.there b o e hx
  exact free b o' (neC b o e hx) e1 (I.base.free b o e n hx)
 ·obtain ⟨o',e1⟩:=I.base.there b o e hx
  exact there b o' (neC b o e hx) e1
 ·obtain ⟨m1,e1⟩:=I.base.tbls b ps e
  obtain ⟨m2,e2⟩:=tbls b _ e1
  exact ⟨m1 ++ m2,by rw [e2,Array.append_assoc]⟩
 ·obtain ⟨m,hn,hl⟩:=I.loc
  refine ⟨m,ns m hn,fun i x v e1 e2 e3=>?_⟩
  obtain ⟨u,r,l⟩:=hl i x v e1 e2 e3
  refine ⟨u,r,?_⟩
  rcases l with l | ⟨k,c,e,z⟩
  ·exact .inl l
  ·exact .inr ⟨k,c,e,cellK x c e _ z⟩
 ·obtain ⟨v,z⟩:=I.cell x c e
  exact ⟨v,cellK x c e v z⟩
 ·obtain ⟨m,⟨o,_,_,ho,_⟩,_⟩:=I.loc
  exact free _ o (fun z=>(hch _ z).2.1 rfl) ho I.free
 ·obtain ⟨v,o,ho,hd⟩:=I.cell x c e
  exact free c o (fun z=>(hch c z).2.2.1 x c e rfl) ho (I.freeC x c e)
 ·obtain ⟨e,n,ne,nf,d⟩:=I.pin p hp
  have nch:p.1 ∉ ch:=fun z=>(hch p.1 z).2.2.2 p hp rfl
  exact ⟨keep p.1 p.2 ne nf nch e n,free p.1 p.2 nch e n,ne,nf,d⟩
theorem Inv.un {t':Nat} (I:Inv X pins σ H s) (u:Un X.fs [] H H' s.heap h') (hok:HOk X.prog X.w H' h'):Inv X pins σ H' { s with heap:=h',toks:=t' }:=by
 obtain ⟨m,⟨o,es,ep,ho,r⟩,_⟩:=id I.loc
 obtain ⟨sl,hL⟩:=u.any ho I.free (by simp)
 exact I.step (g':=s.gens) (d':=s.drawn) (ch:=[]) (fun _ z=>nomatch z) (fun b o _ hb _ e n=>u.keep b o e n hb (by simp)) (fun b o _ hb _ e n=>u.slot b o e n hb (by simp)) (fun b o _ e n=>u.free b o e n (by simp)) (fun b o _ e=>u.there b o e (by simp)) u.tups u.frzs u.tbls (fun m' hm=>by
  obtain ⟨o',es',ep',ho',r'⟩:=hm
  rw [ho] at ho';cases ho'
  exact ⟨_,es',ep',hL,r'⟩) hok I.bare
theorem Inv.call {g':Array GenState} {t':Nat} {d':Drawn} {ch:List Addr} (I:Inv X pins σ H s) (u:Un (frs X.stack) ch H H' s.heap h') (hok:HOk X.prog X.w H' h') (hg:AllBare g')
  (hch:∀ b∈ch,(b∈X.ex∨X.s₀.heap.objs.size≤b)∧b≠X.env.locals∧(∀ x c,X.env.cells.lookup x=some c→c≠b)∧∀ p∈X.pn ++ pins,p.1≠b) :
  Inv X pins σ H' { s with heap:=h',gens:=g',drawn:=d',toks:=t' }:=by
 obtain ⟨m,⟨o,es,ep,ho,r⟩,_⟩:=id I.loc
 obtain ⟨sl,hL⟩:=u.any ho I.free fun z=>(hch _ z).2.1 rfl
 exact I.step (ch:=ch) hch (fun b o hL hb hc e n=>u.keep b o e n (fun z=>(List.mem_cons.mp (I.stkSub b z)).elim hL hb) hc) (fun b o _ _ hc e n=>u.any e n hc) (fun b o hc e n=>u.free b o e n hc) (fun b o hc e=>u.there b o e hc) u.tups u.frzs u.tbls (fun m' hm=>by
  obtain ⟨o',es',ep',ho',r'⟩:=hm
  rw [ho] at ho';cases ho'
  exact ⟨_,es',ep',hL,r'⟩) hok hg
theorem Inv.turned {t':Nat} {it:Addr} (I:Inv X pins σ H s) (k:∀ b o,b≠it→s.heap.get? b=some o→h'.get? b=some o) (hn:H it=none) (hL:it≠X.env.locals)
  (h1:it∈X.ex∨X.s₀.heap.objs.size≤it) (h2:∀ x c,X.env.cells.lookup x=some c→c≠it) (h3:∀ p∈X.pn ++ pins,p.1≠it):Inv X pins σ H { s with heap:=h',toks:=t' }:=by
 have nit:∀ b u,H b=some u→b≠it:=fun b u e z=>by rw [z,hn] at e;cases e
 refine I.step (g':=s.gens) (d':=s.drawn) (ch:=[it]) (fun b hb=>?_) (fun b o _ _ hc e _=>k b o (fun z=>hc (by simp [z])) e) (fun b o _ _ hc e _=>⟨o.slots,k b o (fun z=>hc (by simp [z])) e⟩) (fun _ _ _ _ n=>n)
  (fun b o hc e=>⟨o,k b o (fun z=>hc (by simp [z])) e⟩) (fun _ _ e=>e) (fun _ _ _ e=>e) (fun b ps e=>⟨#[],by rw [e];simp⟩) (fun m hm=>?_) (fun b u e=>?_) I.bare
 ·have e:b=it:=by simpa using hb
  subst e
  exact ⟨h1,hL,h2,h3⟩
 ·obtain ⟨o,es,ep,ho,r⟩:=hm
  exact ⟨o,es,ep,k _ o (Ne.symm hL) ho,r⟩
 ·refine (I.hok b u e).stay (fun c v hc q=>k c v ?_ q) (fun _ q=>q) fun _ _ q=>q
  rcases hc with z | z
  ·rw [z];exact nit b u e
  ·exact nit c _ z
theorem Inv.tok (I:Inv X pins σ H s) (t:Nat):Inv X pins σ H { s with toks:=t }:=I.un (h':=s.heap) (t':=t) Un.refl I.hok
theorem Inv.kept {t':Nat} (I:Inv X pins σ H s) (k:∀ b u,s.heap.get? b=some u→h'.get? b=some u):Inv X pins σ H { s with heap:=h',toks:=t' }:=I.un (Un.kept k) (I.hok.kept k)
theorem Inv.laid {a:Addr} {o:HO} {t':Nat} (I:Inv X pins σ H s) (k:∀ b u,s.heap.get? b=some u→h'.get? b=some u) (hp:s.heap.objs.size≤a) (new:ObjOk X.prog X.w (upd H a o) h' a o) :
  Inv X pins σ (upd H a o) { s with heap:=h',toks:=t' }:=I.un (Un.laid k hp (I.hok.fresh hp)) (I.hok.laid k hp new)
theorem Inv.write {x e:Addr} {o:HO} {t':Nat} (I:Inv X pins σ H s) (mu:Mut (H x)) (he:e=x∨H e=some (.own x)) (k:∀ b u,b≠e→s.heap.get? b=some u→h'.get? b=some u) (heo:∃ u,h'.get? e=some u)
  (new:ObjOk X.prog X.w (upd H x o) h' x o):Inv X pins σ (upd H x o) { s with heap:=h',toks:=t' }:=I.un (Un.write mu he k heo) (I.hok.write mu he k heo new)
theorem Inv.pins_of {pins':List (Addr×Obj)} (I:Inv X pins σ H s) (h:∀ p∈pins',s.heap.get? p.1=some p.2∧H p.1=none∧p.1≠X.env.locals∧p.1 ∉ X.fs∧∀ v,p.2.data≠.cell v):Inv X pins' σ H s :=
 ⟨I.ok,I.os,I.bare,I.base,I.loc,I.cell,I.free,I.freeC,fun p hp=>(List.mem_append.mp hp).elim (fun z=>I.pin p (List.mem_append_left _ z)) (h p),I.hok,I.len⟩
theorem ZaT {N:List Str} (hN:N.Nodup) {i j:Nat} {x:Str} (a:N[i]?=some x) (b:N[j]?=some x):i=j:=by
 obtain ⟨h1,e1⟩:=List.getElem?_eq_some_iff.mp a
 obtain ⟨h2,e2⟩:=List.getElem?_eq_some_iff.mp b
 exact (List.getElem_inj hN).mp (e1.trans e2.symm)
theorem yaX {M:Model} {A:Around} {E:Value→Shared→Prop} {i:Nat} {x:Str} {v:V} {u:Value} {Q:Unit→Shared→Prop} (I:Inv X pins σ H s) (hN:X.N.Nodup) (hi:X.N[i]?=some x) (hx:Loc X.env.scope x) (r:RelV v u)
  (h:∀ s',Inv X pins (σ.set i (some v)) H s'→(∃ a,Heap.SameBut a s.heap s'.heap∧(a=X.env.locals∨X.env.cells.lookup x=some a))→Q () s') (hf:X.fn x=true∨X.env.scope.names.lookup x=some .local:=by first | exact .inl rfl | exact .inr rfl | assumption):wpAny M A (storeName X.env x u) Q E s:=by
 obtain ⟨m,hn,hl⟩:=id I.loc
 have hcls:(X.env.scope.kind == .class || (X.env.scope.kind == .module && X.env.locals != X.env.globals))=false:=by rw [I.ok.kind];rfl
 have hiσ:i < σ.length:=by rw [I.len];exact (List.getElem?_eq_some_iff.mp hi).1
 have cne:=I.cne
 have tracked:∀ {a:Addr} {h':Heap},(∃ o,s.heap.get? a=some o∧H a=none)→Heap.SameBut a s.heap h'→HOk X.prog X.w H h':=fun {a h'} ha hs b ob e=>by
  obtain ⟨_,_,hfree⟩:=ha
  refine (I.hok b ob e).stay (fun c w' hc q=>(hs.2 c ?_).trans q) (fun _ q=>q) fun _ _ q=>q
  rintro rfl
  rcases hc with rfl | hc
  ·rw [hfree] at e;cases e
  ·rw [hfree] at hc;cases hc
 rcases hx with hk | hk
 ·refine wpAny_storeName_local hk hn (fun h' hn' hs=>?_) hcls
  obtain ⟨oL,_,_,hoL,_⟩:=id hn
  refine h _ ⟨I.ok,I.os,I.bare,⟨fun b o e n hb hx=>?_,fun b o e n hb hx=>?_,I.base.free,fun b o e hx=>?_,I.base.tups,I.base.frzs,I.base.tbls⟩,⟨_,hn',fun j y v' e1 e2 e3=>?_⟩,fun y c e=>?_,I.free,I.freeC,fun p hp=>?_,tracked ⟨oL,hoL,I.free⟩ hs,by simpa using I.len⟩ ⟨_,hs,.inl rfl⟩
  ·exact (hs.2 b (Nat.ne_of_lt (Nat.lt_of_lt_of_le (Heap.lt_size e) I.ok.above))).trans (I.base.keep b o e n hb hx)
  ·obtain ⟨sl,e1⟩:=I.base.slot b o e n hb hx
   exact ⟨sl,(hs.2 b (Nat.ne_of_lt (Nat.lt_of_lt_of_le (Heap.lt_size e) I.ok.above))).trans e1⟩
  ·obtain ⟨o',e1⟩:=I.base.there b o e hx
   exact ⟨o',(hs.2 b (Nat.ne_of_lt (Nat.lt_of_lt_of_le (Heap.lt_size e) I.ok.above))).trans e1⟩
  ·by_cases hj:j=i
   ·subst hj
    rw [hi] at e1;cases e1
    rw [List.getElem?_set_self hiσ] at e2
    cases e2
    exact ⟨u,r,.inl ⟨hk,by simp⟩⟩
   ·rw [List.getElem?_set_ne (Ne.symm hj)] at e2
    obtain ⟨u',r',q⟩:=hl j y v' e1 e2 e3
    refine ⟨u',r',?_⟩
    rcases q with ⟨k,e⟩ | ⟨k,c,e,z⟩
    ·refine .inl ⟨k,?_⟩
     have:y≠x:=fun e=>hj (ZaT hN e1 (e ▸ hi))
     simp [this,e]
    ·exact .inr ⟨k,c,e,z.sameBut hs (cne y c e)⟩
  ·obtain ⟨w',z⟩:=I.cell y c e
   exact ⟨w',z.sameBut hs (cne y c e)⟩
  ·obtain ⟨e,n,ne,nf,d⟩:=I.pin p hp
   exact ⟨(hs.2 p.1 ne).trans e,n,ne,nf,d⟩
 ·have hfn:X.fn x=true:=by
   rcases hf with z | z
   ·exact z
   ·rw [z] at hk;cases hk
  obtain ⟨c,hc⟩:=I.ok.has x (.inl hk)
  obtain ⟨w',z⟩:=I.cell x c hc
  refine wpAny_storeName_cell I.ok.kind hk hc z (fun h' hc' hs=>?_)
  obtain ⟨oc,hoc,hocd⟩:=id z
  refine h { s with heap:=h' } ⟨I.ok,I.os,I.bare,⟨fun b o e n hb hx=>?_,fun b o e n hb hx=>?_,I.base.free,fun b o e hx=>?_,I.base.tups,I.base.frzs,I.base.tbls⟩,⟨m,hn.sameBut hs (Ne.symm (cne x c hc)),fun j y v' e1 e2 e3=>?_⟩,fun y c' e=>?_,I.free,I.freeC,fun p hp=>?_,tracked ⟨oc,hoc,I.freeC x c hc⟩ hs,by simpa using I.len⟩ ⟨c,hs,.inr hc⟩
  ·exact (hs.2 b (Nat.ne_of_lt (Nat.lt_of_lt_of_le (Heap.lt_size e) (I.ok.cab x c hfn hc)))).trans (I.base.keep b o e n hb hx)
  ·obtain ⟨sl,e1⟩:=I.base.slot b o e n hb hx
   exact ⟨sl,(hs.2 b (Nat.ne_of_lt (Nat.lt_of_lt_of_le (Heap.lt_size e) (I.ok.cab x c hfn hc)))).trans e1⟩
  ·obtain ⟨o',e1⟩:=I.base.there b o e hx
   exact ⟨o',(hs.2 b (Nat.ne_of_lt (Nat.lt_of_lt_of_le (Heap.lt_size e) (I.ok.cab x c hfn hc)))).trans e1⟩
  ·by_cases hj:j=i
   ·subst hj
    rw [hi] at e1;cases e1
    rw [List.getElem?_set_self hiσ] at e2
    cases e2
    exact ⟨u,r,.inr ⟨.inl hk,c,hc,hc'⟩⟩
   ·rw [List.getElem?_set_ne (Ne.symm hj)] at e2
    obtain ⟨u',r',q⟩:=hl j y v' e1 e2 e3
    refine ⟨u',r',?_⟩
    rcases q with q | ⟨k,c',e,z'⟩
    ·exact .inl q
    ·refine .inr ⟨k,c',e,z'.sameBut hs ?_⟩
     rintro rfl
     exact hj (ZaT hN e1 (I.ok.inj _ _ _ e hc ▸ hi))
  ·by_cases hcc:c'=c
   ·subst hcc;exact ⟨_,hc'⟩
   ·obtain ⟨w2,z2⟩:=I.cell y c' e
    exact ⟨w2,z2.sameBut hs hcc⟩
  ·obtain ⟨e,n,ne,nf,d⟩:=I.pin p hp
   refine ⟨(hs.2 p.1 ?_).trans e,n,ne,nf,d⟩
   intro q
   rw [q,hoc] at e
   have q':oc=p.2:=Option.some.inj e
   exact d w' (by rw [← q'];exact hocd)
theorem ZaF {M:Model} {A:Around} {E:Value→Shared→Prop} {i:Nat} {x:Str} {v:V} {u:Value} {Q:Unit→Shared→Prop} (I:Inv X pins σ H s) (hN:X.N.Nodup) (hi:X.N[i]?=some x) (hx:Loc X.env.scope x) (r:RelV v u)
  (h:∀ s',Inv X pins (σ.set i (some v)) H s'→Q () s') (hf:X.fn x=true∨X.env.scope.names.lookup x=some .local:=by first | exact .inl rfl | exact .inr rfl | assumption):wpAny M A (storeName X.env x u) Q E s :=
 yaX I hN hi hx r (fun s' I' _=>h s' I') hf
theorem Inv.call' {s':Shared} {ch:List Addr} (I:Inv X pins σ H s) (ho:s'.os=s.os) (u:Un (frs X.stack) ch H H' s.heap s'.heap) (hok:HOk X.prog X.w H' s'.heap) (hg:AllBare s'.gens)
  (hch:∀ b∈ch,(b∈X.ex∨X.s₀.heap.objs.size≤b)∧b≠X.env.locals∧(∀ x c,X.env.cells.lookup x=some c→c≠b)∧∀ p∈X.pn ++ pins,p.1≠b):Inv X pins σ H' s':=by
 obtain ⟨h',g',d',t',o'⟩:=s'
 have e:o'=s.os:=ho
 subst e
 exact I.call (g':=g') (t':=t') (d':=d') u hok hg hch
end
abbrev XK:=Value→Option Addr→Hp→Prop
abbrev St:=List (Option V)
abbrev VK:=V→Hp→Prop
abbrev TE:=St→Hp→VK→Prop
abbrev TT:=St→Hp→(Bool→Hp→Prop)→Prop
abbrev TA:=St→Hp→(List V→Hp→Prop)→Prop
set_option genInjectivity false in
structure Ends where
 nx:St→Hp→Prop
 rt:VK
 bk:St→Hp→Prop:=fun _ _=>False
 ct:St→Hp→Prop:=fun _ _=>False
abbrev TS:=Ends→St→Hp→Prop
noncomputable def EP (X:Cx) (pins:List (Addr×Obj)) (σ:St) (Q:VK) (u:Value) (s':Shared):Prop:=∃ v H',Inv X pins σ H' s'∧RelV v u∧Q v H'
noncomputable def TP (X:Cx) (pins:List (Addr×Obj)) (σ:St) (Q:Bool→Hp→Prop) (b:Bool) (s':Shared):Prop:=∃ H',Inv X pins σ H' s'∧Q b H'
noncomputable def AP (X:Cx) (pins:List (Addr×Obj)) (σ:St) (Q:List V→Hp→Prop) (us:List Value) (s':Shared):Prop:=∃ vs H',Inv X pins σ H' s'∧Vals vs us∧Q vs H'
noncomputable def SP (X:Cx) (pins:List (Addr×Obj)) (D:Ends) (f:Flow) (s':Shared):Prop :=
 match f with
 | .next=>∃ σ' H',Inv X pins σ' H' s'∧D.nx σ' H'
 | .brk=>∃ σ' H',Inv X pins σ' H' s'∧D.bk σ' H'
 | .cont=>∃ σ' H',Inv X pins σ' H' s'∧D.ct σ' H'
 | .ret u=>∃ v σ' H',Inv X pins σ' H' s'∧RelV v u∧D.rt v H'
noncomputable def PE (X:Cx) (e:Expr) (t:TE):Prop :=
 ∀ (pins:List (Addr×Obj)) (s:Shared) (σ:St) (H:Hp) (Q:VK),Inv X pins σ H s→t σ H Q→wpAny (model X.prog X.w) X.A (eval e X.env) (EP X pins σ Q) X.xe s
noncomputable def PT (X:Cx) (e:Expr) (t:TT):Prop :=
 ∀ (pins:List (Addr×Obj)) (s:Shared) (σ:St) (H:Hp) (Q:Bool→Hp→Prop),Inv X pins σ H s→t σ H Q→wpAny (model X.prog X.w) X.A (isTrue e X.env (eval e X.env)) (TP X pins σ Q) X.xe s
noncomputable def PW (X:Cx) (e:Expr) (t:TT):Prop :=
 ∀ (whole:Sem Value) (pins:List (Addr×Obj)) (s:Shared) (σ:St) (H:Hp) (Q:Bool→Hp→Prop),Inv X pins σ H s→t σ H Q→wpAny (model X.prog X.w) X.A (isTrue e X.env whole) (TP X pins σ Q) X.xe s
theorem PW.pt {X:Cx} {e:Expr} {t:TT} (h:PW X e t):PT X e t:=h _
noncomputable def PA (X:Cx) (es:List Expr) (t:TA):Prop :=
 ∀ (pos:Pos) (pins:List (Addr×Obj)) (s:Shared) (σ:St) (H:Hp) (Q:List V→Hp→Prop),Inv X pins σ H s→t σ H Q→wpAny (model X.prog X.w) X.A (spliced (backTo pos (starEach es X.env))) (AP X pins σ Q) X.xe s
noncomputable def PS (X:Cx) (st:Stmt) (t:TS):Prop :=
 ∀ (pins:List (Addr×Obj)) (s:Shared) (σ:St) (H:Hp) (D:Ends),Inv X pins σ H s→t D σ H→wpAny (model X.prog X.w) X.A (exec st X.env) (SP X pins D) X.xe s
noncomputable def PSs (X:Cx) (st:List Stmt) (t:TS):Prop :=
 ∀ (pins:List (Addr×Obj)) (s:Shared) (σ:St) (H:Hp) (D:Ends),Inv X pins σ H s→t D σ H→wpAny (model X.prog X.w) X.A (execs st X.env) (SP X pins D) X.xe s
theorem thn {α:Type} {t:Sem α} {Q Q':α→Shared→Prop} {M:Model} {A:Around} {E:Value→Shared→Prop} {s:Shared} (h:wpAny M A t Q E s) (hQ:∀ a s,Q a s→Q' a s):wpAny M A t Q' E s:=wpAny_mono h hQ fun _ _ x=>x
end L2
namespace L2
open PySem PySem.Spec PyProof.Rows
section
variable {X:Cx}
theorem bin {a b:Expr} {ta tb:TE} (ha:PE X a ta) (hb:PE X b tb) {pins:List (Addr×Obj)} {s:Shared} {σ:St} {H:Hp} {R:V→V→Hp→Prop} (I:Inv X pins σ H s) (h:ta σ H fun x H1=>tb σ H1 fun y H2=>R x y H2)
  {α:Type} {Q:α→Shared→Prop} {f:Value→Value→Sem α}
  (hf:∀ v u s2 x y H2,Inv X pins σ H2 s2→RelV x v→RelV y u→R x y H2→wpAny (model X.prog X.w) X.A (f v u) Q X.xe s2) :
  wpAny (model X.prog X.w) X.A (eval a X.env) (fun v s₁=>wpAny (model X.prog X.w) X.A (eval b X.env) (fun u s₂=>wpAny (model X.prog X.w) X.A (f v u) Q X.xe s₂) X.xe s₁) X.xe s:=by
 refine thn (ha pins s σ H _ I h) fun v s1 ⟨x,H1,I1,r1,q1⟩=>?_
 refine thn (hb pins s1 σ H1 _ I1 q1) fun u s2 ⟨y,H2,I2,r2,q2⟩=>?_
 exact hf v u s2 x y H2 I2 r1 r2 q2
noncomputable def tVar (i:Nat):TE:=fun σ H Q=>∃ v,σ[i]?=some (some v)∧Q v H
noncomputable def tC (v:V):TE:=fun _ H Q=>Q v H
theorem pe_var {i:Nat} {x:Str} {pos:Pos} (hN:X.N[i]?=some x) (hv:Vis X.env.scope x) (hd:(x == ("__debug__" : Str))=false:=by decide) (hcd:(x == ("__classdict__" : Str))=false:=by decide):PE X (.Name x pos) (tVar i):=by
 intro pins s σ H Q I h
 obtain ⟨v,e,h⟩:=h
 obtain ⟨m,hn,hl⟩:=I.loc
 obtain ⟨u,r,l⟩:=hl i x v hN e hv
 have fin:EP X pins σ Q u s:=⟨v,H,I,r,h⟩
 rcases l with ⟨hk,hm⟩ | ⟨hk,c,hc,hcell⟩
 ·exact wpAny_Name (wpAny_loadName_local I.ok.kind hk hn hm fin) hd
 ·rcases hk with hk | hk
  ·exact wpAny_Name (wpAny_loadName_cell I.ok.kind hk hc hcell fin) hd
  ·exact wpAny_Name (wpAny_loadName_free I.ok.kind hk hc hcell fin hcd) hd
theorem zac {i j pos}:PE X (.Constant (.int i) j pos) (tC (.int i)):=fun _ _ _ H _ I h=>wpAny_Constant_int ⟨.int i,H,I.tok _,⟨_,rfl⟩,h⟩
theorem ybr {b j pos}:PE X (.Constant (.bool b) j pos) (tC (.bl b)):=fun _ _ _ H _ I h=>Constant_bool ⟨.bl b,H,I,rfl,h⟩
theorem ZaI {j pos}:PE X (.Constant .none j pos) (tC .non):=fun _ _ _ H _ I h=>Constant_none ⟨.non,H,I,rfl,h⟩
theorem XaD {x j pos}:PE X (.Constant (.str x) j pos) (tC (.str x)):=fun _ _ _ H _ I h=>Calls.Constant_str ⟨.str x,H,I.tok _,⟨_,rfl⟩,h⟩
noncomputable def Gl (X:Cx) (x:Str):Prop:=X.env.kindOf x=some .globalImplicit
theorem YaK {E:Value→Shared→Prop} {pins:List (Addr×Obj)} {s:Shared} {σ:St} {H:Hp} {x:Str} {u:Value} {pos:Pos} {Q:Value→Shared→Prop} (I:Inv X pins σ H s) (hg:Gl X x) (hm:X.mg x=some u) (h:Q u s)
  (hd:(x == ("__debug__" : Str))=false:=by decide):wpAny (model X.prog X.w) X.A (eval (.Name x pos) X.env) Q E s :=
 Calls.Name_function_global I.ok.kind hg (Calls.loadGlobal_global (by rw [I.ok.glob];exact I.mod.glob.keeps I.bk) hm h) hd
theorem ZaR {E:Value→Shared→Prop} {pins:List (Addr×Obj)} {s:Shared} {σ:St} {H:Hp} {x:Str} {u:Value} {pos:Pos} {Q:Value→Shared→Prop} (I:Inv X pins σ H s) (hg:Gl X x) (hm:X.mg x=none) (hv:bootBuiltins x=some u) (h:Q u s)
  (hn:x≠"__name__" := by decide) (hd:(x == ("__debug__" : Str))=false:=by decide):wpAny (model X.prog X.w) X.A (eval (.Name x pos) X.env) Q E s:=by
 obtain ⟨mb,h1,h2⟩:=I.mod.blt
 exact Calls.Name_function_global I.ok.kind hg (Calls.loadGlobal_builtin (by rw [I.ok.glob];exact I.mod.glob.keeps I.bk) hm (by rw [I.ok.blt];exact h1.keeps I.bk) ((h2 x hn).trans hv) h) hd
theorem ybe {x:Str} {v:V} {u:Value} {pos:Pos} (hg:Gl X x) (hm:X.mg x=some u) (r:RelV v u) (hd:(x == ("__debug__" : Str))=false:=by decide):PE X (.Name x pos) (tC v) :=
 fun _ _ _ H _ I h=>YaK I hg hm ⟨v,H,I,r,h⟩ hd
theorem ZbD {x:Str} {v:V} {u:Value} {pos:Pos} (hg:Gl X x) (hm:X.mg x=none) (hv:bootBuiltins x=some u) (r:RelV v u) (hn:x≠"__name__" := by decide) (hd:(x == ("__debug__" : Str))=false:=by decide):PE X (.Name x pos) (tC v) :=
 fun _ _ _ H _ I h=>ZaR I hg hm hv ⟨v,H,I,r,h⟩ hn hd
variable {a b:Expr} {ta tb:TE} {pos:Pos}
noncomputable def PC (X:Cx) (op:CmpOp) (a b:Expr) (t:TE):Prop :=
 ∀ (pins:List (Addr×Obj)) (s:Shared) (σ:St) (H:Hp) (Q:VK),Inv X pins σ H s→t σ H Q →
  wpAny (model X.prog X.w) X.A (eval a X.env) (fun v s₁=>wpAny (model X.prog X.w) X.A (eval b X.env) (fun u s₂=>wpAny (model X.prog X.w) X.A (compareOp op v u) (EP X pins σ Q) X.xe s₂) X.xe s₁) X.xe s
theorem nobehind (b:Expr) {op:CmpOp} (h:op≠.In) (h2:op≠.NotIn):behindInMarks op b=false:=by
 have e1:(op == CmpOp.In)=false:=by cases op <;> first | rfl | exact absurd rfl h
 have e2:(op == CmpOp.NotIn)=false:=by cases op <;> first | rfl | exact absurd rfl h2
 cases b <;> simp [behindInMarks,e1,e2]
noncomputable def tB (t:TE):TT:=fun σ H Q=>t σ H fun x H1=>∃ c,x=.bl c∧Q c H1
theorem pt_cmp {op:CmpOp} {t:TE} (h:PC X op a b t) (h1:behindInMarks op b=false:=by first | exact nobehind _ (by decide) (by decide) | rfl):PT X (.Compare a [op] [b] pos) (tB t):=by
 intro pins s σ H Q I hw
 refine wpAny_isTrue_Compare1 (thn (h pins s σ H _ I hw) fun v s1 h1=>thn h1 fun u s2 h2=>thn h2 fun c s3 ⟨x,H1,I1,r1,q1⟩=>?_) h1
 obtain ⟨d,rfl,q⟩:=q1
 cases r1
 exact wpAny_truthy_bool ⟨H1,I1,q⟩
theorem Zbe {e:Expr} {t:TE} (h:PE X e t) (he:∀ whole,isTrue e X.env whole=(do let v ← whole;standAt e.pos;holding [v] (truthy v)):=by intro _;rfl):PT X e (tB t):=by
 intro pins s σ H Q I hw
 refine isTrue_plain (thn (h pins s σ H _ I hw) fun v s1 ⟨x,H1,I1,r1,q1⟩=>?_) (he _)
 obtain ⟨d,rfl,q⟩:=q1
 cases r1
 exact wpAny_truthy_bool ⟨H1,I1,q⟩
variable {tA tB':TT} {rest:List Expr}
noncomputable def tOr (t u:TT):TT:=fun σ H Q=>t σ H fun c H1=>if c=true then Q true H1 else u σ H1 Q
noncomputable def tNot (t:TT):TT:=fun σ H Q=>t σ H fun c H1=>Q (!c) H1
theorem xaK (ha:PT X a tA):PW X (.BoolOp .Or [a] pos) tA:=by
 intro wh pins s σ H Q I h
 refine isTrue_or (thn (ha pins s σ H Q I h) fun c s1 e=>?_)
 cases c with
 | false=>exact isTrue_or_nil e
 | true=>exact e
theorem XaK (ha:PT X a tA) (hb:PW X (.BoolOp .Or (b :: rest) pos) tB'):PW X (.BoolOp .Or (a :: b :: rest) pos) (tOr tA tB'):=by
 intro wh pins s σ H Q I h
 refine isTrue_or (thn (ha pins s σ H _ I h) fun c s1 ⟨H1,I1,q1⟩=>?_)
 cases c with
 | true=>exact ⟨H1,I1,q1⟩
 | false=>exact hb wh pins s1 σ H1 Q I1 q1
theorem Ybe (ha:PT X a tA):PT X (.UnaryOp .Not a pos) (tNot tA):=by
 intro pins s σ H Q I h
 exact isTrue_not (ha pins s σ H (fun c H1=>Q (!c) H1) I h)
end
end L2
namespace L2
open PySem PySem.Spec PyProof.Rows
noncomputable def SqL (K:PySem.W.Frag) (H:Hp) (a:Addr) (xs:List V):Prop :=
 Rd H a (.lst xs) ∨
  ∃ (o:Obj) (its:Array Value) (n:Nat),K.lookup a=some o∧o.cls=.type "list" ∧ o.dict=none∧o.data=.seq its n∧its.size≤sizeLine∧Vals xs its.toList
noncomputable def SqT (K:PySem.W.Frag) (H:Hp) (a:Addr) (xs:List V):Prop :=
 Rd H a (.tup xs) ∨
  ∃ (o:Obj) (its:Array Value) (n:Nat),K.lookup a=some o∧o.cls=.type "tuple" ∧ o.dict=none∧o.data=.seq its n∧its.size≤sizeLine∧Vals xs its.toList
noncomputable def absV:Value→Option V
 | .none=>some .non
 | .bool b=>some (.bl b)
 | .int i _=>some (.int i)
 | .str x _=>some (.str x)
 | .bytes b _=>some (.byt b)
 | .float b _=>some (.flt b)
 | .ref a=>some (.ref a)
 | .type n=>some (.ty n)
 | _=>none
theorem RelV.abs {x:V} {u:Value} (r:RelV x u):absV u=some x:=by
 cases x with
 | non=>cases r;rfl
 | bl _=>cases r;rfl
 | int _=>obtain ⟨t,rfl⟩:=r;rfl
 | str _=>obtain ⟨t,rfl⟩:=r;rfl
 | byt _=>obtain ⟨t,rfl⟩:=r;rfl
 | flt _=>obtain ⟨t,rfl⟩:=r;rfl
 | ref _=>cases r;rfl
 | ty _=>cases r;rfl
theorem RelV.inj {x y:V} {u:Value} (r:RelV x u) (q:RelV y u):x=y:=Option.some.inj (r.abs.symm.trans q.abs)
theorem Vals.inj:∀ {xs ys:List V} {us:List Value},Vals xs us→Vals ys us→xs=ys
 | _,_,_,.nil,.nil=>rfl
 | _,_,_,.cons r t,.cons r' t'=>by rw [r.inj r',Vals.inj t t']
section
variable {X:Cx} {pins:List (Addr×Obj)} {σ:St} {H:Hp} {s:Shared} {a:Addr} {xs ys:List V}
theorem SqT.of {K:PySem.W.Frag} (h:H a=some (.tup xs)):SqT K H a xs:=.inl (.inl h)
theorem Inv.list (I:Inv X pins σ H s) (h:SqL X.K H a xs):∃ its:List Value,Vals xs its∧PlainL s.heap a its.toArray∧xs.length≤sizeLine:=by
 rcases h with h | ⟨o,its,n,hk,hc,hd,hs,hz,r⟩
 ·obtain ⟨z,its,n,r,e⟩:=h.ok I.hok
  exact ⟨its,r,⟨_,n,e,rfl,rfl,rfl⟩,z⟩
 ·refine ⟨its.toList,r,⟨o,n,I.kIn a o hk,hc,hd,by simpa using hs⟩,?_⟩
  have e:=r.length
  simp only [Array.length_toList] at e
  omega
theorem Inv.tupleP (I:Inv X pins σ H s) (h:SqT X.K H a xs):∃ its:List Value,Vals xs its∧PTup s.heap a its.toArray∧xs.length≤sizeLine:=by
 rcases h with h | ⟨o,its,n,hk,hc,hd0,hs,hz,r⟩
 ·obtain ⟨z,its,r,p⟩:=h.ok I.hok
  exact ⟨its,r,p,z⟩
 ·refine ⟨its.toList,r,⟨o,I.kIn a o hk,hc,hd0,n,by simpa using hs⟩,?_⟩
  have e:=r.length
  simp only [Array.length_toList] at e
  omega
theorem Inv.tuple (I:Inv X pins σ H s) (h:SqT X.K H a xs):∃ its:List Value,Vals xs its∧IsTup s.heap a its.toArray∧xs.length≤sizeLine :=
 let ⟨its,r,p,z⟩:=I.tupleP h
 ⟨its,r,p.tup,z⟩
theorem Inv.list_inj (I:Inv X pins σ H s) (h:SqL X.K H a xs) (h':SqL X.K H a ys):xs=ys:=by
 obtain ⟨its,r,⟨o,n,e,_,_,d⟩,_⟩:=I.list h
 obtain ⟨its',r',⟨o',n',e',_,_,d'⟩,_⟩:=I.list h'
 rw [e] at e';cases e'
 rw [d] at d'
 injection d' with d1 _
 have:its=its':=by simpa using congrArg Array.toList d1
 subst this
 exact r.inj r'
theorem Inv.tuple_inj (I:Inv X pins σ H s) (h:SqT X.K H a xs) (h':SqT X.K H a ys):xs=ys:=by
 obtain ⟨its,r,⟨o,e,_,n,d⟩,_⟩:=I.tuple h
 obtain ⟨its',r',⟨o',e',_,n',d'⟩,_⟩:=I.tuple h'
 rw [e] at e';cases e'
 rw [d] at d'
 injection d' with d1 _
 have:its=its':=by simpa using congrArg Array.toList d1
 subst this
 exact r.inj r'
end
abbrev Cx.wish (X:Cx) (E:Value→Shared→Prop):Cx:={ X with xe:=E }
abbrev Cx.nox (X:Cx):Cx:=X.wish fun _ _=>False
theorem Cx.Ok.wish {X:Cx} (ok:X.Ok) (E:Value→Shared→Prop):(X.wish E).Ok :=
 ⟨ok.mod,ok.kind,ok.glob,ok.blt,ok.above,ok.inj,ok.has,ok.cab,ok.hd,ok.frames,ok.stk,ok.exf,ok.bs,ok.bsz,ok.noex,ok.exfs,ok.funs,ok.frf⟩
theorem Cx.Ok.unwish {X:Cx} {E:Value→Shared→Prop} (ok:(X.wish E).Ok):X.Ok :=
 ⟨ok.mod,ok.kind,ok.glob,ok.blt,ok.above,ok.inj,ok.has,ok.cab,ok.hd,ok.frames,ok.stk,ok.exf,ok.bs,ok.bsz,ok.noex,ok.exfs,ok.funs,ok.frf⟩
section
variable {X:Cx} {pins:List (Addr×Obj)} {σ:St} {H:Hp} {s:Shared} {E:Value→Shared→Prop}
theorem Inv.wish (I:Inv X pins σ H s) (E:Value→Shared→Prop):Inv (X.wish E) pins σ H s:=⟨I.ok.wish E,I.os,I.bare,I.base,I.loc,I.cell,I.free,I.freeC,I.pin,I.hok,I.len⟩
theorem Inv.unwish (I:Inv (X.wish E) pins σ H s):Inv X pins σ H s:=⟨I.ok.unwish,I.os,I.bare,I.base,I.loc,I.cell,I.free,I.freeC,I.pin,I.hok,I.len⟩
theorem SP.unwish {D:Ends} {f:Flow} {s':Shared} (h:SP (X.wish E) pins D f s'):SP X pins D f s':=by
 cases f with
 | next=>obtain ⟨σ',H',I,q⟩:=h;exact ⟨σ',H',I.unwish,q⟩
 | brk=>obtain ⟨σ',H',I,q⟩:=h;exact ⟨σ',H',I.unwish,q⟩
 | cont=>obtain ⟨σ',H',I,q⟩:=h;exact ⟨σ',H',I.unwish,q⟩
 | ret u=>obtain ⟨v,σ',H',I,r,q⟩:=h;exact ⟨v,σ',H',I.unwish,r,q⟩
theorem PSs.nox {st:List Stmt} {t:TS} (h:PSs X.nox st t):PSs X st t:=fun pins s σ H D I hw =>
 wpAny_mono (h pins s σ H D (I.wish _) hw) (fun _ _ q=>q.unwish) fun _ _ z=>False.elim z
end
section
variable {X:Cx} {st:Stmt} {rest:List Stmt} {t u:TS} {e:Expr} {te:TE} {pos:Pos}
noncomputable def tNext:TS:=fun D σ H=>D.nx σ H
noncomputable def tSeq (t u:TS):TS:=fun D σ H=>t { D with nx:=u D } σ H
theorem Xag:PSs X [] tNext:=fun _ _ σ H _ I h=>wpAny_execs_nil ⟨σ,H,I,h⟩
theorem yab (h1:PS X st t) (h2:PSs X rest u):PSs X (st :: rest) (tSeq t u):=by
 intro pins s σ H D I h
 refine wpAny_execs_cons (thn (h1 pins s σ H { D with nx:=u D } I h) fun f s1 q=>?_)
 cases f with
 | next =>
  obtain ⟨σ',H',I',q⟩:=q
  exact h2 pins s1 σ' H' D I' q
 | ret v=>exact q
 | brk=>exact q
 | cont=>exact q
theorem Xac (h1:PS X st t):PSs X [st] t:=by
 intro pins s σ H D I h
 refine wpAny_execs_cons (thn (h1 pins s σ H D I h) fun f s1 q=>?_)
 cases f with
 | next=>exact wpAny_execs_nil q
 | ret v=>exact q
 | brk=>exact q
 | cont=>exact q
theorem Inv.quiet {pins:List (Addr×Obj)} {σ:St} {H:Hp} {s:Shared} (I:Inv X pins σ H s):interactive X.env=false:=by simp [interactive,I.ok.kind]
noncomputable def tDrop (te:TE):TS:=fun D σ H=>te σ H fun _ H1=>D.nx σ H1
theorem xaG (he:PE X e te) (hs:swapsWith e none pos.line X.env=pure false:=by rfl):PS X (.Expr e pos) (tDrop te):=by
 intro pins s σ H D I h
 exact wpAny_Expr_any (thn (he pins s σ H _ I h) fun v s1 ⟨x,H1,I1,r1,q1⟩=>⟨σ,H1,I1,q1⟩) I.quiet hs
noncomputable def tRet (te:TE):TS:=fun D σ H=>te σ H D.rt
theorem Yai (he:PE X e te):PS X (.Return (some e) pos) (tRet te):=by
 intro pins s σ H D I h
 exact wpAny_Return_some (thn (he pins s σ H _ I h) fun v s1 ⟨x,H1,I1,r1,q1⟩=>⟨x,σ,H1,I1,r1,q1⟩)
noncomputable def tIfS (c:TT) (t u:TS):TS:=fun D σ H=>c σ H fun b H1=>if b=true then t D σ H1 else u D σ H1
theorem yau {c:Expr} {a b:List Stmt} {tc:TT} (hc:PT X c tc) (ha:PSs X a t) (hb:PSs X b u):PS X (.If c a b pos) (tIfS tc t u):=by
 intro pins s σ H D I h
 refine wpAny_If (thn (hc pins s σ H _ I h) fun d s1 ⟨H1,I1,q1⟩=>?_)
 cases d with
 | true=>exact ha pins s1 σ H1 D I1 q1
 | false=>exact hb pins s1 σ H1 D I1 q1
end
abbrev TG:=V→St→Hp→(St→Hp→Prop)→Prop
abbrev TGs:=List V→St→Hp→(St→Hp→Prop)→Prop
noncomputable def PG (X:Cx) (target:Expr) (t:TG):Prop :=
 ∀ (pins:List (Addr×Obj)) (s:Shared) (σ:St) (H:Hp) (v:V) (u:Value) (Q:St→Hp→Prop),Inv X pins σ H s→RelV v u→t v σ H Q →
  wpAny (model X.prog X.w) X.A (assign target X.env u) (fun _ s'=>∃ σ' H',Inv X pins σ' H' s'∧Q σ' H') X.xe s
noncomputable def PGs (X:Cx) (ts:List Expr) (t:TGs):Prop :=
 ∀ (pins:List (Addr×Obj)) (s:Shared) (σ:St) (H:Hp) (vs:List V) (us:List Value) (Q:St→Hp→Prop),Inv X pins σ H s→Vals vs us→t vs σ H Q →
  wpAny (model X.prog X.w) X.A (assignInOrder ((assignEach ts X.env).map (·.2)) us) (fun _ s'=>∃ σ' H',Inv X pins σ' H' s'∧Q σ' H') X.xe s
abbrev TSet:=V→V→V→Hp→(Hp→Prop)→Prop
noncomputable def PSet (X:Cx) (t:TSet):Prop :=
 ∀ (pins:List (Addr×Obj)) (s:Shared) (σ:St) (H:Hp) (o i v:V) (ov iv u:Value) (Q:Hp→Prop),Inv X pins σ H s→RelV o ov→RelV i iv→RelV v u→t o i v H Q →
  wpAny (model X.prog X.w) X.A (setItem ov iv u) (fun _ s'=>∃ H',Inv X pins σ H' s'∧Q H') X.xe s
section
variable {X:Cx} {pos:Pos}
noncomputable def gName (i:Nat):TG:=fun v σ H Q=>Q (σ.set i (some v)) H
theorem Yak {i:Nat} {x:Str} (hN:X.N.Nodup) (hi:X.N[i]?=some x) (hx:Loc X.env.scope x) (hf:X.fn x=true∨X.env.scope.names.lookup x=some .local:=by first | exact .inl rfl | exact .inr rfl | assumption):PG X (.Name x pos) (gName i):=by
 intro pins s σ H v u Q I r h
 exact wpAny_assign_Name (ZaF I hN hi hx r (fun s' I'=>⟨_,H,I',h⟩) hf)
noncomputable def gNil:TGs:=fun vs σ H Q=>vs=[]∧Q σ H
noncomputable def gCons (t:TG) (u:TGs):TGs:=fun vs σ H Q=>∃ v r,vs=v :: r∧t v σ H fun σ' H'=>u r σ' H' Q
theorem zaL:PGs X [] gNil:=by
 intro pins s σ H vs us Q I r h
 obtain ⟨e,h⟩:=h
 subst e
 cases r
 exact assignInOrder_nil ⟨σ,H,I,h⟩
theorem Zat {e:Expr} {es:List Expr} {t:TG} {u:TGs} (h1:PG X e t) (h2:PGs X es u)
  (hs:(assignEach (e :: es) X.env).map (·.2)=assign e X.env :: (assignEach es X.env).map (·.2):=by rfl):PGs X (e :: es) (gCons t u):=by
 intro pins s σ H vs us Q I r h
 obtain ⟨v,vr,e1,h⟩:=h
 subst e1
 cases r with
 | cons r rr =>
  rw [hs]
  refine assignInOrder_cons (thn (h1 pins s σ H _ _ _ I r h) fun _ s1 ⟨σ1,H1,I1,q1⟩=>?_)
  exact h2 pins s1 σ1 H1 _ _ Q I1 rr q1
noncomputable def gTup (K:PySem.W.Frag) (n:Nat) (t:TGs):TG:=fun v σ H Q=>∃ a xs,v=.ref a∧SqT K H a xs∧xs.length=n∧t xs σ H Q
theorem ZaX {es:List Expr} {k:Nat} {t:TGs} {n:Nat} (hc:X.calm=true) (h:PGs X es t)
  (hn:(assignEach es X.env).length=n:=by rfl) (hst:(assignEach es X.env).findIdx? (·.1)=none:=by rfl):PG X (.Tuple es k pos) (gTup X.K n t):=by
 intro pins s σ H v u Q I r hw
 obtain ⟨a,xs,e1,hq,hl,hw⟩:=hw
 subst e1
 cases r
 obtain ⟨its,rv,ht,hz⟩:=I.tuple hq
 refine assign_Tuple_tuple (I.ok.hd hc) ht (by simp [hn,← hl,rv.length]) hst fun h' hx=>?_
 have I1:Inv X pins σ H { s with heap:=h' }:=I.kept (t':=s.toks) fun b o e=>hx b o (Nat.ne_of_lt (Heap.lt_size e)) e
 exact h pins _ σ H xs _ Q I1 (by simpa using rv) hw
noncomputable def gSub (to ti:TE) (t:TSet):TG:=fun v σ H Q=>to σ H fun o H1=>ti σ H1 fun i H2=>t o i v H2 fun H3=>Q σ H3
theorem YaR {o i:Expr} {to ti:TE} {t:TSet} (ho:PE X o to) (hi:PE X i ti) (hs:PSet X t)
  (ha:∀ v,assign (.Subscript o i pos) X.env v=(do
   let ov ← holding [v] (eval o X.env)
   let iv ← holding [v,ov] (eval i X.env)
   standAt pos
   holding [v,ov,iv] (setItem ov iv v)
   release [v,ov,iv] []):=by intro _;rfl):PG X (.Subscript o i pos) (gSub to ti t):=by
 intro pins s σ H v u Q I r h
 rw [ha]
 refine wpAny_bind (wpAny_holding (thn (ho pins s σ H _ I h) fun ov s1 ⟨x,H1,I1,r1,q1⟩=>?_))
 refine wpAny_bind (wpAny_holding (thn (hi pins s1 σ H1 _ I1 q1) fun iv s2 ⟨y,H2,I2,r2,q2⟩=>?_))
 refine wpAny_bind (wpAny_standAt (wpAny_bind (wpAny_holding (thn (hs pins s2 σ H2 x y v ov iv u _ I2 r1 r2 r q2) fun _ s3 ⟨H3,I3,q3⟩=>?_))))
 exact wpAny_release ⟨σ,H3,I3,q3⟩
noncomputable def tAsg (te:TE) (g:TG):TS:=fun D σ H=>te σ H fun x H1=>g x σ H1 D.nx
theorem xa5 {tg e:Expr} {te:TE} {g:TG} (he:PE X e te) (hg:PG X tg g) (hs:swapsWithSole [tg] e pos.line X.env=pure false:=by rfl) (hw:swappedStores [tg] e X.env=pure none:=by rfl)
  (h1:(assignEach [tg] X.env).map (·.2)=[assign tg X.env]:=by rfl):PS X (.Assign [tg] e pos) (tAsg te g):=by
 intro pins s σ H D I h
 refine wpAny_Assign_stores (thn (he pins s σ H _ I h) fun v s1 ⟨x,H1,I1,r1,q1⟩=>?_) hs hw
 rw [h1]
 exact thn (hg pins s1 σ H1 x v _ I1 r1 q1) fun _ s2 q=>q
theorem xaf {i:Nat} {x:Str} {e:Expr} {te:TE} {pos':Pos} (hN:X.N.Nodup) (hi:X.N[i]?=some x) (hx:Loc X.env.scope x) (he:PE X e te) (hs:swapsWith e (some (.Name x pos')) pos.line X.env=pure false:=by rfl) (hf:X.fn x=true∨X.env.scope.names.lookup x=some .local:=by first | exact .inl rfl | exact .inr rfl | assumption) :
  PS X (.Assign [.Name x pos'] e pos) (tAsg te (gName i)):=by
 intro pins s σ H D I h
 refine wpAny_Assign_Name (thn (he pins s σ H _ I h) fun v s1 ⟨y,H1,I1,r1,q1⟩=>?_) hs
 exact ZaF I1 hN hi hx r1 (fun s2 I2=>⟨_,H1,I2,q1⟩) hf
noncomputable def tPar (i j:Nat) (ta:TA):TS:=fun D σ H=>ta σ H fun vs H1=>∃ v w,vs=[v,w]∧D.nx ((σ.set i (some v)).set j (some w)) H1
theorem ZbA {i j:Nat} {x y:Str} {a b:Expr} {ta:TA} {px py pt:Pos} {kt k2 pt2} (hc:X.calm=true) (hN:X.N.Nodup) (hi:X.N[i]?=some x) (hj:X.N[j]?=some y) (hij:i≠j)
  (hx:X.env.scope.names.lookup x=some .local) (hy:X.env.scope.names.lookup y=some .local) (ha:PA X [a,b] ta)
  (hw:swappedStores [.Tuple [.Name x px,.Name y py] kt pt] (.Tuple [a,b] k2 pt2) X.env=pure (some [x,y]))
  (hs:swapsWithSole [.Tuple [.Name x px,.Name y py] kt pt] (.Tuple [a,b] k2 pt2) pos.line X.env=pure false:=by rfl) :
  PS X (.Assign [.Tuple [.Name x px,.Name y py] kt pt] (.Tuple [a,b] k2 pt2) pos) (tPar i j ta):=by
 intro pins s σ H D I h
 rw [exec_Assign_arm]
 refine wpAny_bind (wpAny_standAt ?_)
 rw [hs]
 refine wpAny_bind (wpAny_pure ?_)
 rw [if_neg (by decide)]
 refine wpAny_bind (Tuple_ (thn (ha _ pins s σ H _ I h) fun us s1 ⟨vs,H1,I1,r1,q1⟩=>?_))
 obtain ⟨v,w,e1,q1⟩:=q1
 subst e1
 obtain ⟨u1,u2,rfl,rv,rw'⟩:∃ u1 u2,us=[u1,u2]∧RelV v u1∧RelV w u2:=by
  cases r1 with
  | cons p q =>
   cases q with
   | cons p' q' =>
    cases q'
    exact ⟨_,_,rfl,p,p'⟩
 refine wpAny_newObj_type ?_ (by show 2≤sizeLine;decide)
 have I2:Inv X pins σ H1 { s1 with heap:=s1.heap.push { cls:=.type "tuple",data:=.seq [u1,u2].toArray } }:=I1.kept (t':=s1.toks) fun b o e=>Heap.get?_push_of_some _ e
 rw [hw]
 refine wpAny_bind (wpAny_pure ?_)
 show wpAny (model X.prog X.w) X.A (do rule "assign.swapped-stores";let items ← unpackItems (.ref s1.heap.objs.size) 2 none;assignInOrder [fun v=>bindName X.env y v,fun v=>bindName X.env x v] items.reverse;pure Flow.next) _ _ _
 refine wpAny_bind (wpAny_rule (wpAny_bind (unpackItems_tuple (items:=#[u1,u2]) (I.ok.hd hc) (IsTup.new s1.heap _) fun h' hx'=>?_)))
 have I3:=I2.kept (h':=h') (t':=s1.toks) fun b o e=>hx' b o (Nat.ne_of_lt (Heap.lt_size e)) e
 show wpAny _ _ (assignInOrder [fun v=>bindName X.env y v,fun v=>bindName X.env x v] [u2,u1] >>= fun _=>pure Flow.next) _ _ _
 refine wpAny_bind (assignInOrder_cons (wpAny_bindName (ZaF I3 hN hj (.inl hy) rw' (fun s2 I4=>?_) (.inr hy))))
 refine assignInOrder_cons (wpAny_bindName (ZaF I4 hN hi (.inl hx) rv (fun s3 I5=>assignInOrder_nil (wpAny_pure ?_)) (.inr hx)))
 rw [List.set_comm _ _ (Ne.symm hij)] at I5
 exact ⟨_,H1,I5,q1⟩
end
section
variable {X:Cx} {pos:Pos}
noncomputable def tWhile (c:TT) (tb:TS):TS:=fun D σ H=>∃ W:Nat→St→Hp→Prop,(∃ m,W m σ H)∧∀ m σ H,W m σ H →
 c σ H fun b H1=>if b=true then ∃ N:St→Hp→Prop,(∀ σ' H',N σ' H'→∃ m',m' < m∧W m' σ' H')∧tb { D with nx:=N,ct:=N,bk:=D.nx } σ H1 else D.nx σ H1
theorem YaT {c:Expr} {body:List Stmt} {tc:TT} {tb:TS} (hp:PassesOwn (model X.prog X.w) X.A X.env X.xe) (hc:PT X c tc) (hb:PSs X body tb):PS X (.While c body [] pos) (tWhile tc tb):=by
 intro pins s σ H D I h
 obtain ⟨W,⟨m0,w0⟩,turn⟩:=h
 refine wpAny_While (codeAny_whileLoop (fun n s'=>∃ σ' H',Inv X pins σ' H' s'∧W n σ' H') ?_ m0 ⟨σ,H,I,w0⟩)
 rintro n s1 ⟨σ1,H1,I1,w1⟩
 refine wpAny_passesOwn hp (thn (hc pins s1 σ1 H1 _ I1 (turn n σ1 H1 w1)) fun b s2 ⟨H2,I2,q2⟩=>?_)
 cases b with
 | true =>
  obtain ⟨N,hN,q2⟩:=q2
  rw [if_pos rfl]
  refine wpAny_passesOwn hp (thn (hb pins s2 σ1 H2 _ I2 q2) fun f s3 q3=>?_)
  cases f with
  | next =>
   obtain ⟨σ3,H3,I3,n3⟩:=q3
   obtain ⟨m',hm,w3⟩:=hN σ3 H3 n3
   exact ⟨m',hm,σ3,H3,I3,w3⟩
  | cont =>
   obtain ⟨σ3,H3,I3,n3⟩:=q3
   obtain ⟨m',hm,w3⟩:=hN σ3 H3 n3
   exact ⟨m',hm,σ3,H3,I3,w3⟩
  | brk=>exact q3
  | ret v=>exact q3
 | false =>
  rw [if_neg Bool.false_ne_true]
  exact wpAny_execs_nil ⟨σ1,H2,I2,q2⟩
end
set_option genInjectivity false in
structure It where
 go:Nat→Hp→Prop
 yld:Nat→Hp→V→Hp→Prop
 stop:Nat→Hp→Prop
noncomputable def FpOk (X:Cx) (pins:List (Addr×Obj)) (H:Hp) (b:Addr):Prop :=
 H b=none∧b≠X.env.locals∧b ∉ X.fs∧(b∈X.ex∨X.s₀.heap.objs.size≤b)∧(∀ x c,X.env.cells.lookup x=some c→c≠b)∧∀ p∈X.pn ++ pins,p.1≠b
theorem Inv.fpOk {X:Cx} {pins:List (Addr×Obj)} {σ:St} {H H':Hp} {s:Shared} {b:Addr} (I:Inv X pins σ H s) (hb:s.heap.objs.size≤b) (hn:H' b=none):FpOk X pins H' b:=by
 refine ⟨hn,Nat.ne_of_gt (Nat.lt_of_lt_of_le I.lt hb),I.nofs hb,.inr (Nat.le_trans I.sz hb),fun x c e z=>?_,fun p hp z=>?_⟩
 ·obtain ⟨v,q⟩:=I.cell x c e
  exact absurd (Nat.lt_of_lt_of_le q.lt (by rw [z];exact hb)) (Nat.lt_irrefl _)
 ·exact absurd (Nat.lt_of_lt_of_le (Heap.lt_size (I.pin p hp).1) (by rw [z];exact hb)) (Nat.lt_irrefl _)
structure Turn (P:Program) (w:World) (K:PySem.W.Frag) (tg:Expr) (J:It) (fp:List Addr) (it:Addr) (tn:Nat→Heap→Prop):Prop where
 mem:it∈fp
 obj:∀ i h,tn i h→∀ b∈fp,∃ o,h.get? b=some o∧∀ v,o.data≠.cell v
 keep:∀ i h h',tn i h→(∀ b∈fp,∀ o,h.get? b=some o→h'.get? b=some o)→tn i h'
 item:∀ (X:Cx),X.prog=P→X.w=w→X.K=K→X.calm=true→∀ (i:Nat) (pins:List (Addr×Obj)) (s:Shared) (σ:St) (H:Hp) (E:Value→Shared→Prop),Inv X pins σ H s→(∀ b∈fp,FpOk X pins H b)→tn i s.heap→J.go i H →
  wpAny (model P w) X.A (pyNext (.ref it)) (fun r s1=>∃ u,r=some u ∧
   wpAny (model P w) X.A (letOwnedTupleGo tg (.ref it) u) (fun _ s2=>∃ x H',Inv X pins σ H' s2∧RelV x u∧J.yld i H x H'∧tn (i + 1) s2.heap∧∀ b∈fp,H' b=none) E s1) E s
 done:∀ (X:Cx),X.prog=P→X.w=w→X.K=K→X.calm=true→∀ (i:Nat) (pins:List (Addr×Obj)) (s:Shared) (σ:St) (H:Hp) (E:Value→Shared→Prop),Inv X pins σ H s→(∀ b∈fp,FpOk X pins H b)→tn i s.heap→J.stop i H →
  wpAny (model P w) X.A (pyNext (.ref it)) (fun r s1=>r=none∧Inv X pins σ H s1) E s
 self:∀ (A:Around) (i:Nat) (s:Shared) (Q:Value→Shared→Prop) (E:Value→Shared→Prop),tn i s.heap→Q (.ref it) s→wpAny (model P w) A (pyIter (.ref it)) Q E s
abbrev TI:=St→Hp→(It→Hp→Prop)→Prop
noncomputable def PIE (X:Cx) (pins:List (Addr×Obj)) (σ:St) (tg:Expr) (R:It→Hp→Prop) (itv:Value) (s2:Shared):Prop :=
 ∃ (it:Addr) (fp:List Addr) (tn:Nat→Heap→Prop) (J:It) (H':Hp),itv=.ref it∧Inv X pins σ H' s2∧Turn X.prog X.w X.K tg J fp it tn∧tn 0 s2.heap∧(∀ b∈fp,FpOk X pins H' b)∧R J H'
noncomputable def PI (X:Cx) (tg iter:Expr) (wi:TI):Prop :=
 ∀ (pins:List (Addr×Obj)) (s:Shared) (σ:St) (H:Hp) (R:It→Hp→Prop),Inv X pins σ H s→wi σ H R →
  wpAny (model X.prog X.w) X.A (eval iter X.env) (fun v s1=>wpAny (model X.prog X.w) X.A (pyIter v) (PIE X pins σ tg R) X.xe s1) X.xe s
theorem YbD {M:Model} {A:Around} {E:Value→Shared→Prop} {s:Shared} {tg:Expr} {it:Addr} {u:Value} {o:Obj} {n:String} {vs:Array Value} {Q:Unit→Shared→Prop} (ho:s.heap.get? it=some o) (hc:o.cls=.type n) (hd:o.data=.fields vs)
  (hn:["enumerate","zip","dict_itemiterator","dict_reverseitemiterator","odict_iterator","itertools.zip_longest","itertools.pairwise"].contains n=false) (hQ:Q () s):wpAny M A (letOwnedTupleGo tg (.ref it) u) Q E s:=by
 unfold letOwnedTupleGo
 cases tg <;> first
  | exact wpAny_pure hQ
  | (cases u <;> first
    | exact wpAny_pure hQ
    | (refine wpAny_bind (wpAny_load ho ?_)
       rw [hc,hd]
       show wpAny M A (if (["enumerate","zip","dict_itemiterator","dict_reverseitemiterator","odict_iterator","itertools.zip_longest","itertools.pairwise"].contains n && vs[0]? == some (rawInt _))=true then _ else _) Q E s
       rw [if_neg (by intro h;rw [hn,Bool.false_and] at h;cases h)]
       exact wpAny_pure hQ))
noncomputable def Itl (K:PySem.W.Frag) (a:Addr):It :=
 ⟨fun i H=>∃ xs x,SqL K H a xs∧xs[i]?=some x,fun i H x H'=>H'=H∧∀ xs,SqL K H a xs→xs[i]?=some x,fun i H=>∃ xs,SqL K H a xs∧xs.length≤i⟩
noncomputable def Itt (K:PySem.W.Frag) (a:Addr):It :=
 ⟨fun i H=>∃ xs x,SqT K H a xs∧xs[i]?=some x,fun i H x H'=>H'=H∧∀ xs,SqT K H a xs→xs[i]?=some x,fun i H=>∃ xs,SqT K H a xs∧xs.length≤i⟩
noncomputable def Itr (lo:Int) (n:Nat):It:=⟨fun i _=>i < n,fun i H x H'=>H'=H∧x=.int (lo + i),fun i _=>n≤i⟩
theorem xbe {P:Program} {w:World} {K:PySem.W.Frag} {tg:Expr} (a it:Addr):Turn P w K tg (Itl K a) [it] it (fun i h=>h.IsListIter it a i) where
 mem:=by simp
 obj:=fun i h st b hb=>by
  have e:b=it:=by simpa using hb
  subst e
  obtain ⟨o,e,c,d⟩:=st
  exact ⟨o,e,fun v z=>by rw [d] at z;cases z⟩
 keep:=fun i h h' st k=>st.at fun o e=>k it (by simp) o e
 item:=by
  intro X hP hw hK hc i pins s σ H E I hf st hg
  subst hP hw hK
  obtain ⟨xs,x,hq,hx⟩:=hg
  obtain ⟨its,rv,p,hz⟩:=I.list hq
  obtain ⟨u,hu,ru⟩:=rv.get hx
  obtain ⟨f0,f1,f2,f3,f4,f5⟩:=hf it (by simp)
  refine wpAny_pyNext_list_item st p.isList (x:=u) (by simpa using hu) fun h' st' sb=>?_
  have I1:Inv X pins σ H { s with heap:=h' }:=I.turned (t':=s.toks) (fun b o hb e=>(sb.2 b hb).trans e) f0 f1 f3 f4 f5
  obtain ⟨o,e,c,d⟩:=id st'
  exact ⟨u,rfl,YbD (s:={ s with heap:=h' }) e c d (by decide) ⟨x,H,I1,ru,⟨rfl,fun ys hy=>by rw [I.list_inj hy hq];exact hx⟩,st',fun b hb=>(hf b hb).1⟩⟩
 done:=by
  intro X hP hw hK hc i pins s σ H E I hf st hg
  subst hP hw hK
  obtain ⟨xs,hq,hx⟩:=hg
  obtain ⟨its,rv,p,hz⟩:=I.list hq
  obtain ⟨f0,f1,f2,f3,f4,f5⟩:=hf it (by simp)
  have hl:=rv.length
  exact wpAny_pyNext_list_end (I.ok.hd hc) st p.isList (by simp;omega) fun h' eb=>⟨rfl,I.turned (t':=s.toks) (fun b o hb e=>eb b o hb e) f0 f1 f3 f4 f5⟩
 self:=fun _ _ _ _ _ st h=>wpAny_pyIter_listiter st h
theorem zba {P:Program} {w:World} {K:PySem.W.Frag} {tg:Expr} (a it:Addr):Turn P w K tg (Itt K a) [it] it (fun i h=>h.IsTupleIter it a i) where
 mem:=by simp
 obj:=fun i h st b hb=>by
  have e:b=it:=by simpa using hb
  subst e
  obtain ⟨o,e,c,d⟩:=st
  exact ⟨o,e,fun v z=>by rw [d] at z;cases z⟩
 keep:=fun i h h' st k=>st.at fun o e=>k it (by simp) o e
 item:=by
  intro X hP hw hK hc i pins s σ H E I hf st hg
  subst hP hw hK
  obtain ⟨xs,x,hq,hx⟩:=hg
  obtain ⟨its,rv,p,hz⟩:=I.tuple hq
  obtain ⟨u,hu,ru⟩:=rv.get hx
  obtain ⟨f0,f1,f2,f3,f4,f5⟩:=hf it (by simp)
  refine wpAny_pyNext_tuple_item st (show s.heap.IsTuple a its.toArray from p) (x:=u) (by simpa using hu) fun h' st' sb=>?_
  have I1:Inv X pins σ H { s with heap:=h' }:=I.turned (t':=s.toks) (fun b o hb e=>(sb.2 b hb).trans e) f0 f1 f3 f4 f5
  obtain ⟨o,e,c,d⟩:=id st'
  exact ⟨u,rfl,YbD (s:={ s with heap:=h' }) e c d (by decide) ⟨x,H,I1,ru,⟨rfl,fun ys hy=>by rw [I.tuple_inj hy hq];exact hx⟩,st',fun b hb=>(hf b hb).1⟩⟩
 done:=by
  intro X hP hw hK hc i pins s σ H E I hf st hg
  subst hP hw hK
  obtain ⟨xs,hq,hx⟩:=hg
  obtain ⟨its,rv,p,hz⟩:=I.tuple hq
  obtain ⟨f0,f1,f2,f3,f4,f5⟩:=hf it (by simp)
  have hl:=rv.length
  exact wpAny_pyNext_tuple_end (I.ok.hd hc) st (show s.heap.IsTuple a its.toArray from p) (by simp;omega) fun h' eb=>⟨rfl,I.turned (t':=s.toks) (fun b o hb e=>eb b o hb e) f0 f1 f3 f4 f5⟩
 self:=fun _ _ _ _ _ st h=>wpAny_pyIter_tupleiter st h
theorem yba {P:Program} {w:World} {K:PySem.W.Frag} {tg:Expr} (it:Addr) (lo:Int) (n:Nat):Turn P w K tg (Itr lo n) [it] it (fun i h=>IsRangeIter h it (lo + (i:Nat) * 1) ((n:Int) - (i:Nat)) 1) where
 mem:=by simp
 obj:=fun i h st b hb=>by
  have e:b=it:=by simpa using hb
  subst e
  exact ⟨_,st,fun v z=>by
   have z':Data.fields _=Data.cell v:=z
   cases z'⟩
 keep:=fun i h h' st k=>k it (by simp) _ st
 item:=by
  intro X hP hw hK hc i pins s σ H E I hf st hg
  subst hP hw hK
  obtain ⟨f0,f1,f2,f3,f4,f5⟩:=hf it (by simp)
  have W:=Walks.range (prog:=X.prog) (w:=X.w) (I.ok.hd hc) it lo 1 n
  refine W.item i s _ _ hg st fun v h' tk hv st' kk=>?_
  obtain ⟨t,rfl⟩:=hv
  have I1:Inv X pins σ H { s with heap:=h',toks:=tk }:=I.turned (fun b o hb e=>kk b o (by simpa using hb) e) f0 f1 f3 f4 f5
  refine ⟨_,rfl,YbD (s:={ s with heap:=h',toks:=tk }) (n:="range_iterator") st' rfl rfl (by decide) ⟨.int (lo + i),H,I1,⟨t,?_⟩,⟨rfl,rfl⟩,st',fun b hb=>(hf b hb).1⟩⟩
  rw [Int.mul_one]
 done:=by
  intro X hP hw hK hc i pins s σ H E I hf st hg
  subst hP hw hK
  obtain ⟨f0,f1,f2,f3,f4,f5⟩:=hf it (by simp)
  exact wpAny_pyNext_range_end (I.ok.hd hc) st (by have:n≤i:=hg;omega) fun h' eb=>⟨rfl,I.turned (t':=s.toks) (fun b o hb e=>eb b o hb e) f0 f1 f3 f4 f5⟩
 self:=fun _ _ _ _ _ st h=>wpAny_pyIter_rangeiter st h
end L2
namespace L2
open PySem PySem.Spec PyProof.Rows
section
variable {X:Cx} {tg:Expr}
noncomputable def iList (K:PySem.W.Frag) (tl:TE):TI:=fun σ H R=>tl σ H fun x H1=>∃ a,x=.ref a∧(∃ xs,SqL K H1 a xs)∧R (Itl K a) H1
noncomputable def iTup (K:PySem.W.Frag) (tl:TE):TI:=fun σ H R=>tl σ H fun x H1=>∃ a,x=.ref a∧(∃ xs,SqT K H1 a xs)∧R (Itt K a) H1
theorem Xbe {l:Expr} {tl:TE} (hl:PE X l tl):PI X tg l (iList X.K tl):=by
 intro pins s σ H R I h
 refine thn (hl pins s σ H _ I h) fun v s1 ⟨x,H1,I1,r1,q1⟩=>?_
 obtain ⟨a,e,⟨xs,hq⟩,q⟩:=q1
 subst e
 cases r1
 obtain ⟨its,rv,p,hz⟩:=I1.list hq
 refine wpAny_pyIter_list p.isList ?_
 refine ⟨s1.heap.objs.size,[s1.heap.objs.size],_,_,H1,rfl,I1.kept (t':=s1.toks) fun b o e=>Heap.get?_push_of_some _ e,xbe a _,⟨_,Heap.get?_push_size _ rfl,rfl,rfl⟩,fun b hb=>?_,q⟩
 have e:b=s1.heap.objs.size:=by simpa using hb
 subst e
 exact I1.fpOk (Nat.le_refl _) (I1.hok.fresh (Nat.le_refl _))
theorem zbf {l:Expr} {tl:TE} (hl:PE X l tl):PI X tg l (iTup X.K tl):=by
 intro pins s σ H R I h
 refine thn (hl pins s σ H _ I h) fun v s1 ⟨x,H1,I1,r1,q1⟩=>?_
 obtain ⟨a,e,⟨xs,hq⟩,q⟩:=q1
 subst e
 cases r1
 obtain ⟨its,rv,p,hz⟩:=I1.tuple hq
 refine wpAny_pyIter_tuple (show s1.heap.IsTuple a its.toArray from p) ?_
 refine ⟨s1.heap.objs.size,[s1.heap.objs.size],_,_,H1,rfl,I1.kept (t':=s1.toks) fun b o e=>Heap.get?_push_of_some _ e,zba a _,⟨_,Heap.get?_push_size _ rfl,rfl,rfl⟩,fun b hb=>?_,q⟩
 have e:b=s1.heap.objs.size:=by simpa using hb
 subst e
 exact I1.fpOk (Nat.le_refl _) (I1.hok.fresh (Nat.le_refl _))
theorem Zbr {pins:List (Addr×Obj)} {σ:St} {H:Hp} {s:Shared} {R:It→Hp→Prop} {E:Value→Shared→Prop} {lo hi:Int} {t u v:Tok} {tk:Nat} (I:Inv X pins σ H s) (h1:-(2 ^ 62)≤lo) (h2:lo < 2 ^ 62) (h3:-(2 ^ 62)≤hi) (h4:hi < 2 ^ 62)
  (q:R (Itr lo (hi - lo).toNat) H):wpAny (model X.prog X.w) X.A (pyIter (.ref s.heap.objs.size)) (PIE X pins σ tg R) E { s with heap:=s.heap.push { cls:=.type "range",data:=.fields #[.int lo t,.int hi u,.int 1 v] },toks:=tk }:=by
 refine wpAny_pyIter_range (IsRange.new ..) (small_one h1 h2 h3 h4) ?_
 have I1:Inv X pins σ H { s with heap:=s.heap.push { cls:=.type "range",data:=.fields #[.int lo t,.int hi u,.int 1 v] },toks:=tk }:=I.kept fun b o e=>Heap.get?_push_of_some _ e
 refine ⟨(s.heap.push { cls:=.type "range",data:=.fields #[.int lo t,.int hi u,.int 1 v] }).objs.size,[(s.heap.push { cls:=.type "range",data:=.fields #[.int lo t,.int hi u,.int 1 v] }).objs.size],_,_,H,rfl,
  I1.kept (t':=tk) fun b o e=>Heap.get?_push_of_some _ e,yba _ lo (hi - lo).toNat,?_,fun b hb=>?_,q⟩
 ·have e1:lo + ((0:Nat):Int) * 1=lo:=by simp
  have e2:(((hi - lo).toNat:Nat):Int) - ((0:Nat):Int)=Builtin.Range.rangeSize lo hi 1:=by rw [rangeSize_one];split <;> omega
  show IsRangeIter _ _ (lo + ((0:Nat):Int) * 1) ((((hi - lo).toNat:Nat):Int) - ((0:Nat):Int)) 1
  rw [e1,e2]
  exact Heap.get?_push_size _ rfl
 ·have e:b=(s.heap.push { cls:=.type "range",data:=.fields #[.int lo t,.int hi u,.int 1 v] }).objs.size:=by simpa using hb
  subst e
  exact I1.fpOk (Nat.le_refl _) (I1.hok.fresh (Nat.le_refl _))
noncomputable def iRng1 (ta:TA):TI:=fun σ H R=>ta σ H fun vs H1=>∃ j:Int,vs=[.int j]∧-(2 ^ 62)≤j∧j < 2 ^ 62∧R (Itr 0 j.toNat) H1
theorem zap {a:Expr} {ta:TA} {p pos:Pos} (hg:Gl X "range") (hm:X.mg "range" = none) (ha:PA X [a] ta) (hs:starEach [a] X.env=[(false,eval a X.env)]:=by rfl):PI X tg (.Call (.Name "range" p) [a] [] pos) (iRng1 ta):=by
 intro pins s σ H R I h
 refine Call_ (ZaR I hg hm boot_range (PyProof.Rows.callWith_type1 (thn (ha pos pins s σ H _ I h) fun us s1 ⟨vs,H1,I1,r1,q1⟩=>?_) hs rfl))
 obtain ⟨j,e,q1,q2,q⟩:=q1
 subst e
 cases r1 with
 | cons r rr =>
  cases rr
  obtain ⟨t,rfl⟩:=r
  exact call_range_1 (Zbr I1 (by omega) (by omega) q1 q2 (by simpa using q))
noncomputable def tFor (wi:TI) (g:TG) (tb:TS):TS:=fun D σ H=>wi σ H fun J H1=>∃ W:Nat→Nat→St→Hp→Prop,(∃ m,W 0 m σ H1)∧∀ i m σ H,W i m σ H →
 (J.stop i H∧D.nx σ H)∨(J.go i H∧∃ N:St→Hp→Prop,(∀ σ' H',N σ' H'→∃ m',m' < m∧W (i + 1) m' σ' H')∧∀ x H',J.yld i H x H'→g x σ H' fun σ2 H2=>tb { D with nx:=N,ct:=N,bk:=D.nx } σ2 H2)
noncomputable def pinsAt (fp:List Addr) (h:Heap):List (Addr×Obj):=fp.filterMap fun b=>(h.get? b).map fun o=>(b,o)
theorem XaC {fp:List Addr} {h:Heap} {b:Addr} {o:Obj} (hb:b∈fp) (e:h.get? b=some o):(b,o)∈pinsAt fp h:=List.mem_filterMap.mpr ⟨b,hb,by rw [e];rfl⟩
theorem ybf {fp:List Addr} {h:Heap} {p:Addr×Obj} (hp:p∈pinsAt fp h):p.1∈fp∧h.get? p.1=some p.2:=by
 obtain ⟨b,hb,e⟩:=List.mem_filterMap.mp hp
 cases q:h.get? b with
 | none=>rw [q] at e;cases e
 | some o =>
  rw [q] at e
  have e':(b,o)=p:=Option.some.inj e
  subst e'
  exact ⟨hb,q⟩
theorem Inv.pinned {pins:List (Addr×Obj)} {σ:St} {H:Hp} {s:Shared} {fp:List Addr} (I:Inv X pins σ H s) (hf:∀ b∈fp,FpOk X pins H b) (ho:∀ b∈fp,∃ o,s.heap.get? b=some o∧∀ v,o.data≠.cell v):Inv X (pins ++ pinsAt fp s.heap) σ H s :=
 I.pins_of fun p hp=>(List.mem_append.mp hp).elim (fun z=>I.pin p (List.mem_append_right _ z)) fun z=>by
  obtain ⟨hb,e⟩:=ybf z
  obtain ⟨f0,f1,f2,_⟩:=hf p.1 hb
  obtain ⟨o,e',d⟩:=ho p.1 hb
  rw [e] at e';cases e'
  exact ⟨e,f0,f1,f2,d⟩
theorem Inv.unpinned {pins pl:List (Addr×Obj)} {σ:St} {H:Hp} {s:Shared} (I:Inv X (pins ++ pl) σ H s):Inv X pins σ H s:=I.pins_of fun p hp=>I.pin p (List.mem_append_right _ (List.mem_append_left _ hp))
theorem XaB {iter:Expr} {body:List Stmt} {wi:TI} {g:TG} {tb:TS} {pos:Pos} (hp:PassesOwn (model X.prog X.w) X.A X.env X.xe) (hc:X.calm=true) (hi:PI X tg iter wi) (hg:PG X tg g) (hb:PSs X body tb)
  (hs:∀ x,foldedSetIterable iter X.env x=pure x:=by intro _;rfl):PS X (.For tg iter body [] pos) (tFor wi g tb):=by
 intro pins s σ H D I h
 refine wpAny_For (thn (hi pins s σ H _ I h) fun v s1 h1=>thn h1 fun itv s2 h2=>?_) hs
 obtain ⟨it,fp,tn,J,H2,e,I2,T,st2,f2,W,⟨m0,w0⟩,turn⟩:=h2
 subst e
 have stat:∀ {H':Hp},(∀ b∈fp,H' b=none)→∀ b∈fp,FpOk X pins H' b:=fun hn b hb=>⟨hn b hb,(f2 b hb).2⟩
 refine codeAny_forLoop_any (fun n s'=>∃ i σ' H',Inv X pins σ' H' s'∧tn i s'.heap∧(∀ b∈fp,H' b=none)∧W i n σ' H') ?_ m0 ⟨0,σ,H2,I2,st2,fun b hb=>(f2 b hb).1,w0⟩
 rintro n s3 ⟨i,σ3,H3,I3,st3,fr3,w3⟩
 rcases turn i n σ3 H3 w3 with ⟨stop,qn⟩ | ⟨go,N,hN,step⟩
 ·refine wpAny_passesOwn hp (thn (T.done X rfl rfl rfl hc i pins s3 σ3 H3 X.xe I3 (stat fr3) st3 stop) fun r s4 ⟨hr,I4⟩=>?_)
  subst hr
  exact wpAny_execs_nil ⟨σ3,H3,I4,qn⟩
 ·refine wpAny_passesOwn hp (thn (T.item X rfl rfl rfl hc i pins s3 σ3 H3 X.xe I3 (stat fr3) st3 go) fun r s4 ⟨u,hr,h4⟩=>?_)
  subst hr
  refine wpAny_passesOwn hp (thn h4 fun _ s5 ⟨x,H5,I5,r5,y5,st5,fr5⟩=>?_)
  have I5':=I5.pinned (stat fr5) (T.obj _ _ st5)
  refine wpAny_passesOwn hp (thn (hg _ s5 σ3 H5 x u _ I5' r5 (step x H5 y5)) fun _ s6 ⟨σ6,H6,I6,q6⟩=>?_)
  refine wpAny_passesOwn hp (thn (hb _ s6 σ6 H6 _ I6 q6) fun f s7 q7=>?_)
  have again:∀ {σ7:St} {H7:Hp},Inv X (pins ++ pinsAt fp s5.heap) σ7 H7 s7→N σ7 H7→∃ m,m < n∧∃ i σ' H',Inv X pins σ' H' s7∧tn i s7.heap∧(∀ b∈fp,H' b=none)∧W i m σ' H':=fun {σ7 H7} I7 n7=>by
   obtain ⟨m',hm,w7⟩:=hN σ7 H7 n7
   refine ⟨m',hm,i + 1,σ7,H7,I7.unpinned,T.keep _ _ _ st5 fun b hb o e=>(I7.pin (b,o) (List.mem_append_right _ (List.mem_append_right _ (XaC hb e)))).1,fun b hb=>?_,w7⟩
   obtain ⟨o,e,d⟩:=T.obj _ _ st5 b hb
   exact (I7.pin (b,o) (List.mem_append_right _ (List.mem_append_right _ (XaC hb e)))).2.1
  cases f with
  | next=>obtain ⟨σ7,H7,I7,n7⟩:=q7;exact again I7 n7
  | cont=>obtain ⟨σ7,H7,I7,n7⟩:=q7;exact again I7 n7
  | brk=>obtain ⟨σ7,H7,I7,q7⟩:=q7;exact ⟨σ7,H7,I7.unpinned,q7⟩
  | ret v=>obtain ⟨x7,σ7,H7,I7,r7,q7⟩:=q7;exact ⟨x7,σ7,H7,I7.unpinned,r7,q7⟩
end
end L2
namespace L2
open PySem PySem.Spec PyProof.Rows
abbrev R2:=V→V→Hp→VK→Prop
noncomputable def OpR (X:Cx) (f:Value→Value→Sem Value) (r:R2):Prop :=
 ∀ (pins:List (Addr×Obj)) (s:Shared) (σ:St) (H:Hp) (x y:V) (v u:Value) (Q:VK),Inv X pins σ H s→RelV x v→RelV y u→r x y H Q →
  wpAny (model X.prog X.w) X.A (f v u) (EP X pins σ Q) X.xe s
noncomputable def UnR (X:Cx) (f:Value→Sem Value) (r:V→Hp→VK→Prop):Prop :=
 ∀ (pins:List (Addr×Obj)) (s:Shared) (σ:St) (H:Hp) (x:V) (v:Value) (Q:VK),Inv X pins σ H s→RelV x v→r x H Q →
  wpAny (model X.prog X.w) X.A (f v) (EP X pins σ Q) X.xe s
noncomputable def CallR (X:Cx) (f:Value) (r:List V→Hp→VK→Prop):Prop :=
 ∀ (pins:List (Addr×Obj)) (s:Shared) (σ:St) (H:Hp) (xs:List V) (us:List Value) (Q:VK),Inv X pins σ H s→Vals xs us→r xs H Q →
  wpAny (model X.prog X.w) X.A (call f us) (EP X pins σ Q) X.xe s
noncomputable def tOp (r:R2) (ta tb:TE):TE:=fun σ H Q=>ta σ H fun x H1=>tb σ H1 fun y H2=>r x y H2 Q
noncomputable def tUn (r:V→Hp→VK→Prop) (ta:TE):TE:=fun σ H Q=>ta σ H fun x H1=>r x H1 Q
noncomputable def rI (C:Int→Int→Prop) (g:Int→Int→V):R2:=fun x y H Q=>∃ i j,x=.int i∧y=.int j∧C i j∧Q (g i j) H
noncomputable def rI0 (g:Int→Int→V):R2:=fun x y H Q=>∃ i j,x=.int i∧y=.int j∧Q (g i j) H
noncomputable def rU (g:Int→V):V→Hp→VK→Prop:=fun x H Q=>∃ i,x=.int i∧Q (g i) H
section
variable {X:Cx} {a b c:Expr} {ta tb tc:TE} {pos:Pos}
theorem binT (ha:PE X a ta) (hb:PE X b tb) {pins:List (Addr×Obj)} {s:Shared} {σ:St} {H:Hp} {R:V→V→Hp→Prop} (I:Inv X pins σ H s)
  (h:ta σ H fun x H1=>tb σ H1 fun y H2=>R x y H2) {Q:Value→Shared→Prop} {f:Value→Value→Sem Value}
  (hf:∀ v u s2 x y H2,Inv X pins σ H2 s2→RelV x v→RelV y u→R x y H2→wpAny (model X.prog X.w) X.A (f v u) Q X.xe s2) :
  wpAny (model X.prog X.w) X.A (eval a X.env) (fun v s₁=>wpAny (model X.prog X.w) X.A (eval b X.env) (fun u s₂=>wpAny (model X.prog X.w) X.A (f v u) Q X.xe s₂) X.xe s₁) X.xe s:=by
 refine thn (ha pins s σ H _ I h) fun v s1 ⟨x,H1,I1,r1,q1⟩=>?_
 refine thn (hb pins s1 σ H1 _ I1 q1) fun u s2 ⟨y,H2,I2,r2,q2⟩=>?_
 exact hf v u s2 x y H2 I2 r1 r2 q2
theorem Zag {op:Operator} {r:R2} (ho:OpR X (binaryOp op) r) (ha:PE X a ta) (hb:PE X b tb):PE X (.BinOp a op b pos) (tOp r ta tb):=by
 intro pins s σ H Q I h
 exact wpAny_BinOp (binT ha hb I h fun v u s2 x y H2 I2 rx ry q=>ho pins s2 σ H2 x y v u Q I2 rx ry q)
theorem pe_un {op:UnaryOp} {r:V→Hp→VK→Prop} (ho:UnR X (unaryOp op) r) (ha:PE X a ta):PE X (.UnaryOp op a pos) (tUn r ta):=by
 intro pins s σ H Q I h
 exact UnaryOp_ (thn (ha pins s σ H _ I h) fun v s1 ⟨x,H1,I1,r1,q1⟩=>ho pins s1 σ H1 x v Q I1 r1 q1)
theorem opI {f:Value→Value→Sem Value} {C:Int→Int→Prop} {g:Int→Int→Int}
  (rule:∀ (i j:Int) (t u:Tok) (s:Shared) (Q:Value→Shared→Prop) (E:Value→Shared→Prop),C i j→Q (.int (g i j) s.toks) { s with toks:=s.toks + 1 }→wpAny (model X.prog X.w) X.A (f (.int i t) (.int j u)) Q E s) :
  OpR X f (rI C fun i j=>.int (g i j)):=by
 intro pins s σ H x y v u Q I rx ry h
 obtain ⟨i,j,rfl,rfl,hc,q⟩:=h
 obtain ⟨t,rfl⟩:=rx
 obtain ⟨t',rfl⟩:=ry
 exact rule i j t t' s _ _ hc ⟨.int (g i j),H,I.tok _,⟨_,rfl⟩,q⟩
theorem opI0 {f:Value→Value→Sem Value} {g:Int→Int→Int}
  (rule:∀ (i j:Int) (t u:Tok) (s:Shared) (Q:Value→Shared→Prop) (E:Value→Shared→Prop),Q (.int (g i j) s.toks) { s with toks:=s.toks + 1 }→wpAny (model X.prog X.w) X.A (f (.int i t) (.int j u)) Q E s) :
  OpR X f (rI0 fun i j=>.int (g i j)):=by
 intro pins s σ H x y v u Q I rx ry h
 obtain ⟨i,j,rfl,rfl,q⟩:=h
 obtain ⟨t,rfl⟩:=rx
 obtain ⟨t',rfl⟩:=ry
 exact rule i j t t' s _ _ ⟨.int (g i j),H,I.tok _,⟨_,rfl⟩,q⟩
theorem opB0 {f:Value→Value→Sem Value} {g:Int→Int→Bool}
  (rule:∀ (i j:Int) (t u:Tok) (s:Shared) (Q:Value→Shared→Prop) (E:Value→Shared→Prop),Q (.bool (g i j)) s→wpAny (model X.prog X.w) X.A (f (.int i t) (.int j u)) Q E s) :
  OpR X f (rI0 fun i j=>.bl (g i j)):=by
 intro pins s σ H x y v u Q I rx ry h
 obtain ⟨i,j,rfl,rfl,q⟩:=h
 obtain ⟨t,rfl⟩:=rx
 obtain ⟨t',rfl⟩:=ry
 exact rule i j t t' s _ _ ⟨.bl (g i j),H,I,rfl,q⟩
noncomputable def CDiv (i j:Int):Prop:=0 < j∧j < 1073741824
noncomputable def CPow (i j:Int):Prop:=0≤j∧j≤1000000∧i.natAbs < 2 ^ 64
noncomputable def CMul (i j:Int):Prop:=(-(2 ^ 64) < i∧i < 2 ^ 64)∨(-(2 ^ 64) < j∧j < 2 ^ 64)
theorem CMul.ok {i j:Int} (h:CMul i j):IntMulOk i j:=by
 rcases h with ⟨h1,h2⟩ | ⟨h1,h2⟩
 ·exact .of_left (intBits_le_64 h1 h2)
 ·exact .of_right (intBits_le_64 h1 h2)
theorem yap:OpR X (binaryOp .Add) (rI0 fun i j=>.int (i + j)):=opI0 fun _ _ _ _ _ _ _ q=>add_int q
theorem op_sub:OpR X (binaryOp .Sub) (rI0 fun i j=>.int (i - j)):=opI0 fun _ _ _ _ _ _ _ q=>sub_int q
theorem YaI:OpR X (binaryOp .Mult) (rI CMul fun i j=>.int (i * j)):=opI fun _ _ _ _ _ _ _ hc q=>mul_int q hc.ok
theorem Zbf:OpR X (binaryOp .FloorDiv) (rI CDiv fun i j=>.int (i / j)):=opI fun i j _ _ _ _ _ hc q=>by
 have h1:(0:Int) < j:=hc.1
 have h2:j < 1073741824:=hc.2
 exact floordiv_int (by omega) (by rw [Int.fdiv_eq_ediv_of_nonneg i (by omega)];exact q) (.inl (PyProof.noPylong_small (by omega)))
theorem xaI:OpR X (binaryOp .Mod) (rI (fun _ j=>0 < j) fun i j=>.int (i % j)):=opI fun i j _ _ _ _ _ hc q=>by
 have h1:(0:Int) < j:=hc
 exact mod_int' (by omega) (by rw [Int.fmod_eq_emod_of_nonneg i (by omega)];exact q)
theorem Ybf:OpR X (binaryOp .Pow) (rI CPow fun i j=>.int (i ^ j.toNat)):=opI fun _ _ _ _ _ _ _ hc q=>pow_int_small hc.1 hc.2.1 hc.2.2 q
theorem unI {f:Value→Sem Value} {g:Int→Int}
  (rule:∀ (i:Int) (t:Tok) (s:Shared) (Q:Value→Shared→Prop) (E:Value→Shared→Prop),Q (.int (g i) s.toks) { s with toks:=s.toks + 1 }→wpAny (model X.prog X.w) X.A (f (.int i t)) Q E s) :
  UnR X f (rU fun i=>.int (g i)):=by
 intro pins s σ H x v Q I rx h
 obtain ⟨i,rfl,q⟩:=h
 obtain ⟨t,rfl⟩:=rx
 exact rule i t s _ _ ⟨.int (g i),H,I.tok _,⟨_,rfl⟩,q⟩
theorem un_neg:UnR X (unaryOp .USub) (rU fun i=>.int (-i)):=unI fun _ _ _ _ _ q=>neg_int q
end
noncomputable def scal:V→V→Bool
 | .non,.non=>true | .non,.int _=>true | .int _,.non=>true | .non,.bl _=>true | .bl _,.non=>true | .non,.str _=>true | .str _,.non=>true
 | .int _,.int _=>true | .bl _,.bl _=>true | .str _,.str _=>true | .byt _,.byt _=>true
 | .int _,.str _=>true | .str _,.int _=>true | .bl _,.str _=>true | .str _,.bl _=>true
 | _,_=>false
noncomputable def rEq:R2:=fun x y H Q=>scal x y=true∧Q (.bl (decide (x=y))) H
noncomputable def rNe:R2:=fun x y H Q=>scal x y=true∧Q (.bl (!decide (x=y))) H
theorem xbf {i j:Int}:decide (V.int i=V.int j)=(i == j):=by
 rw [Bool.eq_iff_iff]
 simp
theorem YbA {i j:Bool}:decide (V.bl i=V.bl j)=(i == j):=by
 rw [Bool.eq_iff_iff]
 simp
theorem Xbf {i j:Str}:decide (V.str i=V.str j)=(i == j):=by
 rw [Bool.eq_iff_iff]
 simp
theorem zbg {i j:Array UInt8}:decide (V.byt i=V.byt j)=(i.toList == j.toList):=by
 rw [Bool.eq_iff_iff]
 cases i
 cases j
 simp
section
variable {X:Cx} {a b c:Expr} {ta tb tc:TE} {pos:Pos}
theorem Zah {pins:List (Addr×Obj)} {σ:St} {H:Hp} {s:Shared} {Q:VK} {k k':Bool} (I:Inv X pins σ H s) (q:Q (.bl k) H) (e:k=k'):EP X pins σ Q (.bool k') s:=by
 subst e
 exact ⟨.bl k,H,I,rfl,q⟩
theorem yaL:OpR X (compareOp .Eq) rEq:=by
 intro pins s σ H x y v u Q I rx ry h
 obtain ⟨hs,q⟩:=h
 cases x with
 | non =>
  cases rx
  cases y with
  | non=>cases ry;exact PySem.EqNone.eq_none_none (Zah I q (by simp))
  | bl j=>cases ry;exact PySem.EqNone.eq_none_bool (Zah I q (by simp))
  | int j=>obtain ⟨t',rfl⟩:=ry;exact PySem.EqNone.eq_none_int (Zah I q (by simp))
  | str j=>obtain ⟨t',rfl⟩:=ry;exact PySem.EqNone.eq_none_str (Zah I q (by simp))
  | _=>exact absurd (show false=true from hs) Bool.false_ne_true
 | bl i =>
  cases rx
  cases y with
  | non=>cases ry;exact PySem.EqNone.eq_bool_none (Zah I q (by simp))
  | bl j=>cases ry;exact eq_bool (Zah I q YbA)
  | str j=>obtain ⟨t',rfl⟩:=ry;exact PySem.EqMixed.eq_bool_str (Zah I q (by simp))
  | _=>exact absurd (show false=true from hs) Bool.false_ne_true
 | int i =>
  obtain ⟨t,rfl⟩:=rx
  cases y with
  | non=>cases ry;exact PySem.EqNone.eq_int_none (Zah I q (by simp))
  | int j=>obtain ⟨t',rfl⟩:=ry;exact eq_int (Zah I q xbf)
  | str j=>obtain ⟨t',rfl⟩:=ry;exact PySem.EqMixed.eq_int_str (Zah I q (by simp))
  | _=>exact absurd (show false=true from hs) Bool.false_ne_true
 | str i =>
  obtain ⟨t,rfl⟩:=rx
  cases y with
  | non=>cases ry;exact PySem.EqNone.eq_str_none (Zah I q (by simp))
  | bl j=>cases ry;exact PySem.EqMixed.eq_str_bool (Zah I q (by simp))
  | int j=>obtain ⟨t',rfl⟩:=ry;exact PySem.EqMixed.eq_str_int (Zah I q (by simp))
  | str j=>obtain ⟨t',rfl⟩:=ry;exact eq_str (Zah I q Xbf)
  | _=>exact absurd (show false=true from hs) Bool.false_ne_true
 | byt i =>
  obtain ⟨t,rfl⟩:=rx
  cases y with
  | byt j=>obtain ⟨t',rfl⟩:=ry;exact PySem.W.eq_bytes (Zah I q zbg)
  | _=>exact absurd (show false=true from hs) Bool.false_ne_true
 | _=>cases y <;> exact absurd (show false=true from hs) Bool.false_ne_true
theorem op_ne:OpR X (compareOp .NotEq) rNe:=by
 intro pins s σ H x y v u Q I rx ry h
 obtain ⟨hs,q⟩:=h
 cases x with
 | non =>
  cases rx
  cases y with
  | non=>cases ry;exact PySem.EqNone.ne_none_none (Zah I q (by simp))
  | bl j=>cases ry;exact PySem.EqNone.ne_none_bool (Zah I q (by simp))
  | int j=>obtain ⟨t',rfl⟩:=ry;exact PySem.EqNone.ne_none_int (Zah I q (by simp))
  | str j=>obtain ⟨t',rfl⟩:=ry;exact PySem.EqNone.ne_none_str (Zah I q (by simp))
  | _=>exact absurd (show false=true from hs) Bool.false_ne_true
 | bl i =>
  cases rx
  cases y with
  | non=>cases ry;exact PySem.EqNone.ne_bool_none (Zah I q (by simp))
  | bl j=>cases ry;exact ne_bool (Zah I q (congrArg not YbA))
  | str j=>obtain ⟨t',rfl⟩:=ry;exact PySem.EqMixed.ne_bool_str (Zah I q (by simp))
  | _=>exact absurd (show false=true from hs) Bool.false_ne_true
 | int i =>
  obtain ⟨t,rfl⟩:=rx
  cases y with
  | non=>cases ry;exact PySem.EqNone.ne_int_none (Zah I q (by simp))
  | int j=>obtain ⟨t',rfl⟩:=ry;exact ne_int (Zah I q (congrArg not xbf))
  | str j=>obtain ⟨t',rfl⟩:=ry;exact PySem.EqMixed.ne_int_str (Zah I q (by simp))
  | _=>exact absurd (show false=true from hs) Bool.false_ne_true
 | str i =>
  obtain ⟨t,rfl⟩:=rx
  cases y with
  | non=>cases ry;exact PySem.EqNone.ne_str_none (Zah I q (by simp))
  | bl j=>cases ry;exact PySem.EqMixed.ne_str_bool (Zah I q (by simp))
  | int j=>obtain ⟨t',rfl⟩:=ry;exact PySem.EqMixed.ne_str_int (Zah I q (by simp))
  | str j=>obtain ⟨t',rfl⟩:=ry;exact ne_str (Zah I q (congrArg not Xbf))
  | _=>exact absurd (show false=true from hs) Bool.false_ne_true
 | byt i =>
  obtain ⟨t,rfl⟩:=rx
  cases y with
  | byt j=>obtain ⟨t',rfl⟩:=ry;exact PySem.W.ne_bytes (Zah I q (congrArg not zbg))
  | _=>exact absurd (show false=true from hs) Bool.false_ne_true
 | _=>cases y <;> exact absurd (show false=true from hs) Bool.false_ne_true
theorem xa1:OpR X (compareOp .Lt) (rI0 fun i j=>.bl (decide (i < j))):=opB0 fun _ _ _ _ _ _ _ q=>lt_int q
theorem op_le:OpR X (compareOp .LtE) (rI0 fun i j=>.bl (decide (i≤j))):=opB0 fun _ _ _ _ _ _ _ q=>le_int q
theorem Ybr:OpR X (compareOp .Gt) (rI0 fun i j=>.bl (decide (j < i))):=opB0 fun _ _ _ _ _ _ _ q=>gt_int q
theorem op_ge:OpR X (compareOp .GtE) (rI0 fun i j=>.bl (decide (j≤i))):=opB0 fun _ _ _ _ _ _ _ q=>ge_int q
theorem op_isN:OpR X (compareOp .Is) (fun x y H Q=>y=.non∧Q (.bl (decide (x=.non))) H):=by
 intro pins s σ H x y v u Q I rx ry h
 obtain ⟨rfl,q⟩:=h
 cases ry
 refine is_none_gen (Zah I q ?_)
 cases x <;> first
  | (cases rx;rfl)
  | (obtain ⟨t,rfl⟩:=rx;rfl)
theorem xbD:OpR X (compareOp .IsNot) (fun x y H Q=>y=.non∧Q (.bl (!decide (x=.non))) H):=by
 intro pins s σ H x y v u Q I rx ry h
 obtain ⟨rfl,q⟩:=h
 cases ry
 refine isnot_none_gen (Zah I q ?_)
 cases x <;> first
  | (cases rx;rfl)
  | (obtain ⟨t,rfl⟩:=rx;rfl)
theorem nomark (b:Expr) {op:CmpOp} (h:op≠.In:=by decide) (h2:op≠.NotIn:=by decide):behindInMarks op b=false:=by
 have e1:(op == CmpOp.In)=false:=by cases op <;> first | rfl | exact absurd rfl h
 have e2:(op == CmpOp.NotIn)=false:=by cases op <;> first | rfl | exact absurd rfl h2
 cases b <;> simp [behindInMarks,e1,e2]
theorem ybg {op:CmpOp} {r:R2} (ho:OpR X (compareOp op) r) (ha:PE X a ta) (hb:PE X b tb) (hm:behindInMarks op b=false):PE X (.Compare a [op] [b] pos) (tOp r ta tb):=by
 intro pins s σ H Q I h
 exact wpAny_Compare1 (binT ha hb I h fun v u s2 x y H2 I2 rx ry q=>ho pins s2 σ H2 x y v u Q I2 rx ry q) hm
noncomputable def tTest (t:TE):TT:=fun σ H Q=>t σ H fun x H'=>∃ k,x=.bl k∧Q k H'
theorem Xae {op:CmpOp} {r:R2} (ho:OpR X (compareOp op) r) (ha:PE X a ta) (hb:PE X b tb) (hm:behindInMarks op b=false):PT X (.Compare a [op] [b] pos) (tTest (tOp r ta tb)):=by
 intro pins s σ H Q I h
 refine wpAny_isTrue_Compare1 (thn (ha pins s σ H _ I h) fun v s1 ⟨x,H1,I1,r1,q1⟩=>thn (hb pins s1 σ H1 _ I1 q1) fun u s2 ⟨y,H2,I2,r2,q2⟩ =>
  thn (ho pins s2 σ H2 x y v u _ I2 r1 r2 q2) fun c s3 ⟨z,H3,I3,r3,k,e,q3⟩=>?_) hm
 subst e
 cases r3
 exact wpAny_truthy_bool ⟨H3,I3,q3⟩
noncomputable def tChain (r r':R2) (ta tb tc:TE):TE:=fun σ H Q=>ta σ H fun x H1=>tb σ H1 fun y H2=>r x y H2 fun z H3=>∃ k,z=.bl k ∧
 (if k=true then tc σ H3 fun w' H4=>r' y w' H4 Q else Q (.bl false) H3)
theorem xbr {op op':CmpOp} {r r':R2} (ho:OpR X (compareOp op) r) (ho':OpR X (compareOp op') r') (ha:PE X a ta) (hb:PE X b tb) (hc:PE X c tc)
  (hm:lastMarks [op,op'] [b,c]=false:=by with_unfolding_all rfl):PT X (.Compare a [op,op'] [b,c] pos) (tTest (tChain r r' ta tb tc)):=by
 intro pins s σ H Q I h
 refine isTrue_chain (thn (ha pins s σ H _ I h) fun v s1 ⟨x,H1,I1,r1,q1⟩=>test_link (thn (hb pins s1 σ H1 _ I1 q1) fun u s2 ⟨y,H2,I2,r2,q2⟩ =>
  thn (ho pins s2 σ H2 x y v u _ I2 r1 r2 q2) fun d s3 ⟨z,H3,I3,r3,k,e,q3⟩=>?_)) hm
 subst e
 cases r3
 refine wpAny_truthy_bool ?_
 cases k with
 | false =>
  obtain ⟨k',e',q'⟩:=q3
  cases e'
  exact ite_ff ⟨H3,I3,q'⟩
 | true =>
  refine ite_tt (test_last (thn (hc pins s3 σ H3 _ I3 q3) fun w' s4 ⟨z',H4,I4,r4,q4⟩=>thn (ho' pins s4 σ H4 y z' u w' _ I4 r2 r4 q4) fun d' s5 ⟨z2,H5,I5,r5,k2,e2,q5⟩=>?_))
  subst e2
  cases r5
  exact wpAny_truthy_bool ⟨H5,I5,q5⟩
theorem line63:(sizeLine:Nat) < 2 ^ 63:=by rw [sizeLine_eq];decide
theorem vals1 {x:V} {us:List Value} (r:Vals [x] us):∃ u,us=[u]∧RelV x u:=by
 cases r with
 | cons r1 r2=>cases r2;exact ⟨_,rfl,r1⟩
theorem vals2 {x y:V} {us:List Value} (r:Vals [x,y] us):∃ u w',us=[u,w']∧RelV x u∧RelV y w':=by
 cases r with
 | cons r1 r2 =>
  cases r2 with
  | cons r3 r4=>cases r4;exact ⟨_,_,rfl,r1,r3⟩
theorem Zbg (hc:X.calm=true):CallR X (.builtin "max") (fun xs H Q=>∃ i j,xs=[.int i,.int j]∧Q (.int (if j > i then j else i)) H):=by
 intro pins s σ H xs us Q I r h
 obtain ⟨i,j,rfl,q⟩:=h
 obtain ⟨u,w',rfl,⟨t,rfl⟩,⟨t',rfl⟩⟩:=vals2 r
 refine max_two_ints (I.ok.hd hc) fun h' tk k=>⟨_,H,I.kept k,?_,q⟩
 by_cases hj:j > i
 ·rw [if_pos hj,if_pos hj];exact ⟨_,rfl⟩
 ·rw [if_neg hj,if_neg hj];exact ⟨_,rfl⟩
theorem YaX:CallR X (.type "int") (fun xs H Q=>(∃ i,xs=[.int i]∧Q (.int i) H)∨∃ k,xs=[.bl k]∧Q (.int (if k then 1 else 0)) H):=by
 intro pins s σ H xs us Q I r h
 rcases h with ⟨i,rfl,q⟩ | ⟨k,rfl,q⟩
 ·obtain ⟨u,rfl,t,rfl⟩:=vals1 r
  exact call_int_int ⟨.int i,H,I,⟨_,rfl⟩,q⟩
 ·obtain ⟨u,rfl,r1⟩:=vals1 r
  cases r1
  exact call_int_bool ⟨.int (if k then 1 else 0),H,I.tok _,⟨_,rfl⟩,q⟩
end
end L2
namespace L2
open PySem PySem.Spec PyProof.Rows
theorem Ybg {h:Heap} {dx:Addr} {mA:Str→Option Value} (n:h.Ns1 dx mA):∃ od,h.get? dx=some od∧∀ name,PySem.W.lookIn name od=some (mA name):=by
 obtain ⟨o,es,ep,ho,hd,hk,_,hm⟩:=n
 refine ⟨o,ho,fun name=>?_⟩
 have e:=hm name
 unfold nsFind findBy at e
 rw [← Array.find?_toList] at e
 unfold PySem.W.lookIn
 rw [hd]
 dsimp only
 split
 ·rename_i y q
  rw [q] at e
  exact congrArg some e
 ·rename_i q
  rw [q] at e
  have a:es.toList.any (·.refKey)=false:=by
   rw [List.any_eq_false]
   intro y hy
   obtain ⟨z,t,hkey⟩:=hk y (Array.mem_toList_iff.mp hy)
   simp [DictEntry.refKey,hkey]
  have a':¬ es.toList.any (·.refKey)=true:=by rw [a];exact Bool.false_ne_true
  rw [if_neg a']
  exact congrArg some e
section
variable {prog:Program} {w:World} {A:Around} {E:Value→Shared→Prop} {s:Shared} {K:PySem.W.Frag} {x dx C f:Addr} {mA:Str→Option Value} {name:Str} {v:Value}
end
theorem RelO.some_of {v:V} {o:Option Value} (r:RelO (some v) o):∃ u,o=some u∧RelV v u:=by
 cases o with
 | none=>exact (show False from r).elim
 | some u=>exact ⟨u,rfl,r⟩
theorem xbg {v:V} {u:Value} (r:RelV v u):PySem.W.handedIn u=true:=by
 cases v with
 | non=>cases (show u=Value.none from r);rfl
 | bl b=>cases (show u=Value.bool b from r);rfl
 | int i=>obtain ⟨t,e⟩:=(show ∃ t,u=Value.int i t from r);cases e;rfl
 | str x=>obtain ⟨t,e⟩:=(show ∃ t,u=Value.str x t from r);cases e;rfl
 | byt b=>obtain ⟨t,e⟩:=(show ∃ t,u=Value.bytes b t from r);cases e;rfl
 | flt b=>obtain ⟨t,e⟩:=(show ∃ t,u=Value.float b t from r);cases e;rfl
 | ref a=>cases (show u=Value.ref a from r);rfl
 | ty n=>cases (show u=Value.type n from r);rfl
section
variable {P:Program} {w:World} {H H':Hp} {h h':Heap} {a C dx:Addr} {fs fs':List (Str×V)}
end
structure Con (K:PySem.W.Frag) (C:Addr) (f:Str) (v:V) (u:Value):Prop where
 at_:PySem.W.findIn K (.ref C) f=some (some u)
 rel:RelV v u
 get:PySem.W.specialIn K u "__get__" = some none
 cp:PySem.W.copiedNames.contains f=false
section
variable {X:Cx} {pins:List (Addr×Obj)} {σ:St} {H:Hp} {s:Shared} {a C dx:Addr} {fs:List (Str×V)} {f:Str} {v:V} {A:Around} {E:Value→Shared→Prop}
theorem XbD {prog:Program} {w:World} {env:Env} {e:Expr} {f:Str} {pos:Pos} {s:Shared} {Q:Value→Shared→Prop} (hb:attributeBase e f env (eval e env)=eval e env)
  (h:wpAny (model prog w) A (eval e env) (fun o s₁=>wpAny (model prog w) A (getAttr o f true) Q E s₁) E s):wpAny (model prog w) A (eval (.Attribute e f pos) env) Q E s :=
 Attribute_any_ h (by rw [arm_eval_Attribute,hb])
end
section
variable {X:Cx} {o e value:Expr} {f:Str} {pos pos' tpos:Pos} {ta tv:TE}
end
section
variable {X:Cx} {pins:List (Addr×Obj)} {σ:St} {H:Hp} {s:Shared} {A:Around} {E:Value→Shared→Prop} {Q:Value→Shared→Prop} {c:Value} {b:Bool}
end
end L2
namespace L2
open PySem PySem.Spec PyProof.Rows
structure Room (k:Nat) (A:Around):Prop where
 hd:A.handled=none
 dp:A.depth + 3 * k + 5 < recursionLimit
 un:A.units + 16 * k + 200 < cLine
 gd:A.guards=some []
theorem Room.mono {j k:Nat} {A:Around} (r:Room k A) (h:j≤k):Room j A:=⟨r.hd,by have:=r.dp;omega,by have:=r.un;omega,r.gd⟩
theorem Room.deeper {k:Nat} {A:Around} (r:Room (k + 1) A) (env:Env):Room k (A.deeper env) :=
 ⟨r.hd,by have:=r.dp;show A.depth + 1 + 3 * k + 5 < _;omega,by have:=r.un;show A.units + 3 + 16 * k + 200 < _;omega,r.gd⟩
theorem Zba {A:Around} {C:Addr} {us:List Value} {kw:List (Str×Value)}:(A.under (.builtin "type.__call__" ⟨.ref C :: us,kw⟩)).depth=A.depth + 1:=by
 first | rfl | simp [Around.under,Code.weight,Code.isCreation,Code.isGuard,Code.isCaller,Code.frames,Code.isFrame,guardIds]
theorem Yba {A:Around} {C:Addr} {us:List Value} {kw:List (Str×Value)}:(A.under (.builtin "type.__call__" ⟨.ref C :: us,kw⟩)).units=A.units + 1:=by
 first | rfl | simp [Around.under,Code.cUnits,Code.frames,Code.isFrame]
theorem Xa1 {A:Around} {C:Addr} {us:List Value} {kw:List (Str×Value)}:(A.under (.builtin "type.__call__" ⟨.ref C :: us,kw⟩)).guards=A.guards:=by
 first | rfl | simp [Around.under,Code.guards,Code.isGuard,pushGuards,guardIds]
theorem Room.make {k:Nat} {A:Around} (r:Room (k + 1) A) (C:Addr) (us:List Value) (kw:List (Str×Value)):Room k (A.under (.builtin "type.__call__" ⟨.ref C :: us,kw⟩)) :=
 ⟨r.hd,by have:=r.dp;rw [Zba];omega,by have:=r.un;rw [Yba];omega,by rw [Xa1];exact r.gd⟩
theorem Room.depth {k:Nat} {A:Around} (r:Room k A):A.depth < recursionLimit:=by have:=r.dp;omega
theorem Room.units {k:Nat} {A:Around} (r:Room k A):A.units + 64 < cLine:=by have:=r.un;omega
noncomputable def tNil:TA:=fun _ H Q=>Q [] H
noncomputable def tCons (ta:TE) (tr:TA):TA:=fun σ H Q=>ta σ H fun x H1=>tr σ H1 fun xs H2=>Q (x :: xs) H2
section
variable {X:Cx} {e:Expr} {es:List Expr} {te:TE} {t:TA} {pos:Pos}
theorem Yaa:PA X [] tNil:=fun _ _ _ _ H Q I h=>Calls.spliced_nil ⟨[],H,I,.nil,h⟩
theorem zaa (ha:PE X e te) (hr:PA X es t) (hs:starEach (e :: es) X.env=(false,eval e X.env) :: starEach es X.env:=by rfl):PA X (e :: es) (tCons te t):=by
 intro pos pins s σ H Q I h
 rw [hs]
 show wpAny _ _ (spliced ((false,eval e X.env) :: backTo pos (starEach es X.env))) _ _ s
 refine Calls.spliced_cons (thn (ha pins s σ H _ I h) fun u s1 ⟨x,H1,I1,r1,q1⟩=>?_)
 exact thn (hr pos pins s1 σ H1 _ I1 q1) fun us s2 ⟨xs,H2,I2,r2,q2⟩=>⟨x :: xs,H2,I2,.cons r1 r2,q2⟩
noncomputable def tTup (t:TA):TE:=fun σ H Q=>t σ H fun xs H1=>xs.length≤sizeLine∧∀ p,H1 p=none→Q (.ref p) (upd H1 p (.tup xs))
noncomputable def tLst (t:TA):TE:=fun σ H Q=>t σ H fun xs H1=>xs.length≤sizeLine∧∀ p,H1 p=none→Q (.ref p) (upd H1 p (.lst xs))
theorem zak {x1} (h:PA X es t):PE X (.Tuple es x1 pos) (tTup t):=by
 intro pins s σ H Q I hq
 refine wpAny_Tuple_spliced (thn (h pos pins s σ H _ I hq) fun us s1 ⟨xs,H1,I1,r,z,q⟩=>⟨by rw [← r.length];exact z,?_⟩)
 have hf:H1 s1.heap.objs.size=none:=I1.hok.fresh (Nat.le_refl _)
 refine ⟨.ref s1.heap.objs.size,upd H1 s1.heap.objs.size (.tup xs),I1.laid (t':=s1.toks) (fun b u e=>Heap.get?_push_of_some _ e) (Nat.le_refl _) ?_,rfl,q _ hf⟩
 exact ⟨z,us,r,⟨_,Heap.get?_push_size _ rfl,rfl,rfl,_,rfl⟩⟩
theorem Zap (h:PA X es t):PE X (.List es pos) (tLst t):=by
 intro pins s σ H Q I hq
 refine wpAny_List_spliced (thn (h pos pins s σ H _ I hq) fun us s1 ⟨xs,H1,I1,r,z,q⟩=>⟨by rw [← r.length];exact z,?_⟩)
 have hf:H1 s1.heap.objs.size=none:=I1.hok.fresh (Nat.le_refl _)
 refine ⟨.ref s1.heap.objs.size,upd H1 s1.heap.objs.size (.lst xs),I1.laid (t':=s1.toks) (fun b u e=>Heap.get?_push_of_some _ e) (Nat.le_refl _) ?_,rfl,q _ hf⟩
 exact ⟨z,us,0,r,Heap.get?_push_size _ rfl⟩
end
abbrev Sp:=List V→Hp→VK→XK→Prop
abbrev CXT:=List Env→Hp→Shared→XK→Value→Shared→Prop
structure Env0 (P:Program) (w:World) (K:PySem.W.Frag) (mg:Str→Option Value) (base:Heap) (A:Around) (outer:List Env) (s:Shared) (H:Hp):Prop where
 frames:A.frames=some outer
 mod:Mod K mg base
 bs:∀ b o,base.get? b=some o→s.heap.get? b=some o∧H b=none
 bsz:base.objs.size≤s.heap.objs.size
 funs:s.heap.FunFrames base outer
 frf:∀ b∈frs outer,H b=none
 hok:HOk P w H s.heap
 bare:AllBare s.gens
noncomputable def CE (outer:List Env) (P:Program) (w:World) (H:Hp) (s:Shared) (Q:VK) (u:Value) (s':Shared):Prop :=
 ∃ v H',s'.os=s.os∧AllBare s'.gens∧Un (frs outer) [] H H' s.heap s'.heap∧HOk P w H' s'.heap∧RelV v u∧Q v H'
noncomputable def CR (CX:CXT) (outer:List Env) (P:Program) (w:World) (H:Hp) (s:Shared) (Q:VK) (E:XK) (r:Result) (s':Shared):Prop :=
 match r with
 | .ok (.ret u)=>CE outer P w H s Q u s'
 | .ok _=>False
 | .error e=>CX outer H s E e s'
structure FnOk (P:Program) (w:World) (K:PySem.W.Frag) (mg:Str→Option Value) (base:Heap) (CX:CXT) (k:Nat) (f:Addr) (fd:FuncData) (ps:List Str) (sp:Sp):Prop where
 len:∀ vs H Q E,sp vs H Q E→vs.length=ps.length
 run:∀ (A:Around) (outer:List Env) (s:Shared) (H:Hp) (args:Args) (us:List Value) (vs:List V) (Q:VK) (E:XK),Room k A→Env0 P w K mg base A outer s H→BindsTo s fd args (ps.zip us)→Vals vs us→sp vs H Q E →
  codeAny (model P w) A (.call (.ref f) args) (CR CX outer P w H s Q E) s
theorem FnOk.imp {P:Program} {w:World} {K:PySem.W.Frag} {mg:Str→Option Value} {base:Heap} {CX:CXT} {k:Nat} {f:Addr} {fd:FuncData} {ps:List Str} {sp sp':Sp} (F:FnOk P w K mg base CX k f fd ps sp)
  (h:∀ vs H Q E,sp' vs H Q E→sp vs H Q E):FnOk P w K mg base CX k f fd ps sp' :=
 ⟨fun vs H Q E q=>F.len vs H Q E (h _ _ _ _ q),fun A outer s H args us vs Q E hr he hb hv hs=>F.run A outer s H args us vs Q E hr he hb hv (h _ _ _ _ hs)⟩
theorem Env0.make {P:Program} {w:World} {K:PySem.W.Frag} {mg:Str→Option Value} {base:Heap} {A:Around} {outer:List Env} {s:Shared} {H:Hp} (e:Env0 P w K mg base A outer s H) (C:Addr) (us:List Value) (kw:List (Str×Value)) :
  Env0 P w K mg base (A.under (.builtin "type.__call__" ⟨.ref C :: us,kw⟩)) outer s H:=⟨by first | exact e.frames | (simpa [Around.under,Code.envs,Code.isFrame,pushEnvs] using e.frames),e.mod,e.bs,e.bsz,e.funs,e.frf,e.hok,e.bare⟩
section
variable {X:Cx} {pins:List (Addr×Obj)} {σ:St} {H:Hp} {s s':Shared}
theorem Inv.env0 (I:Inv X pins σ H s):Env0 X.prog X.w X.K X.mg X.base X.A X.stack s H :=
 ⟨I.ok.frames,I.ok.mod,I.bs,Nat.le_trans I.ok.bsz I.sz,I.stack,I.stkFree,I.hok,I.bare⟩
theorem Inv.after {Q:VK} {u:Value} (I:Inv X pins σ H s) (h:CE X.stack X.prog X.w H s Q u s'):EP X pins σ Q u s':=by
 obtain ⟨v,H',os,bare,un,hok,r,q⟩:=h
 obtain ⟨hh,g,d,t,os'⟩:=s'
 obtain rfl:os'=s.os:=os
 exact ⟨v,H',I.call (h':=hh) (g':=g) (d':=d) (t':=t) (ch:=[]) un hok bare (fun b z=>absurd z (by simp)),r,q⟩
end
noncomputable def tCall (sp:Sp) (dvs:List V) (E:XK) (t:TA):TE:=fun σ H Q=>t σ H fun vs H1=>sp (vs ++ dvs) H1 Q E
noncomputable def Binds (K:PySem.W.Frag) (fd:FuncData) (ps:List Str) (ds:List Value):Prop :=
 ∀ (s:Shared) (us:List Value),K.In s.heap→(us ++ ds).length=ps.length→BindsTo s fd ⟨us,[]⟩ (ps.zip (us ++ ds))
theorem Binds.all {K:PySem.W.Frag} {fd:FuncData} {ps:List Str} (h:∀ us:List Value,us.length=ps.length→bindArgs fd ⟨us,[]⟩=pure (ps.zip us)):Binds K fd ps []:=fun s us _ hl=>by
 rw [List.append_nil] at hl ⊢
 exact .of_eq (h us hl)
noncomputable def Passes (CX:CXT) (X:Cx) (E:XK):Prop:=∀ (pins:List (Addr×Obj)) (σ:St) (H:Hp) (s:Shared) (e:Value) (s':Shared),Inv X pins σ H s→CX X.stack H s E e s'→X.xe e s'
section
variable {X:Cx} {CX:CXT} {k:Nat} {f C:Addr} {fd:FuncData} {ps:List Str} {sp:Sp} {dvs:List V} {ds:List Value} {E:XK} {x m:Str} {p pos apos:Pos} {e o:Expr} {es:List Expr} {ta:TE} {t:TA}
theorem run_fn {pins:List (Addr×Obj)} {σ:St} {H:Hp} {s:Shared} {Q:VK} {us:List Value} {vs:List V} (F:FnOk X.prog X.w X.K X.mg X.base CX k f fd ps sp) (hr:Room k X.A) (hb:Binds X.K fd ps ds) (hd:Vals dvs ds) (hx:Passes CX X E)
  (I:Inv X pins σ H s) (r:Vals vs us) (h:sp (vs ++ dvs) H Q E):wpAny (model X.prog X.w) X.A (call (.ref f) us) (EP X pins σ Q) X.xe s:=by
 have r2:Vals (vs ++ dvs) (us ++ ds):=r.append hd
 have hl:(us ++ ds).length=ps.length:=by rw [← r2.length];exact F.len _ _ _ _ h
 refine wpAny_call (codeAny_mono (F.run X.A X.stack s H ⟨us,[]⟩ (us ++ ds) (vs ++ dvs) Q E hr I.env0 (hb s us I.kIn hl) r2 h) fun r s' hq=>?_)
 cases r with
 | error e=>exact hx pins σ H s e s' I hq
 | ok fl =>
  cases fl with
  | ret u=>exact I.after hq
  | next=>exact False.elim hq
  | brk=>exact False.elim hq
  | cont=>exact False.elim hq
theorem Xaf (F:FnOk X.prog X.w X.K X.mg X.base CX k f fd ps sp) (hr:Room k X.A) (hg:Gl X x) (hm:X.mg x=some (.ref f)) (hk:PySem.W.keepIn X.K (.ref f)=true) (hb:Binds X.K fd ps ds) (hd:Vals dvs ds) (hx:Passes CX X E)
  (ha:PA X (e :: es) t) (hdb:(x == ("__debug__" : Str))=false:=by decide) (he:starEach (e :: es) X.env=(false,eval e X.env) :: starEach es X.env:=by rfl) (hpl:(backTo pos (starEach es X.env)).any (·.1)=false:=by rfl) :
  PE X (.Call (.Name x p) (e :: es) [] pos) (tCall sp dvs E t):=by
 intro pins s σ H Q I h
 refine wpAny_Call_Name_kw (YaK I hg hm ?_ hdb)
 refine PySem.W.callWith_K (h₀:=X.base) I.ok.mod.kin hk (thn (ha pos pins s σ H _ I h) fun us s1 ⟨vs,H1,I1,r,q⟩=>⟨I1.kIn,?_⟩) he hpl
 exact run_fn F hr hb hd hx I1 r q
end
section
variable {X:Cx} {CX:CXT} {k:Nat} {f C:Addr} {fd:FuncData} {ps ks:List Str} {sp:Sp} {E:XK} {x m:Str} {p pos apos kpos:Pos} {e o:Expr} {es:List Expr} {kws:List Keyword} {te ta:TE} {t tk:TA} {nm:Option Str}
variable {g:List Value→List Value→List Value} {gV:List V→List V→List V}
end
structure FnScope (N P:List Str) (sc:Scope):Prop where
 kind:sc.kind=.function
 co:sc.isCoroutine=false
 gen:sc.isGenerator=false
 nd:N.Nodup
 pre:N.take P.length=P
 par:∀ x∈P,sc.names.lookup x=some .local∨sc.names.lookup x=some .cell
 nofree:∀ y∈sc.names,y.2≠.free
theorem xaX {kindOf:Str→Option NameKind} {x:Str}:∀ {binds:List (Str×Value)} {m:Str→Option Value},(∀ v,(x,v) ∉ binds)→bindL kindOf binds m x=m x
 | [],_,_=>rfl
 | (n,v) :: r,m,h=>by
  unfold bindL
  rw [xaX fun w hw=>h w (List.mem_cons_of_mem _ hw)]
  split
  ·have:x≠n:=by rintro rfl;exact h v List.mem_cons_self
   simp [this]
  ·rfl
theorem XaX {kindOf:Str→Option NameKind} {x:Str}:∀ {binds:List (Str×Value)} {m:Str→Option Value},(∀ v,(x,v) ∉ binds)→bindC kindOf binds m x=m x
 | [],_,_=>rfl
 | (n,v) :: r,m,h=>by
  unfold bindC
  rw [XaX fun w hw=>h w (List.mem_cons_of_mem _ hw)]
  split
  ·rfl
  ·have:x≠n:=by rintro rfl;exact h v List.mem_cons_self
   simp [this]
theorem zaY {kindOf:Str→Option NameKind} {x:Str} {v:Value}:∀ {P:List Str} {vs:List Value} {i:Nat} {m:Str→Option Value},P.Nodup→P[i]?=some x→vs[i]?=some v→kindOf x=some .local →
  bindL kindOf (P.zip vs) m x=some v
 | [],_,_,_,_,h,_,_=>by simp at h
 | _ :: _,[],_,_,_,_,h,_=>by simp at h
 | p :: P,w :: vs,0,m,nd,h1,h2,hk=>by
  simp at h1 h2;subst h1;subst h2
  show bindL kindOf ((p,w) :: P.zip vs) m p=_
  unfold bindL
  rw [xaX fun v hv=>(List.nodup_cons.mp nd).1 (List.of_mem_zip hv).1,if_pos hk]
  simp
 | p :: P,w :: vs,i + 1,m,nd,h1,h2,hk=>by
  show bindL kindOf ((p,w) :: P.zip vs) m x=_
  unfold bindL
  exact zaY (i:=i) (List.nodup_cons.mp nd).2 (by simpa using h1) (by simpa using h2) hk
theorem yaY {kindOf:Str→Option NameKind} {x:Str} {v:Value}:∀ {P:List Str} {vs:List Value} {i:Nat} {m:Str→Option Value},P.Nodup→P[i]?=some x→vs[i]?=some v→kindOf x≠some .local →
  bindC kindOf (P.zip vs) m x=some v
 | [],_,_,_,_,h,_,_=>by simp at h
 | _ :: _,[],_,_,_,_,h,_=>by simp at h
 | p :: P,w :: vs,0,m,nd,h1,h2,hk=>by
  simp at h1 h2;subst h1;subst h2
  show bindC kindOf ((p,w) :: P.zip vs) m p=_
  unfold bindC
  rw [XaX fun v hv=>(List.nodup_cons.mp nd).1 (List.of_mem_zip hv).1,if_neg hk]
  simp
 | p :: P,w :: vs,i + 1,m,nd,h1,h2,hk=>by
  show bindC kindOf ((p,w) :: P.zip vs) m x=_
  unfold bindC
  exact yaY (i:=i) (List.nodup_cons.mp nd).2 (by simpa using h1) (by simpa using h2) hk
noncomputable def start (N:List Str) (vs:List V):St:=vs.map some ++ List.replicate (N.length - vs.length) none
noncomputable def cxOf (CX:CXT) (P:Program) (w:World) (K:PySem.W.Frag) (mg:Str→Option Value) (base:Heap) (N:List Str) (qual:Str) (scope:Scope) (f:Addr) (cd:Value) (A:Around) (outer:List Env) (s:Shared) (H:Hp) (E:XK):Cx where
 prog:=P
 w:=w
 K:=K
 mg:=mg
 base:=base
 A:=A.deeper (envOfC qual scope s.heap.objs.size f cd)
 N:=N
 s₀:=s
 H₀:=H
 env:=envOfC qual scope s.heap.objs.size f cd
 outer:=outer
 stack:=envOfC qual scope s.heap.objs.size f cd :: outer
 ex:=[]
 calm:=true
 fn:=fun _=>true
 pn:=[]
 xe:=fun e s'=>wpAny (model P w) (A.deeper (envOfC qual scope s.heap.objs.size f cd)) («leaving» (envOfC qual scope s.heap.objs.size f cd) e) (fun _ s''=>CX outer H s E e s'') (fun e' s''=>CX outer H s E e' s'') s'
theorem Xa5 {sc:Scope} {n:Nat} {x:Str} (h:sc.names.lookup x=some .cell):∃ c,(cellsFrom n sc.names []).lookup x=some c:=by
 have q:=PySem.W.cellsFrom_some sc.names n [] (.inl h)
 exact Option.isSome_iff_exists.mp q
theorem Xbg {CX:CXT} {P:Program} {w:World} {K:PySem.W.Frag} {mg:Str→Option Value} {base:Heap} {N ps:List Str} {qual:Str} {scope:Scope} {f:Addr} {cd:Value} {A:Around} {outer:List Env} {s s1:Shared} {H:Hp} {E:XK} {us:List Value} {vs:List V}
  (S:FnScope N ps scope) (hd:A.handled=none) (e0:Env0 P w K mg base A outer s H) (hl:vs.length=ps.length) (r:Vals vs us)
  (x:InCallC s s.heap.objs.size (bindL (envOfC qual scope s.heap.objs.size f cd).kindOf (ps.zip us) fun _=>none) (cellsFrom (s.heap.objs.size + 1) scope.names []) (bindC (envOfC qual scope s.heap.objs.size f cd).kindOf (ps.zip us) fun _=>none) s1) :
  Inv (cxOf CX P w K mg base N qual scope f cd A outer s H E) [] (start N vs) H s1:=by
 have hpl:ps.length≤N.length:=by have:=congrArg List.length S.pre;rw [List.length_take] at this;omega
 obtain ⟨h1,tk,rfl,hk⟩:=x.done
 have noA:∀ b:Addr,b ∉ (cxOf CX P w K mg base N qual scope f cd A outer s H E).ex:=fun b z=>absurd (show b∈([]:List Addr) from z) (by simp)
 refine ⟨⟨e0.mod,S.kind,rfl,rfl,Nat.le_refl _,fun y z c h1 h2=>?_,fun y hy=>?_,fun y c _ h=>?_,fun _=>hd,Around.frames_deeper e0.frames,.inr ⟨rfl,rfl⟩,fun b z=>absurd z (noA b),e0.bs,e0.bsz,fun b _ _=>noA b,fun b z=>absurd z (noA b),e0.funs,e0.frf⟩,
  rfl,e0.bare,Un.kept hk,⟨_,x.toInCall.ns,fun i y v h1 h2 h3=>?_⟩,fun y c h=>⟨_,x.cell y c h⟩,e0.hok.fresh (Nat.le_refl _),fun y c h=>?_,fun p hp=>absurd (show p∈([]:List (Addr×Obj)) from hp) (by simp),e0.hok.kept hk,?_⟩
 ·exact name_of_addr x.apart (PySem.mem_of_lookup h1) (PySem.mem_of_lookup h2)
 ·have hy:scope.names.lookup y=some .cell∨scope.names.lookup y=some .free:=hy
  rcases hy with hy | hy
  ·exact Xa5 hy
  ·exact absurd rfl (S.nofree _ (PySem.mem_of_lookup hy))
 ·exact Nat.le_of_lt (x.above y c (PySem.mem_of_lookup h))
 ·have hi:i < vs.length:=by
   unfold start at h2
   by_cases hi:i < vs.length
   ·exact hi
   ·rw [List.getElem?_append_right (by simpa using hi)] at h2
    rw [List.getElem?_replicate] at h2
    split at h2 <;> cases h2
  have ha:vs[i]?=some v:=by
   unfold start at h2
   rw [List.getElem?_append_left (by simpa using hi),List.getElem?_map] at h2
   cases e:vs[i]? with
   | none=>rw [e] at h2;cases h2
   | some a=>rw [e] at h2;cases h2;rfl
  obtain ⟨u,hu,rv⟩:=r.get ha
  have hp:ps[i]?=some y:=by
   rw [← S.pre,List.getElem?_take_of_lt (by omega)];exact h1
  have ndP:ps.Nodup:=by rw [← S.pre];exact S.nd.sublist (List.take_sublist _ _)
  refine ⟨u,rv,?_⟩
  rcases S.par y (List.mem_of_getElem? hp) with k | k
  ·exact .inl ⟨k,zaY ndP hp hu k⟩
  ·obtain ⟨c,e⟩:=Xa5 (n:=s.heap.objs.size + 1) k
   refine .inr ⟨.inl k,c,e,?_⟩
   have q:=x.cell y c e
   rw [yaY ndP hp hu (by show scope.names.lookup y≠_;rw [k];decide)] at q
   exact q
 ·exact e0.hok.fresh (Nat.le_of_lt (x.above y c (PySem.mem_of_lookup h)))
 ·unfold start
  show _=N.length
  rw [List.length_append,List.length_map,List.length_replicate]
  omega
theorem fn_of {CX:CXT} {P:Program} {w:World} {K:PySem.W.Frag} {mg:Str→Option Value} {base:Heap} {k:Nat} {f:Addr} {name qual:Str} {params:Arguments} {body:List Stmt} {scope:Scope} {dV kV doc pm cdv ct oc:Value} {an od:Option Addr}
  {osl:Array (Option Value)} {N ps:List Str} {sp:Sp} (lk:K.lookup f=some ⟨oc,od,.func (PySem.W.fnOf name qual params body scope dV kV doc pm an cdv ct),osl⟩) (hcd:PySem.W.codeIn K cdv qual=true) (S:FnScope N ps scope)
  (len:∀ vs H Q E,sp vs H Q E→vs.length=ps.length)
  (hbody:∀ (A:Around) (outer:List Env) (s:Shared) (H:Hp) (vs:List V) (Q:VK) (E:XK),Room k (A.deeper (envOfC qual scope s.heap.objs.size f cdv))→sp vs H Q E →
   ∃ t,PSs (cxOf CX P w K mg base N qual scope f cdv A outer s H E) body t∧t { nx:=fun _ H'=>Q .non H',rt:=Q } (start N vs) H) :
  FnOk P w K mg base CX (k + 1) f (PySem.W.fnOf name qual params body scope dV kV doc pm an cdv ct) ps sp:=by
 refine ⟨len,fun A outer s H args us vs Q E hr e0 hb r hsp=>?_⟩
 have hl:=len _ _ _ _ hsp
 have KX:K.In s.heap:=e0.mod.kin.keeps fun b o e=>(e0.bs b o e).1
 have lim:s.heap.NoLimit:=e0.mod.nolimit.keeps fun b o e=>(e0.bs b o e).1
 have hkind:∀ y∈ps.zip us,scope.names.lookup y.1=some .local∨(scope.names.lookup y.1=some .cell∧((cellsFrom (s.heap.objs.size + 1) scope.names []).lookup y.1).isSome=true):=fun ⟨n,v⟩ hy=>by
  rcases S.par n (List.of_mem_zip hy).1 with q | q
  ·exact .inl q
  ·exact .inr ⟨q,PySem.W.cellsFrom_some _ _ _ (.inl q)⟩
 refine codeAny_call_function hr.depth (KX _ _ lk) rfl S.co S.gen rfl (PySem.W.codeRec_of KX hcd) (hb _ _ _ _ ?_)
 refine wpAny_newFunctionEnv_cells S.kind hkind fun env he s1 x=>?_
 subst he
 refine ⟨lim.keeps x.toInCall.keep,codeAny_func ?_⟩
 obtain ⟨t,ht,hq⟩:=hbody A outer s H vs Q E (hr.deeper _) hsp
 have I:Inv (cxOf CX P w K mg base N qual scope f cdv A outer s H E) [] (start N vs) H s1:=Xbg S hr.hd e0 hl r x
 refine wpAny_mono (ht [] s1 (start N vs) H _ I hq) (fun fl s' hs=>?_) fun e s' hs=>hs
 have fin:∀ {σ':St} {H':Hp} {v:V} {u:Value},Inv (cxOf CX P w K mg base N qual scope f cdv A outer s H E) [] σ' H' s'→RelV v u→Q v H'→CE outer P w H s Q u s' :=
  fun {σ' H' v u} J rv q=>⟨v,H',J.os,J.bare,J.base,J.hok,rv,q⟩
 cases fl with
 | ret u =>
  obtain ⟨v,σ',H',J,rv,q⟩:=hs
  exact fin J rv q
 | next =>
  obtain ⟨σ',H',J,q⟩:=hs
  exact fin (v:=V.non) (u:=Value.none) J rfl q
 | brk =>
  obtain ⟨_,_,_,q⟩:=hs
  exact False.elim q
 | cont =>
  obtain ⟨_,_,_,q⟩:=hs
  exact False.elim q
end L2
namespace L2
open PySem PySem.Spec PyProof.Rows
section
variable {X:Cx} {x:Str} {p pos:Pos} {e:Expr} {es:List Expr} {t:TA} {id T:String} {r:List V→Hp→VK→Prop}
noncomputable def tCB (r:List V→Hp→VK→Prop) (t:TA):TE:=fun σ H Q=>t σ H fun vs H1=>r vs H1 Q
theorem Yaf (hc:CallR X (.builtin id) r) (hg:Gl X x) (hm:X.mg x=none) (hv:bootBuiltins x=some (.builtin id)) (ha:PA X (e :: es) t) (hn:x≠"__name__" := by decide) (hdb:(x == ("__debug__" : Str))=false:=by decide)
  (he:starEach (e :: es) X.env=(false,eval e X.env) :: starEach es X.env:=by rfl) (hpl:(backTo pos (starEach es X.env)).any (·.1)=false:=by rfl):PE X (.Call (.Name x p) (e :: es) [] pos) (tCB r t):=by
 intro pins s σ H Q I h
 refine wpAny_Call_Name_kw (ZaR I hg hm hv ?_ hn hdb)
 exact PyProof.Rows.callWith_builtin1 (thn (ha pos pins s σ H _ I h) fun us s1 ⟨vs,H1,I1,r1,q1⟩=>hc pins s1 σ H1 vs us Q I1 r1 q1) he hpl
theorem Xad (hc:CallR X (.type T) r) (hg:Gl X x) (hm:X.mg x=none) (hv:bootBuiltins x=some (.type T)) (ha:PA X (e :: es) t) (hn:x≠"__name__" := by decide) (hdb:(x == ("__debug__" : Str))=false:=by decide)
  (he:starEach (e :: es) X.env=(false,eval e X.env) :: starEach es X.env:=by rfl) (hpl:(backTo pos (starEach es X.env)).any (·.1)=false:=by rfl):PE X (.Call (.Name x p) (e :: es) [] pos) (tCB r t):=by
 intro pins s σ H Q I h
 refine wpAny_Call_Name_kw (ZaR I hg hm hv ?_ hn hdb)
 exact PyProof.Rows.callWith_type1 (thn (ha pos pins s σ H _ I h) fun us s1 ⟨vs,H1,I1,r1,q1⟩=>hc pins s1 σ H1 vs us Q I1 r1 q1) he hpl
end
end L2
namespace HT
open PySem PyProof.Rows
section
open PySem.SeqAt
open PySem.AutoSeq1 (wpAny_loadPart')
open PySem.MeetsSeq PySem.MeetsSeq2 PySem.MeetsSeq3
end
section
variable {prog:Program} {w:World} {A:Around} {E:Value→Shared→Prop} {s:Shared}
theorem zbE {t b:Addr} {vs ws:List Value} {Q:Value→Shared→Prop} (ht:IsTup s.heap t vs.toArray) (hb:IsTup s.heap b ws.toArray) (hv:vs≠[])
  (h1:ws=[]→Q (.ref t) s) (h2:ws≠[]→Q (.ref s.heap.objs.size) { s with heap:=s.heap.push { cls:=.type "tuple",data:=.seq (vs ++ ws).toArray } })
  (hsz:vs.length + ws.length≤sizeLine):wpAny (model prog w) A (binaryOp .Add (.ref t) (.ref b)) Q E s:=by
 obtain ⟨⟨cls,dd,data,sl⟩,ho,hc,n,hd⟩:=id ht
 obtain ⟨⟨cls2,dd2,data2,sl2⟩,ho2,hc2,n2,hd2⟩:=id hb
 simp only at hc hd hc2 hd2
 subst hc hd hc2 hd2
 have e:vs.toArray ++ ws.toArray=(vs ++ ws).toArray:=by simp
 by_cases hw:ws=[]
 ·exact concat_meets ⟨_,ho,rfl⟩ ⟨_,ho2,rfl⟩ noFill_tuple_add seq_tuple_add PySem.F.slot_tuple_add PySem.F.entry_tuple_add (PySem.F.args_tuple_add_2 _ _)
   (tuple_addW1 t b vs.toArray ws.toArray n n2 dd dd2 sl sl2 (by simpa using hv) (by simp [hw])) ⟨ho,ho2,h1 hw⟩
 ·refine concat_meets ⟨_,ho,rfl⟩ ⟨_,ho2,rfl⟩ noFill_tuple_add seq_tuple_add PySem.F.slot_tuple_add PySem.F.entry_tuple_add (PySem.F.args_tuple_add_2 _ _)
   (tuple_addW2 t b vs.toArray ws.toArray n n2 dd dd2 sl sl2 (by simpa using hv) (by simpa using hw) (by rw [List.size_toArray,List.size_toArray];exact hsz)) ⟨ho,ho2,?_⟩
  rw [e]
  exact h2 hw
noncomputable def sIx (n d:Nat):Option Int→Nat
 | none=>d
 | some v=>if v < 0 then (v + (n:Int)).toNat else min v.toNat n
theorem za6 (n d:Nat):sIx n d none=d:=rfl
theorem zbh (n d k:Nat):sIx n d (some (k:Int))=min k n:=by
 show (if (k:Int) < 0 then ((k:Int) + (n:Int)).toNat else min (k:Int).toNat n)=min k n
 rw [if_neg (by omega),Int.toNat_natCast]
theorem sIx_le (n d:Nat) (hd:d≤n) (o:Option Int):sIx n d o≤n:=by
 cases o with
 | none=>exact hd
 | some v =>
  show (if v < 0 then (v + (n:Int)).toNat else min v.toNat n)≤n
  by_cases hv:v < 0
  ·rw [if_pos hv];omega
  ·rw [if_neg hv];exact Nat.min_le_right _ _
theorem ybh (v:Int) (n d:Nat):(if v < 0 then max (v + (n:Int)) 0 else min v (n:Int))=((sIx n d (some v):Nat):Int):=by
 show (if v < 0 then max (v + (n:Int)) 0 else min v (n:Int))=(((if v < 0 then (v + (n:Int)).toNat else min v.toNat n):Nat):Int)
 by_cases hv:v < 0
 ·simp only [if_pos hv];omega
 ·simp only [if_neg hv];omega
theorem xba (lo hi:Option Int) (n:Nat):Builtin.Slice.sliceAdjust lo hi 1 (n:Int)=(((sIx n 0 lo:Nat):Int),((sIx n n hi:Nat):Int)):=by
 have h1:¬ ((1:Int) < 0):=by omega
 unfold Builtin.Slice.sliceAdjust
 simp only [h1,if_false]
 refine Prod.ext ?_ ?_
 ·cases lo with
  | none=>rfl
  | some v=>exact ybh v n 0
 ·cases hi with
  | none=>rfl
  | some v=>exact ybh v n n
theorem Xba (i j:Nat):Builtin.Slice.slicePlaces (i:Int) (j:Int) 1=j - i:=by
 unfold Builtin.Slice.slicePlaces
 have h1:(1:Int) > 0:=by omega
 simp only [h1,if_true,Int.ediv_one]
 split <;> omega
theorem xaR {v:Value} {o:Option Int} {Q:Option Int→Shared→Prop} (p:IsPart v o) (h:Q o s):wpAny (model prog w) A (Builtin.Slice.slicePartIndex v) Q E s:=by
 cases p with
 | none=>exact slicePart_none h
 | int i t=>exact slicePart_int h
theorem ZaB {sl:Addr} {vl vu:Value} {lo hi:Option Int} {n:Nat} {Q:Int×Int×Nat→Shared→Prop} (hs:s.heap.IsSliceOf sl vl vu .none) (pl:IsPart vl lo) (pu:IsPart vu hi)
  (h:Q (((sIx n 0 lo:Nat):Int),1,sIx n n hi - sIx n 0 lo) s):wpAny (model prog w) A (Builtin.Slice.sliceApplied (.ref sl) (pure (n:Int))) Q E s:=by
 obtain ⟨os,hos,hcs,hds⟩:=id hs
 unfold Builtin.Slice.sliceApplied Builtin.Slice.sliceFields
 refine wpAny_bind (wpAny_bind (wpAny_field hos hds (x:=vl) rfl (wpAny_bind (wpAny_field hos hds (x:=vu) rfl (wpAny_bind (wpAny_field hos hds (x:=.none) rfl (wpAny_pure ?_)))))))
 refine wpAny_bind (slicePart_none ?_)
 show wpAny _ _ (if ((1:Int) == 0)=true then _ else _) _ _ s
 rw [if_neg (by decide)]
 refine wpAny_bind (xaR pl (wpAny_bind (xaR pu (wpAny_bind (wpAny_pure ?_)))))
 show wpAny _ _ (match Builtin.Slice.sliceAdjust lo hi 1 (n:Int) with | (lo,hi)=>pure (lo,(1:Int),Builtin.Slice.slicePlaces lo hi 1)) _ _ s
 rw [xba lo hi n]
 show wpAny _ _ (pure (((sIx n 0 lo:Nat):Int),(1:Int),Builtin.Slice.slicePlaces ((sIx n 0 lo:Nat):Int) ((sIx n n hi:Nat):Int) 1)) _ _ s
 rw [Xba]
 exact wpAny_pure h
theorem Xbr (xs:Array Value) (i k:Nat):((List.range k).filterMap fun (m:Nat)=>xs[((i:Int) + (m:Int) * 1).toNat]?).toArray=((xs.toList.drop i).take k).toArray:=by
 have e:(fun (m:Nat)=>xs[((i:Int) + (m:Int) * 1).toNat]?)=fun m=>xs[i + m]?:=by
  funext m
  have:((i:Int) + (m:Int) * 1).toNat=i + m:=by omega
  rw [this]
 rw [e]
 have:=pick_run xs i k
 rw [List.filterMap_map] at this
 have e2:((fun x=>xs[x]?) ∘ fun x=>i + x)=fun m=>xs[i + m]?:=rfl
 rw [e2] at this
 rw [this]
theorem XaG {t sl:Addr} {items:Array Value} {vl vu:Value} {lo hi:Option Int} {Q:Value→Shared→Prop} (ht:IsTup s.heap t items) (hs:s.heap.IsSliceOf sl vl vu .none) (pl:IsPart vl lo) (pu:IsPart vu hi)
  (hw:¬ (sIx items.size 0 lo=0∧sIx items.size items.size hi=items.size))
  (h:Q (.ref s.heap.objs.size) { s with heap:=s.heap.push { cls:=.type "tuple",data:=.seq ((items.toList.drop (sIx items.size 0 lo)).take (sIx items.size items.size hi - sIx items.size 0 lo)).toArray } })
  (hsz:items.size≤sizeLine):wpAny (model prog w) A (getItem (.ref t) (.ref sl)) Q E s:=by
 have htake:sizeOk (.seq ((items.toList.drop (sIx items.size 0 lo)).take (sIx items.size items.size hi - sIx items.size 0 lo)).toArray):=by
  show ((items.toList.drop (sIx items.size 0 lo)).take (sIx items.size items.size hi - sIx items.size 0 lo)).toArray.size≤sizeLine
  rw [List.size_toArray,List.length_take,List.length_drop,Array.length_toList]
  omega
 have hj:sIx items.size items.size hi≤items.size:=sIx_le _ _ (Nat.le_refl _) hi
 obtain ⟨os,hos,hcs,hds⟩:=id hs
 have hTs:s.TypeIs (.ref sl) "slice" := ⟨os,hos,hcs⟩
 unfold getItem
 try with_reducible refine wpAny_holding ?_
 first | refine wpAny_bind (wpAny_pure ?_) | skip
 refine wpAny_bind (wpAny_sequenceKey ht.typeIs (by decide) ?_)
 refine wpAny_bind (wpAny_callSpecial?_slot (name:=Str.ofString "__getitem__") ht.typeIs PyProof.Rows.slot_tuple_getitem
  (wpAny_call_entry PyProof.Rows.slot_tuple_getitem ht.typeIs entry_tuple_getitem ?_ (args_tuple_getitem _ _)))
 show wpAny _ _ (Builtin.Tuple.tupleItemsOf (.ref t) >>= _) _ _ s
 refine wpAny_bind (tupleItemsOf_ ht ?_)
 refine wpAny_bind (wpAny_typeOf hTs ?_)
 rw [if_pos (by decide)]
 refine wpAny_bind (ZaB hs pl pu ?_)
 have hno:¬ ((((sIx items.size 0 lo:Nat):Int) == 0 && (1:Int) == 1 && (sIx items.size items.size hi - sIx items.size 0 lo) == items.size)=true):=by
  intro q
  rw [Bool.and_eq_true,Bool.and_eq_true] at q
  have q1:((sIx items.size 0 lo:Nat):Int)=0:=eq_of_beq q.1.1
  have q2:sIx items.size items.size hi - sIx items.size 0 lo=items.size:=eq_of_beq q.2
  exact hw ⟨by omega,by omega⟩
 show wpAny _ _ (if (((sIx items.size 0 lo:Nat):Int) == 0 && (1:Int) == 1 && (sIx items.size items.size hi - sIx items.size 0 lo) == items.size)=true then _ else _) _ _ s
 rw [if_neg hno,Xbr]
 first
  | exact wpAny_bind (m:=Builtin.Tuple.tupleExact _) (wpAny_newObj_type (wpAny_pure ⟨_,rfl,wpAny_pure h⟩) htake)
  | exact wpAny_bind (m:=Builtin.Tuple.tupleExact _) (wpAny_newObj_type (wpAny_bind (wpAny_pure (wpAny_pure ⟨_,rfl,wpAny_pure h⟩))) htake)
  | exact wpAny_bind (wpAny_bind (m:=Builtin.Tuple.tupleExact _) (wpAny_newObj_type (wpAny_pure (wpAny_pure ⟨_,rfl,wpAny_pure h⟩)) htake))
  | exact wpAny_bind (wpAny_bind (m:=Builtin.Tuple.tupleExact _) (wpAny_newObj_type (wpAny_pure ⟨_,rfl,wpAny_pure h⟩) htake))
end
end HT
namespace L2
open PySem PySem.Spec PyProof.Rows
abbrev TO:=St→Hp→(Option Int→Hp→Prop)→Prop
noncomputable def PO (X:Cx) (e:Option Expr) (t:TO):Prop :=
 ∀ (pins:List (Addr×Obj)) (s:Shared) (σ:St) (H:Hp) (Q:Option Int→Hp→Prop),Inv X pins σ H s→t σ H Q →
  wpAny (model X.prog X.w) X.A (evalPart e X.env) (fun u s'=>∃ o H',Inv X pins σ H' s'∧IsPart u o∧Q o H') X.xe s
noncomputable def tNoPart:TO:=fun _ H Q=>Q none H
noncomputable def tPart (t:TE):TO:=fun σ H Q=>t σ H fun x H1=>∃ i,x=.int i∧Q (some i) H1
section
variable {X:Cx} {e:Expr} {te:TE} {lo hi:Option Expr} {tl th:TO} {pos p2:Pos}
theorem Zas:PO X none tNoPart:=by
 intro pins s σ H Q I h
 rw [evalPart_none]
 exact wpAny_pure ⟨none,H,I,.none,h⟩
theorem Yas (h:PE X e te):PO X (some e) (tPart te):=by
 intro pins s σ H Q I hw
 rw [evalPart_some]
 refine thn (h pins s σ H _ I hw) fun u s1 ⟨x,H1,I1,r1,q1⟩=>?_
 obtain ⟨i,rfl,q⟩:=q1
 obtain ⟨t,rfl⟩:=r1
 exact ⟨some i,H1,I1,.int i t,q⟩
noncomputable def SlR (X:Cx) (r:V→Option Int→Option Int→Hp→VK→Prop):Prop :=
 ∀ (pins:List (Addr×Obj)) (s:Shared) (σ:St) (H:Hp) (x:V) (v vl vu:Value) (lo hi:Option Int) (sl:Addr) (Q:VK),Inv X pins σ H s→RelV x v→s.heap.IsSliceOf sl vl vu .none→IsPart vl lo→IsPart vu hi→r x lo hi H Q →
  ∃ T id,typeLookup (.type T) "__getitem__" = pure (some (.builtin id))∧s.TypeIs v T∧wpAny (model X.prog X.w) X.A (getItem v (.ref sl)) (EP X pins σ Q) X.xe s
noncomputable def tSl (r:V→Option Int→Option Int→Hp→VK→Prop) (te:TE) (tl th:TO):TE:=fun σ H Q=>te σ H fun x H1=>tl σ H1 fun l H2=>th σ H2 fun u H3=>r x l u H3 Q
theorem Xam {r:V→Option Int→Option Int→Hp→VK→Prop} (hr:SlR X r) (he:PE X e te) (hl:PO X lo tl) (hu:PO X hi th):PE X (.Subscript e (.Slice lo hi none p2) pos) (tSl r te tl th):=by
 intro pins s σ H Q I h
 refine Subscript_ (thn (he pins s σ H _ I h) fun v s1 ⟨x,H1,I1,r1,q1⟩=>?_)
 refine wpAny_Slice (thn (hl pins s1 σ H1 _ I1 q1) fun vl s2 ⟨l,H2,I2,pl,q2⟩=>thn (hu pins s2 σ H2 _ I2 q2) fun vu s3 ⟨u,H3,I3,pu,q3⟩=>?_)
 rw [evalPart_none]
 refine wpAny_pure ?_
 have I4:Inv X pins σ H3 { s3 with heap:=s3.heap.push { cls:=.type "slice",data:=.fields #[vl,vu,.none] } }:=I3.kept (t':=s3.toks) fun b ob q=>Heap.get?_push_of_some _ q
 obtain ⟨T,id,hT,ht,hg⟩:=hr pins { s3 with heap:=s3.heap.push { cls:=.type "slice",data:=.fields #[vl,vu,.none] } } σ H3 x v vl vu l u s3.heap.objs.size Q I4 r1 (Heap.IsSliceOf.new ..) pl pu q3
 show wpAny (model X.prog X.w) X.A (subscriptTail e (.Slice lo hi none p2) v (.ref s3.heap.objs.size)) (EP X pins σ Q) X.xe { s3 with heap:=s3.heap.push { cls:=.type "slice",data:=.fields #[vl,vu,.none] } }
 exact tail_any (ops:=[.ref s3.heap.objs.size,v]) ht hT hg (by with_unfolding_all rfl)
noncomputable def cutV (xs:List V) (lo hi:Option Int):List V:=(xs.drop (HT.sIx xs.length 0 lo)).take (HT.sIx xs.length xs.length hi - HT.sIx xs.length 0 lo)
theorem ZaL (xs:List V) (lo hi:Option Int):(cutV xs lo hi).length≤xs.length:=by
 unfold cutV
 rw [List.length_take,List.length_drop]
 omega
noncomputable def rSlT (K:PySem.W.Frag):V→Option Int→Option Int→Hp→VK→Prop:=fun x lo hi H Q=>∃ a xs,x=.ref a∧SqT K H a xs ∧
 ¬ (HT.sIx xs.length 0 lo=0∧HT.sIx xs.length xs.length hi=xs.length)∧∀ p,H p=none→Q (.ref p) (upd H p (.tup (cutV xs lo hi)))
theorem sl_tup:SlR X (rSlT X.K):=by
 intro pins s σ H x v vl vu lo hi sl Q I rx hs pl pu h
 obtain ⟨a,xs,rfl,hx,hw,q⟩:=h
 cases rx
 obtain ⟨its,r,ht,hz⟩:=I.tuple hx
 have hlen:its.toArray.size=xs.length:=by rw [List.size_toArray];exact r.length.symm
 refine ⟨"tuple",_,PyProof.Rows.slot_tuple_getitem.lookup,ht.typeIs,?_⟩
 refine HT.XaG ht hs pl pu (by rw [hlen];exact hw) ?_ (by rw [hlen];exact hz)
 rw [hlen]
 refine ⟨.ref s.heap.objs.size,_,I.laid (t':=s.toks) (o:=.tup (cutV xs lo hi)) (fun b ob q=>Heap.get?_push_of_some _ q) (Nat.le_refl _) ?_,rfl,q _ (I.hok.fresh (Nat.le_refl _))⟩
 exact ⟨Nat.le_trans (ZaL xs lo hi) hz,_,(r.drop (HT.sIx xs.length 0 lo)).take (HT.sIx xs.length xs.length hi - HT.sIx xs.length 0 lo),PTup.new _ _⟩
noncomputable def rCatT (K:PySem.W.Frag):R2:=fun x y H Q=>∃ a b xs ys,x=.ref a∧y=.ref b∧SqT K H a xs∧SqT K H b ys∧xs≠[]∧xs.length + ys.length≤sizeLine ∧
 (ys=[]→Q (.ref a) H)∧(ys≠[]→∀ p,H p=none→Q (.ref p) (upd H p (.tup (xs ++ ys))))
theorem Vals.nil_iff {xs:List V} {us:List Value} (r:Vals xs us):us=[]↔xs=[]:=by
 cases r with
 | nil=>simp
 | cons _ _=>simp
theorem ybE:OpR X (binaryOp .Add) (rCatT X.K):=by
 intro pins s σ H x y v u Q I rx ry h
 obtain ⟨a,b,xs,ys,rfl,rfl,ha,hb,hx,hz,q1,q2⟩:=h
 cases rx
 cases ry
 obtain ⟨its,r1,p1,_⟩:=I.tuple ha
 obtain ⟨its2,r2,p2,_⟩:=I.tuple hb
 refine HT.zbE p1 p2 (fun z=>hx (r1.nil_iff.mp z)) (fun z=>⟨.ref a,H,I,rfl,q1 (r2.nil_iff.mp z)⟩) (fun z=>?_) (by rw [← r1.length,← r2.length];exact hz)
 refine ⟨.ref s.heap.objs.size,_,I.laid (t':=s.toks) (o:=.tup (xs ++ ys)) (fun b ob q=>Heap.get?_push_of_some _ q) (Nat.le_refl _) ?_,rfl,q2 (fun w=>z (r2.nil_iff.mpr w)) _ (I.hok.fresh (Nat.le_refl _))⟩
 exact ⟨by rw [List.length_append];exact hz,_,r1.append r2,PTup.new _ _⟩
end
end L2
namespace L2
open PySem PySem.Spec PyProof.Rows
noncomputable def ixN (n:Nat) (i:Int):Option Nat:=if 0≤i then (if i < n then some i.toNat else none) else if -(n:Int)≤i then some (i + n).toNat else none
noncomputable def atI {α:Type} (xs:List α) (i:Int):Option α:=(ixN xs.length i).bind fun j=>xs[j]?
theorem za2 {n:Nat} {i:Int} {j:Nat} (h:ixN n i=some j):seqIndex? i n=some j∧j < n∧-(n:Int)≤i∧i < n:=by
 unfold ixN at h
 by_cases h0:0≤i
 ·rw [if_pos h0] at h
  by_cases h1:i < n
  ·rw [if_pos h1] at h
   have e:i.toNat=j:=Option.some.inj h
   exact ⟨by rw [seqIndex_of h0 h1,e],by omega,by omega,h1⟩
  ·rw [if_neg h1] at h;cases h
 ·rw [if_neg h0] at h
  by_cases h1:-(n:Int)≤i
  ·rw [if_pos h1] at h
   have e:(i + n).toNat=j:=Option.some.inj h
   exact ⟨by rw [seqIndex_neg (by omega) h1,e],by omega,h1,by omega⟩
  ·rw [if_neg h1] at h;cases h
theorem Zbh {α:Type} {xs:List α} {i:Int} {v:α} (h:atI xs i=some v):∃ j,seqIndex? i xs.length=some j∧xs[j]?=some v∧j < xs.length∧-(xs.length:Int)≤i∧i < xs.length:=by
 unfold atI at h
 cases e:ixN xs.length i with
 | none=>rw [e] at h;cases h
 | some j =>
  rw [e] at h
  obtain ⟨h1,h2,h3,h4⟩:=za2 e
  exact ⟨j,h1,h,h2,h3,h4⟩
theorem YaL {α:Type} {xs:List α} {j:Nat} {v:α} (h:xs[j]?=some v):atI xs (j:Int)=some v:=by
 have hj:j < xs.length:=(List.getElem?_eq_some_iff.mp h).1
 have e:ixN xs.length (j:Int)=some j:=by
  unfold ixN
  rw [if_pos (by omega),if_pos (by omega)];simp
 unfold atI;rw [e];exact h
noncomputable def PlainIx (b:Expr):Prop:=∀ o i,subscripted b false o i=operate [o,i] (getItem o i)
noncomputable def IxR (X:Cx) (r:R2):Prop :=
 ∀ (value slice:Expr) (pins:List (Addr×Obj)) (s:Shared) (σ:St) (H:Hp) (x y:V) (v u:Value) (Q:VK),Inv X pins σ H s→RelV x v→RelV y u→r x y H Q →
  subscripted slice false v u=operate [v,u] (getItem v u)→wpAny (model X.prog X.w) X.A (subscriptTail value slice v u) (EP X pins σ Q) X.xe s
noncomputable def MtR (X:Cx) (id:String) (r:V→List V→Hp→VK→Prop):Prop :=
 ∀ (pins:List (Addr×Obj)) (s:Shared) (σ:St) (H:Hp) (x:V) (xs:List V) (v:Value) (us:List Value) (Q:VK),Inv X pins σ H s→RelV x v→Vals xs us→r x xs H Q →
  wpAny (model X.prog X.w) X.A (call (.builtin id) (v :: us)) (EP X pins σ Q) X.xe s
section
variable {X:Cx} {a b:Expr} {ta tb:TE} {pos:Pos}
theorem Xaj {r:R2} (hr:IxR X r) (ha:PE X a ta) (hb:PE X b tb) (hs:PlainIx b):PE X (.Subscript a b pos) (tOp r ta tb):=by
 intro pins s σ H Q I h
 exact Subscript_ (binT ha hb I h fun v u s2 x y H2 I2 rx ry q=>hr a b pins s2 σ H2 x y v u Q I2 rx ry q (hs _ _))
noncomputable def rIxL (K:PySem.W.Frag):R2:=fun x y H Q=>∃ p xs i v,x=.ref p∧y=.int i∧SqL K H p xs∧atI xs i=some v∧Q v H
noncomputable def rIxT (K:PySem.W.Frag):R2:=fun x y H Q=>∃ p xs i v,x=.ref p∧y=.int i∧SqT K H p xs∧atI xs i=some v∧Q v H
theorem xak:IxR X (rIxL X.K):=by
 intro value slice pins s σ H x y v u Q I rx ry h hs
 obtain ⟨p,xs,i,z,rfl,rfl,hq,he,q⟩:=h
 cases rx
 obtain ⟨t,rfl⟩:=ry
 obtain ⟨its,r,pl,hz⟩:=I.list hq
 obtain ⟨j,h1,h2,h3,h4,h5⟩:=Zbh he
 obtain ⟨w,ew,rw'⟩:=r.get h2
 have hl:=r.length
 have hn:=line63
 have fin:EP X pins σ Q w s:=⟨z,H,I,rw',q⟩
 by_cases h0:0≤i
 ·have hj:i.toNat=j:=by
   rw [seqIndex_of h0 h5] at h1
   exact Option.some.inj h1
  exact item_listR pl.isList h0 (by omega) (by rw [hj];simpa using ew) fin hs
 ·have hj:(i + (its.toArray.size:Int)).toNat=j:=by
   rw [seqIndex_neg (by omega) h4] at h1
   rw [List.size_toArray,← hl]
   exact Option.some.inj h1
  exact subscriptTail_builtinR (x:=w) pl.isList.typeIs slot_list_getitem.lookup
   (wpAny_getItem_list_neg (Q:=fun r s'=>r=w∧EP X pins σ Q r s') pl.isList (by omega) (by rw [List.size_toArray] <;> omega) (by omega) (by rw [hj];simpa using ew) ⟨rfl,fin⟩) hs
theorem Zao:IxR X (rIxT X.K):=by
 intro value slice pins s σ H x y v u Q I rx ry h hs
 obtain ⟨p,xs,i,z,rfl,rfl,hq,he,q⟩:=h
 cases rx
 obtain ⟨t,rfl⟩:=ry
 obtain ⟨its,r,pl,hz⟩:=I.tuple hq
 obtain ⟨j,h1,h2,h3,h4,h5⟩:=Zbh he
 obtain ⟨w,ew,rw'⟩:=r.get h2
 have hl:=r.length
 have hn:=line63
 have fin:EP X pins σ Q w s:=⟨z,H,I,rw',q⟩
 exact subscriptTail_builtinR (x:=w) pl.typeIs slot_tuple_getitem.lookup
  (getItem_tuple (j:=j) (Q:=fun r s'=>r=w∧EP X pins σ Q r s') pl (by omega) (by omega) (by rw [List.size_toArray,← hl];exact h1) (by simpa using ew) ⟨rfl,fin⟩) hs
theorem zbb (its:List Value) (n j:Nat) (u:Value):Obj.mapSeq (·.setIfInBounds j u) { cls:=.type "list",data:=.seq its.toArray n }={ cls:=.type "list",data:=.seq (its.set j u).toArray n }:=by
 simp [Obj.mapSeq]
theorem Inv.lst {pins:List (Addr×Obj)} {σ:St} {H:Hp} {s:Shared} {p:Addr} {xs:List V} (I:Inv X pins σ H s) (h:H p=some (.lst xs)) :
  ∃ (its:List Value) (n:Nat),Vals xs its∧s.heap.get? p=some { cls:=.type "list",data:=.seq its.toArray n }∧xs.length≤sizeLine:=by
 obtain ⟨z,its,n,r,e⟩:=I.hok p _ h
 exact ⟨its,n,r,e,z⟩
theorem Inv.lstUpd {pins:List (Addr×Obj)} {σ:St} {H:Hp} {s:Shared} {p:Addr} {xs ys:List V} {its its':List Value} {n n':Nat} {f:Obj→Obj} (I:Inv X pins σ H s) (h:H p=some (.lst xs))
  (ho:s.heap.get? p=some { cls:=.type "list",data:=.seq its.toArray n }) (hf:f { cls:=.type "list",data:=.seq its.toArray n }={ cls:=.type "list",data:=.seq its'.toArray n' }) (r:Vals ys its') (hz:ys.length≤sizeLine) (t:Nat) :
  Inv X pins σ (upd H p (.lst ys)) { s with heap:=s.heap.update p f,toks:=t }:=by
 have e:(s.heap.update p f).get? p=some { cls:=.type "list",data:=.seq its'.toArray n' }:=by
  rw [Heap.get?_update_self f ho (by rw [hf] <;> rfl),hf]
 refine I.write (x:=p) (e:=p) (by rw [h];trivial) (.inl rfl) (fun b u hb q=>(Heap.get?_update_other _ _ (Ne.symm hb)).trans q) ⟨_,e⟩ ?_
 exact ⟨hz,its',n',r,e⟩
noncomputable def rSetL:V→V→V→Hp→(Hp→Prop)→Prop:=fun o i v H Q=>∃ p xs k j,o=.ref p∧i=.int k∧H p=some (.lst xs)∧ixN xs.length k=some j∧Q (upd H p (.lst (xs.set j v)))
theorem zaD:PSet X rSetL:=by
 intro pins s σ H o i v ov iv u Q I ro ri rv h
 obtain ⟨p,xs,k,j,rfl,rfl,hp,hj,q⟩:=h
 cases ro
 obtain ⟨t,rfl⟩:=ri
 obtain ⟨its,n,r,ho,hz⟩:=I.lst hp
 obtain ⟨h1,h2,h3,h4⟩:=za2 hj
 have hl:=r.length
 have hn:=line63
 have I':Inv X pins σ (upd H p (.lst (xs.set j v))) { s with heap:=s.heap.update p (Obj.mapSeq (·.setIfInBounds j u)) } :=
  I.lstUpd hp ho (zbb its n j u) (r.set rv j) (by rw [List.length_set];exact hz) s.toks
 by_cases h0:0≤k
 ·have hk:k.toNat=j:=by
   rw [seqIndex_of h0 h4] at h1
   exact Option.some.inj h1
  exact PySem.W.ki_setAt ho h0 (by omega) (by rw [List.size_toArray,← hl];exact h4) (by rw [hk];exact ⟨_,I',q⟩)
 ·have hk:(k + (its.toArray.size:Int)).toNat=j:=by
   rw [seqIndex_neg (by omega) h3] at h1
   rw [List.size_toArray,← hl]
   exact Option.some.inj h1
  exact PySem.W.ki_setBack ho (by omega) (by rw [List.size_toArray,← hl];exact h3) (by omega) (by rw [hk];exact ⟨_,I',q⟩)
theorem ZaY (lo hi:Option Int) (n:Nat):(sliceBounds lo hi none n).1=((HT.sIx n 0 lo:Nat):Int)∧(sliceBounds lo hi none n).2.1=((HT.sIx n n hi:Nat):Int)∧(sliceBounds lo hi none n).2.2=1:=by
 refine ⟨?_,?_,rfl⟩
 ·cases lo with
  | none=>simp [sliceBounds,HT.sIx]
  | some i =>
   simp only [sliceBounds,HT.sIx,Option.getD_none,show (1:Int) > 0 by decide,if_true]
   by_cases h:i < 0
   ·simp only [h,if_true] <;> omega
   ·simp only [h,if_false] <;> omega
 ·cases hi with
  | none=>simp [sliceBounds,HT.sIx]
  | some i =>
   simp only [sliceBounds,HT.sIx,Option.getD_none,show (1:Int) > 0 by decide,if_true]
   by_cases h:i < 0
   ·simp only [h,if_true] <;> omega
   ·simp only [h,if_false] <;> omega
theorem xaT (its:List Value) (lo hi:Option Int):slicePick its.toArray lo hi none=((its.drop (HT.sIx its.length 0 lo)).take (HT.sIx its.length its.length hi - HT.sIx its.length 0 lo)).toArray:=by
 obtain ⟨h1,h2,h3⟩:=ZaY lo hi its.toArray.size
 unfold slicePick
 rw [h1,h2,h3]
 simp only [sliceRange_one,pick_run,List.size_toArray] <;> rfl
noncomputable def rSlL (K:PySem.W.Frag):V→Option Int→Option Int→Hp→VK→Prop:=fun x lo hi H Q=>∃ a xs,x=.ref a∧SqL K H a xs∧∀ p,H p=none→Q (.ref p) (upd H p (.lst (cutV xs lo hi)))
theorem ya2:SlR X (rSlL X.K):=by
 intro pins s σ H x v vl vu lo hi sl Q I rx hs pl pu h
 obtain ⟨a,xs,rfl,hx,q⟩:=h
 cases rx
 obtain ⟨its,r,ht,hz⟩:=I.list hx
 have hlen:=r.length
 refine ⟨"list",_,slot_list_getitem.lookup,ht.isList.typeIs,?_⟩
 refine wpAny_getItem_list_slice ht.isList hs pl pu .none (by simp) ?_ (by rw [List.size_toArray] <;> omega)
 rw [xaT,← hlen]
 refine ⟨.ref s.heap.objs.size,_,I.laid (t':=s.toks) (o:=.lst (cutV xs lo hi)) (fun b ob q=>Heap.get?_push_of_some _ q) (Nat.le_refl _) ?_,rfl,q _ (I.hok.fresh (Nat.le_refl _))⟩
 exact ⟨Nat.le_trans (ZaL xs lo hi) hz,_,0,(r.drop (HT.sIx xs.length 0 lo)).take (HT.sIx xs.length xs.length hi - HT.sIx xs.length 0 lo),Heap.get?_push_size _ rfl⟩
noncomputable def flatV:V→Bool
 | .non=>true
 | .bl _=>true
 | .int _=>true
 | .str _=>true
 | _=>false
noncomputable def eqV:V→V→Bool
 | .non,.non=>true
 | .bl a,.bl b=>a == b
 | .bl a,.int b=>(if a then 1 else 0) == b
 | .int a,.bl b=>a == (if b then 1 else 0)
 | .int a,.int b=>a == b
 | .str a,.str b=>a == b
 | _,_=>false
theorem eqAt_V {A:Around} {s:Shared} {y x:V} {u v:Value} (ry:RelV y u) (rx:RelV x v) (fy:flatV y=true) (fx:flatV x=true):SeqAt.EqAt A s u v (eqV y x):=by
 cases y with
 | non =>
  cases ry
  cases x with
  | non=>cases rx;exact SeqAt.EqAt.same _
  | bl b=>cases rx;exact SeqAt.EqAt.none_bool b
  | int b=>obtain ⟨t,rfl⟩:=rx;exact SeqAt.EqAt.none_int b t
  | str b=>obtain ⟨t,rfl⟩:=rx;exact SeqAt.EqAt.none_str b t
  | _=>exact absurd (show false=true from fx) Bool.false_ne_true
 | bl a =>
  cases ry
  cases x with
  | non=>cases rx;exact SeqAt.EqAt.bool_none a
  | bl b=>cases rx;exact SeqAt.EqAt.bool_bool a b
  | int b=>obtain ⟨t,rfl⟩:=rx;exact SeqAt.EqAt.bool_int a b t
  | str b=>obtain ⟨t,rfl⟩:=rx;exact SeqAt.EqAt.bool_str a b t
  | _=>exact absurd (show false=true from fx) Bool.false_ne_true
 | int a =>
  obtain ⟨t',rfl⟩:=ry
  cases x with
  | non=>cases rx;exact SeqAt.EqAt.int_none a t'
  | bl b=>cases rx;exact SeqAt.EqAt.int_bool a t' b
  | int b=>obtain ⟨t,rfl⟩:=rx;exact SeqAt.EqAt.int_int a t' b t
  | str b=>obtain ⟨t,rfl⟩:=rx;exact SeqAt.EqAt.int_str a t' b t
  | _=>exact absurd (show false=true from fx) Bool.false_ne_true
 | str a =>
  obtain ⟨t',rfl⟩:=ry
  cases x with
  | non=>cases rx;exact SeqAt.EqAt.str_none a t'
  | bl b=>cases rx;exact SeqAt.EqAt.str_bool a t' b
  | int b=>obtain ⟨t,rfl⟩:=rx;exact SeqAt.EqAt.str_int a t' b t
  | str b=>obtain ⟨t,rfl⟩:=rx;exact SeqAt.EqAt.str_str a t' b t
  | _=>exact absurd (show false=true from fx) Bool.false_ne_true
 | _=>exact absurd (show false=true from fy) Bool.false_ne_true
noncomputable def eqU (x:V) (u:Value):Bool:=match u with
 | .none=>eqV .non x
 | .bool b=>eqV (.bl b) x
 | .int i _=>eqV (.int i) x
 | .str z _=>eqV (.str z) x
 | _=>false
theorem xbA {x y:V} {u:Value} (r:RelV y u) (f:flatV y=true):eqU x u=eqV y x:=by
 cases y with
 | non=>cases r;rfl
 | bl b=>cases r;rfl
 | int i=>obtain ⟨t,rfl⟩:=r;rfl
 | str z=>obtain ⟨t,rfl⟩:=r;rfl
 | _=>exact absurd (show false=true from f) Bool.false_ne_true
theorem xaL {x:V}:∀ {xs:List V} {us:List Value},Vals xs us→xs.all flatV=true→us.any (eqU x)=xs.any fun y=>eqV y x
 | _,_,.nil,_=>rfl
 | y :: xs,u :: us,.cons r t,f=>by
  rw [List.all_cons,Bool.and_eq_true] at f
  rw [List.any_cons,List.any_cons,xbA r f.1,xaL t f.2]
theorem YaF {A:Around} {s:Shared} {x:V} {v:Value} (rx:RelV x v) (fx:flatV x=true):∀ {xs:List V} {us:List Value},Vals xs us→xs.all flatV=true→∀ u∈us,SeqAt.EqAt A s u v (eqU x u)
 | _,_,.nil,_=>fun u hu=>by cases hu
 | y :: xs,u :: us,.cons r t,f=>fun u' hu=>by
  rw [List.all_cons,Bool.and_eq_true] at f
  rcases List.mem_cons.mp hu with rfl | hu
  ·rw [xbA r f.1];exact eqAt_V r rx f.1 fx
  ·exact YaF rx fx t f.2 u' hu
noncomputable def inV (x:V) (xs:List V):Bool:=xs.any fun y=>eqV y x
noncomputable def rIn (K:PySem.W.Frag) (neg:Bool):R2:=fun x y H Q=>∃ p xs,y=.ref p∧(SqL K H p xs∨SqT K H p xs)∧flatV x=true∧xs.all flatV=true∧Q (.bl (if neg then !inV x xs else inV x xs)) H
theorem YaY:OpR X (compareOp .In) (rIn X.K false):=by
 intro pins s σ H x y v u Q I rx ry h
 obtain ⟨p,xs,rfl,hq,fx,fs,q⟩:=h
 cases ry
 rcases hq with hq | hq
 ·obtain ⟨its,r,pl,hz⟩:=I.list hq
  refine SeqAt.in_listAt (eqU x) pl.isList (fun w hw=>YaF rx fx r fs w (by simpa using hw)) ⟨.bl _,H,I,rfl,?_⟩
  rw [show its.toArray.any (eqU x)=its.any (eqU x) by simp,xaL r fs]
  exact q
 ·obtain ⟨its,r,pl,hz⟩:=I.tuple hq
  refine SeqAt.in_tupleAt (eqU x) pl (fun w hw=>YaF rx fx r fs w (by simpa using hw)) ⟨.bl _,H,I,rfl,?_⟩
  rw [show its.toArray.any (eqU x)=its.any (eqU x) by simp,xaL r fs]
  exact q
theorem Yax:OpR X (compareOp .NotIn) (rIn X.K true):=by
 intro pins s σ H x y v u Q I rx ry h
 obtain ⟨p,xs,rfl,hq,fx,fs,q⟩:=h
 cases ry
 rcases hq with hq | hq
 ·obtain ⟨its,r,pl,hz⟩:=I.list hq
  refine SeqAt.notIn_listAt (eqU x) pl.isList (fun w hw=>YaF rx fx r fs w (by simpa using hw)) ⟨.bl _,H,I,rfl,?_⟩
  rw [show its.toArray.any (eqU x)=its.any (eqU x) by simp,xaL r fs]
  exact q
 ·obtain ⟨its,r,pl,hz⟩:=I.tuple hq
  refine SeqAt.notIn_tupleAt (eqU x) pl (fun w hw=>YaF rx fx r fs w (by simpa using hw)) ⟨.bl _,H,I,rfl,?_⟩
  rw [show its.toArray.any (eqU x)=its.any (eqU x) by simp,xaL r fs]
  exact q
theorem yad:CallR X (.builtin "len") (fun xs H Q=>∃ p ys,xs=[.ref p]∧(SqL X.K H p ys∨SqT X.K H p ys)∧Q (.int ys.length) H):=by
 intro pins s σ H xs us Q I r h
 obtain ⟨p,ys,rfl,hq,q⟩:=h
 obtain ⟨u,rfl,rx⟩:=vals1 r
 cases rx
 have hn:=line63
 rcases hq with hq | hq
 ·obtain ⟨its,r',pl,hz⟩:=I.list hq
  have hlen:=r'.length
  exact Calls.call_len_list pl.isList (by simp only [List.size_toArray] <;> omega) ⟨.int ys.length,H,I.tok _,⟨s.toks + 1,by rw [List.size_toArray,hlen]⟩,q⟩
 ·obtain ⟨its,r',pl,hz⟩:=I.tuple hq
  have hlen:=r'.length
  exact len_tuple pl (by simp only [List.size_toArray] <;> omega) ⟨.int ys.length,H,I.tok _,⟨s.toks + 1,by rw [List.size_toArray,hlen]⟩,q⟩
theorem xax:CallR X (.type "list") (fun xs H Q=>∃ p ys,xs=[.ref p]∧(SqL X.K H p ys∨SqT X.K H p ys)∧∀ l,H l=none→Q (.ref l) (upd H l (.lst ys))):=by
 intro pins s σ H xs us Q I r h
 obtain ⟨p,ys,rfl,hq,q⟩:=h
 obtain ⟨u,rfl,rx⟩:=vals1 r
 cases rx
 have fin:∀ (its:List Value),Vals ys its→ys.length≤sizeLine→∀ (h':Heap) (c':Nat),(∀ b o',s.heap.get? b=some o'→h'.get? b=some o') →
   h'.get? s.heap.objs.size=some { cls:=.type "list",dict:=none,data:=.seq its.toArray c',slots:=#[] }→EP X pins σ Q (.ref s.heap.objs.size) { s with heap:=h' }:=fun its r' hz h' c' kp e =>
  ⟨.ref s.heap.objs.size,_,I.laid (t':=s.toks) kp (Nat.le_refl _) (show ObjOk X.prog X.w _ h' _ (.lst ys) from ⟨hz,its,c',r',e⟩),rfl,q _ (I.hok.fresh (Nat.le_refl _))⟩
 rcases hq with hq | hq
 ·obtain ⟨its,r',pl,hz⟩:=I.list hq
  have hlen:=r'.length
  obtain ⟨o,ho,hc,n,hd⟩:=pl.isList
  exact call_list_seq p (.inl rfl) ho hc hd (fun h' c' kp e=>fin its r' hz h' c' kp e) (by simp only [List.size_toArray] <;> omega)
 ·obtain ⟨its,r',pl,hz⟩:=I.tuple hq
  have hlen:=r'.length
  obtain ⟨o,ho,hc,n,hd⟩:=pl
  exact call_list_seq p (.inr rfl) ho hc hd (fun h' c' kp e=>fin its r' hz h' c' kp e) (by simp only [List.size_toArray] <;> omega)
theorem Xah:CallR X (.type "tuple") (fun xs H Q=>∃ p ys,xs=[.ref p]∧((SqL X.K H p ys∧∀ l,H l=none→Q (.ref l) (upd H l (.tup ys)))∨(SqT X.K H p ys∧Q (.ref p) H))):=by
 intro pins s σ H xs us Q I r h
 obtain ⟨p,ys,rfl,h⟩:=h
 obtain ⟨u,rfl,rx⟩:=vals1 r
 cases rx
 rcases h with ⟨hq,q⟩ | ⟨hq,q⟩
 ·obtain ⟨its,r',pl,hz⟩:=I.list hq
  have hlen:=r'.length
  refine call_tuple_list pl.isList (fun h' kp=>?_) (by simp only [List.size_toArray] <;> omega)
  have I1:Inv X pins σ H { s with heap:=h' }:=I.kept (t':=s.toks) kp
  have I2:Inv X pins σ (upd H h'.objs.size (.tup ys)) { s with heap:=h'.push { cls:=.type "tuple",data:=.seq its.toArray } } :=
   I1.laid (t':=s.toks) (fun b o e=>Heap.get?_push_of_some _ e) (Nat.le_refl _) (show ObjOk X.prog X.w _ _ _ (.tup ys) from ⟨hz,its,r',PTup.new _ _⟩)
  exact ⟨.ref h'.objs.size,_,I2,rfl,q _ (I1.hok.fresh (Nat.le_refl _))⟩
 ·obtain ⟨its,r',pl,hz⟩:=I.tuple hq
  exact call_tuple_same pl ⟨.ref p,H,I,rfl,q⟩
noncomputable def tyV (K:PySem.W.Frag) (T:String) (x:V) (H:Hp):Prop:=match x with
 | .str _=>T="str"
 | .int _=>T="int"
 | .ref p=>(T="list" ∧ ∃ xs,SqL K H p xs)∨(T="tuple" ∧ ∃ xs,SqT K H p xs) ∨
   (T="dict" ∧ ((∃ kvs,H p=some (.dK kvs))∨∃ kvs,H p=some (.dT kvs)))∨(T="set" ∧ ∃ S n,H p=some (.set S n))
 | _=>False
theorem tyV_is {pins:List (Addr×Obj)} {σ:St} {H:Hp} {s:Shared} {T:String} {x:V} {v:Value} (I:Inv X pins σ H s) (r:RelV x v) (ty:tyV X.K T x H) :
  s.TypeIs v T∧∀ a,v=.ref a→∃ ob,s.heap.get? a=some ob∧ob.dict=none:=by
 cases x with
 | str z =>
  obtain ⟨t,rfl⟩:=r
  cases (show T="str" from ty)
  exact ⟨typeIs_str s z t,fun _ e=>nomatch e⟩
 | int i =>
  obtain ⟨t,rfl⟩:=r
  cases (show T="int" from ty)
  exact ⟨typeIs_int s i t,fun _ e=>nomatch e⟩
 | ref p =>
  cases r
  rcases ty with ⟨rfl,xs,hq⟩ | ⟨rfl,xs,hq⟩ | ⟨rfl,hk⟩ | ⟨rfl,S,n,hk⟩
  ·obtain ⟨its,_,pl,_⟩:=I.list hq
   refine ⟨pl.isList.typeIs,fun a e=>?_⟩
   cases e
   obtain ⟨o,n,e,c,hd,_⟩:=pl
   exact ⟨o,e,hd⟩
  ·obtain ⟨its,_,⟨o,e,c,d,_⟩,_⟩:=I.tupleP hq
   refine ⟨⟨o,e,c⟩,fun a e2=>?_⟩
   cases e2
   exact ⟨o,e,d⟩
  ·have z:∃ o,s.heap.get? p=some o∧o.ExactDict:=by
    rcases hk with ⟨kvs,hk⟩ | ⟨kvs,hk⟩
    ·obtain ⟨_,_,_,_,o,_,_,e,ex,_⟩:=I.hok p _ hk
     exact ⟨o,e,ex⟩
    ·obtain ⟨_,_,_,_,o,_,_,e,ex,_⟩:=I.hok p _ hk
     exact ⟨o,e,ex⟩
   obtain ⟨o,e,ex⟩:=z
   refine ⟨⟨o,e,ex.1⟩,fun a e2=>?_⟩
   cases e2
   exact ⟨o,e,ex.2.1⟩
  ·obtain ⟨o,_,_,_,e,ex,_⟩:=I.hok p _ hk
   refine ⟨⟨o,e,ex.1⟩,fun a e2=>?_⟩
   cases e2
   exact ⟨o,e,ex.2.1⟩
 | _=>exact False.elim ty
noncomputable def tBM (K:PySem.W.Frag) (T:String) (r:V→List V→Hp→VK→Prop) (to:TE) (t:TA):TE:=fun σ H Q=>to σ H fun x H1=>tyV K T x H1∧t σ H1 fun xs H2=>r x xs H2 Q
variable {o e:Expr} {es:List Expr} {to:TE} {t:TA} {name:Str} {apos cpos:Pos} {T id:String} {r:V→List V→Hp→VK→Prop}
theorem zbs (pa:PlainAttrs T) (slot:Slot T name id) (hty:typeOf (.builtin id)=pure (.type "method_descriptor")) (hm:MtR X id r) (ho:PE X o to) (ha:PA X (e :: es) t)
  (hbase:attributeBase o name X.env (eval o X.env)=eval o X.env:=by rfl)
  (hfew:((backTo cpos (starEach (e :: es) X.env)).all (fun x=>!x.1) && (backToKw cpos (keywordEach [] X.env)).all (fun x=>x.1.isSome)
   && decide ((e :: es).length + ([]:List Keyword).length + (if ([]:List Keyword).isEmpty then 0 else 1) < 30))=true:=by rfl)
  (hline:(apos.endLine == cpos.line)=true:=by rfl) (hs:starEach (e :: es) X.env=(false,eval e X.env) :: starEach es X.env:=by rfl) (hplain:(backTo cpos (starEach es X.env)).any (·.1)=false:=by rfl) :
  PE X (.Call (.Attribute o name apos) (e :: es) [] cpos) (tBM X.K T r to t):=by
 intro pins s σ H Q I h
 refine wpAny_Call_method_late hbase hfew hline rfl (thn (ho pins s σ H _ I h) fun v s1 ⟨x,H1,I1,r1,ty,q1⟩=>?_)
 obtain ⟨h1,h2⟩:=tyV_is I1 r1 ty
 refine ⟨T,id,pa,slot,hty,h1,h2,?_⟩
 have hA:=ha cpos pins s1 σ H1 _ I1 q1
 rw [hs] at hA ⊢
 refine Calls.callWith_builtin (by show (false || (backTo cpos (starEach es X.env)).any (·.1))=false;rw [hplain] <;> rfl) (Calls.evalArgs_plain ?_)
 exact thn hA fun us s2 ⟨vs,H2,I2,r2,q2⟩=>hm pins s2 σ H2 x vs v us Q I2 r1 r2 q2
end
end L2
namespace L2
open PySem PySem.Spec PyProof.Rows
noncomputable def MtM (X:Cx) (id:String) (r:V→List V→Hp→VK→Prop):Prop :=
 ∀ (pins:List (Addr×Obj)) (s:Shared) (σ:St) (H:Hp) (x:V) (xs:List V) (v:Value) (us:List Value) (Q:VK),Inv X pins σ H s→RelV x v→Vals xs us→r x xs H Q →
  wpAny (model X.prog X.w) X.A (call (.builtin id) (v :: us)) (EP X pins σ Q) X.xe s
theorem Vals.one:∀ {x:V} {us:List Value},Vals [x] us→∃ u,us=[u]∧RelV x u
 | _,_,.cons r .nil=>⟨_,rfl,r⟩
theorem Vals.eraseIdx:∀ {xs:List V} {us:List Value} (i:Nat),Vals xs us→Vals (xs.eraseIdx i) (us.eraseIdx i)
 | _,_,_,.nil=>.nil
 | _,_,0,.cons _ t=>t
 | _,_,i + 1,.cons r t=>.cons r (Vals.eraseIdx i t)
theorem xaY {α:Type}:∀ (l:List α) (i:Nat),(l.eraseIdx i).length≤l.length
 | [],_=>Nat.le_refl _
 | _ :: _,0=>Nat.le_succ _
 | _ :: r,i + 1=>Nat.succ_le_succ (xaY r i)
section
variable {X:Cx} {pins:List (Addr×Obj)} {σ:St} {H:Hp} {s:Shared} {l b:Addr} {xs ys zs:List V}
theorem Inv.lset {its its':List Value} {n:Nat} {f:Array Value→Array Value} {t':Nat} (I:Inv X pins σ H s) (hH:H l=some (.lst xs))
  (e:s.heap.get? l=some { cls:=.type "list",data:=.seq its.toArray n }) (hf:f its.toArray=its'.toArray) (hv:Vals ys its') (hz:ys.length≤sizeLine) :
  Inv X pins σ (upd H l (.lst ys)) { s with heap:=s.heap.update l (Obj.mapSeq f),toks:=t' }:=by
 have q:=PySem.IsL.update e f
 rw [hf] at q
 refine I.write (x:=l) (e:=l) (by rw [hH];exact trivial) (.inl rfl) (fun b' u hb hu=>(Heap.get?_update_other s.heap (Obj.mapSeq f) (Ne.symm hb)).trans hu) ⟨_,q⟩ ?_
 exact ⟨hz,its',_,hv,q⟩
theorem Inv.lnew {its:List Value} {t':Nat} (I:Inv X pins σ H s) (hv:Vals ys its) (hz:ys.length≤sizeLine) :
  Inv X pins σ (upd H s.heap.objs.size (.lst ys)) { s with heap:=s.heap.push { cls:=.type "list",data:=.seq its.toArray },toks:=t' } :=
 I.laid (fun _ _ q=>Heap.get?_push_of_some _ q) (Nat.le_refl _) ⟨hz,its,0,hv,Heap.get?_push_size _ rfl⟩
theorem Inv.fresh (I:Inv X pins σ H s):H s.heap.objs.size=none:=I.hok.fresh (Nat.le_refl _)
theorem Inv.lstM (I:Inv X pins σ H s) (hH:H l=some (.lst xs)):xs.length≤sizeLine∧∃ (its:List Value) (n:Nat),Vals xs its∧xs.length=its.length∧s.heap.get? l=some { cls:=.type "list",data:=.seq its.toArray n }:=by
 obtain ⟨z,its,n,r,e⟩:=I.hok l _ hH
 exact ⟨z,its,n,r,r.length,e⟩
end
section
variable {X:Cx}
noncomputable def rAppend:V→List V→Hp→VK→Prop:=fun x vs H Q=>∃ l xs y,x=.ref l∧vs=[y]∧H l=some (.lst xs)∧xs.length < sizeLine∧Q .non (upd H l (.lst (xs ++ [y])))
theorem XaL:MtM X "list.append" rAppend:=by
 intro pins s σ H x vs v us Q I rx rv h
 obtain ⟨l,xs,y,rfl,rfl,hH,hz,q⟩:=h
 cases rx
 obtain ⟨u,rfl,ru⟩:=rv.one
 obtain ⟨z,its,n,r,hl,e⟩:=I.lstM hH
 refine call_meets F.slot_list_append ⟨_,e,rfl⟩ F.entry_list_append (F.args_list_append_2 _ _) (PySem.list_append l its.toArray n u (by rw [List.size_toArray];omega)) ⟨e,?_⟩
 refine ⟨.non,_,I.lset (its':=its ++ [u]) hH e (by simp) (r.append (.cons ru .nil)) ?_,rfl,q⟩
 rw [List.length_append,List.length_singleton]
 omega
noncomputable def rPopAt:V→List V→Hp→VK→Prop:=fun x vs H Q=>∃ l xs i k y,x=.ref l∧vs=[.int i]∧H l=some (.lst xs)∧-(2 ^ 63)≤i∧i < 2 ^ 63∧seqIndex? i xs.length=some k∧xs[k]?=some y∧Q y (upd H l (.lst (xs.eraseIdx k)))
theorem ybs:MtM X "list.pop" rPopAt:=by
 intro pins s σ H x vs v us Q I rx rv h
 obtain ⟨l,xs,i,k,y,rfl,rfl,hH,h1,h2,hk,hy,q⟩:=h
 cases rx
 obtain ⟨u,rfl,ru⟩:=rv.one
 obtain ⟨t,rfl⟩:=ru
 obtain ⟨z,its,n,r,hl,e⟩:=I.lstM hH
 obtain ⟨w,hw,rw'⟩:=r.get hy
 refine call_meets F.slot_list_pop ⟨_,e,rfl⟩ F.entry_list_pop (F.args_list_pop_2 _ _)
  (MeetsSeq.list_pop_at l its.toArray n i t k w (fitsIndex_both h1 h2) (by rw [List.size_toArray,← hl];exact hk) (by rw [← Array.getElem?_toList];exact hw) (by rw [List.size_toArray];omega)) ⟨e,?_⟩
 refine ⟨y,_,I.lset (its':=its.eraseIdx k) hH e ?_ (r.eraseIdx k) ?_,rw',q⟩
 ·show its.toArray.eraseIdxIfInBounds k=(its.eraseIdx k).toArray
  rw [List.eraseIdxIfInBounds_toArray]
 ·have:=xaY xs k
  omega
noncomputable def rCat:R2:=fun x y H Q=>∃ l b xs zs,x=.ref l∧y=.ref b∧H l=some (.lst xs)∧H b=some (.lst zs)∧xs.length + zs.length≤sizeLine∧∀ p,H p=none→Q (.ref p) (upd H p (.lst (xs ++ zs)))
theorem xaF:OpR X (binaryOp .Add) rCat:=by
 intro pins s σ H x y v u Q I rx ry h
 obtain ⟨l,b,xs,zs,rfl,rfl,hH,hB,hz,q⟩:=h
 cases rx
 cases ry
 obtain ⟨z,its,n,r,hl,e⟩:=I.lstM hH
 obtain ⟨z2,its2,n2,r2,hl2,e2⟩:=I.lstM hB
 refine PySem.P.add_list e e2 ?_ (by rw [List.size_toArray,List.size_toArray];omega)
 have ea:its.toArray ++ its2.toArray=(its ++ its2).toArray:=by simp
 rw [ea]
 exact ⟨.ref _,_,I.lnew (t':=s.toks) (r.append r2) (by rw [List.length_append];omega),rfl,q _ I.fresh⟩
end
section
variable {prog:Program} {w:World} {A:Around} {E:Value→Shared→Prop} {s:Shared}
end
section
variable {X:Cx}
end
end L2
namespace L2
open PySem PySem.Spec PyProof.Rows
section
variable {κ:Type} [DecidableEq κ]
end
section
variable {P:Program} {w:World} {H:Hp} {h:Heap} {a:Addr}
end
section
variable {X:Cx} {pins:List (Addr×Obj)} {σ:St} {H:Hp} {s:Shared} {a:Addr} {y v:V} {u r:Value} {o:Option V} {A:Around} {E:Value→Shared→Prop}
end
section
variable {X:Cx} {pins:List (Addr×Obj)} {σ:St} {H:Hp} {s:Shared} {a:Addr} {kvs:List (Key×V)} {k:Key} {u:Value} {A:Around} {E:Value→Shared→Prop}
end
section
variable {X:Cx} {o i e value:Expr} {pos pos' tpos:Pos} {td ty tv:TE}
end
section
variable {X:Cx} {pos:Pos}
end
section
variable {X:Cx} {pins:List (Addr×Obj)} {σ:St} {H:Hp} {s:Shared} {a:Addr} {y d:V} {u r:Value} {o:Option V} {A:Around} {E:Value→Shared→Prop}
end
section
variable {X:Cx} {o e f:Expr} {apos cpos:Pos} {td ty tx:TE}
end
section
variable {X:Cx} {pins:List (Addr×Obj)} {σ:St} {H:Hp} {s:Shared} {a:Addr} {kvs:List (Key×V)} {A:Around} {E:Value→Shared→Prop}
end
section
variable {X:Cx} {pins:List (Addr×Obj)} {σ:St} {H:Hp} {s:Shared} {a:Addr} {y:V} {u:Value} {A:Around} {E:Value→Shared→Prop}
end
end L2
namespace Att
open PySem PySem.W PySem.Calls PyProof.Rows
theorem zaM {P:Params} {h:Heap}:∀ (ns:List Int) (vs:List Value),WellAll P h vs (ns.map WData.int)→IntsAre vs ns:=by
 intro ns
 induction ns with
 | nil =>
  intro vs w
  rw [List.map_nil] at w
  cases w
  exact .nil
 | cons n ns ih =>
  intro vs w
  rw [List.map_cons] at w
  cases w with
  | cons a b =>
   cases a
   exact .cons _ _ (ih _ b)
theorem Ybh {l:OpenLaw} {n:Nat} (hn:l.most=some n) {P:Params} {h:Heap} {args:List WData} {vals:List Value}
  (hpre:l.row.toRowW.claim.pre args=true) (hwl:WellAll P h vals args) :
  ∃ a vs ns,vals=[Value.ref a]∧args=[WData.list (ns.map WData.int)]∧h.get? a=some { cls:=.type "list",data:=.seq vs.toArray }∧IntsAre vs ns∧ns.length≤n:=by
 have hsh:WShape.hasAll [] args [.list .int]=true:=(pre_splitW hpre).1
 have hc:l.pre.holds [] { args:=args }=true:=(pre_splitW hpre).2
 obtain ⟨d,r,rfl,h1,h2⟩:=hasAllW_cons hsh
 obtain rfl:=hasAllW_nil h2
 obtain ⟨xs,rfl,h3⟩:=hasW_list h1
 obtain ⟨ns,rfl⟩:=items_int h3
 have hlen:ns.length≤n:=by
  unfold OpenLaw.pre at hc
  have h4:(WTm.not (.lt (.lit (.int (n:Int))) (.len (.arg 0)))).holds [] { args:=[.list (ns.map .int)] }=true:=by
   have h4:=(holds_andW hc).1
   rw [hn] at h4
   exact h4
  have h5:=condW_of h4 (w_not (w_lt w_lit (w_len_list (w_arg rfl))))
  rw [List.length_map] at h5
  refine Nat.le_of_not_lt fun q=>?_
  have q':(n:Int) < ((ns.length:Nat):Int):=by omega
  first
   | (rw [decide_eq_true q'] at h5;exact absurd h5 (by decide))
   | (simp at h5;omega)
 cases hwl with
 | cons w1 w2 =>
  cases w2
  cases w1 with
  | list ho hall=>exact ⟨_,_,ns,rfl,rfl,ho,zaM ns _ hall,hlen⟩
theorem xbh (l:OpenLaw) (args:List WData):l.row.toRowW.claim.post args (.bool true) args=true :=
 postW_of (r:=l.row.toRowW) (X:=(true == true))
  (show WShape.has [] (.bool true) .bool=true by first | rfl | decide | simp [WShape.has,WShape.arms,WShape.armsAll])
  (show (WTm.eq .res (.lit (.bool true))).value [] { args:=args,res:=some (.bool true),after:=args }=some (.bool (true == true)) from w_eq_bool (w_res rfl) w_lit) rfl
theorem Za2 {l:OpenLaw} {n:Nat} {q:Program} {loose:List Str} {XP:(Str→Option Value)→Heap→Prop} {YP:World→Heap→Prop} {d:DefRec}
  (hn:l.most=some n) (hdf:d.params.defaults=[])
  (call:∀ (w:World) (s₀ s₁:Shared) (mg mb:Str→Option Value) (fa:Addr) (o:Obj) (pm cd doc:Value) (a:Addr) (vs:List Value) (ns:List Int),
   Ground q loose [] XP w s₀ mg mb s₁.heap→YP w s₁.heap →
   s₁.heap.get? fa=some o→o.data=.func (docDef d.name d.params d.body d.scope pm cd doc)→s₁.heap.CodeRec cd d.name→mg d.name=some (.ref fa) →
   s₁.heap.get? a=some { cls:=.type "list",data:=.seq vs.toArray }→IntsAre vs ns→ns.length≤n→s₁.gens=#[] →
   codeAny (model l.prog w) callerA (.call (.ref fa) ⟨[.ref a],[]⟩) (fun r s'=>r=.ok (.ret (.bool true))∧OldK s₁.heap s'.heap∧s'.os=s₁.os∧AllBare s'.gens) s₁) :
  WalkO q loose XP YP l.row.toRowW d [] (fun f vs=>PySem.call f vs):=by
 intro w s₀ s₁ mg mb G Y fa o pm cd doc dV kV ho hd hcd hD hmg hg args vals as hpre hlay hrd hwl hlo
 obtain rfl:dV=.none:=Dflts.none hD hdf
 obtain rfl:kV=.none:=Dflts.noKw hD
 obtain ⟨a,vs,ns,rfl,rfl,hobj,hints,hlen⟩:=Ybh hn hpre hwl
 refine enter_call (codeAny_mono (call w s₀ s₁ mg mb fa o pm cd doc a vs ns G Y ho (fd_plain hd) hcd hmg hobj hints hlen hg) fun r s' hq=>?_)
 obtain ⟨rfl,h2,h3,h4⟩:=hq
 exact ⟨.inl ⟨.bool true,.bool true,[],rfl,fun _=>rfl,.bool true,xbh l _,fun _=>⟨List.Pairwise.nil,fun _ hm=>(nomatch hm)⟩⟩,h2,h3,h4⟩
section
variable {prog:Program} {w:World} {A:Around} {E:Value→Shared→Prop} {s:Shared} {K:Frag}
end
end Att
namespace L2
open PySem PySem.Spec PyProof.Rows
theorem XaY:∀ {vs:List Value} {ns:List Int},IntsAre vs ns→Vals (ns.map V.int) vs
 | _,_,.nil=>.nil
 | _,_,.cons n t h=>.cons ⟨t,rfl⟩ (XaY h)
noncomputable def Only (H:Hp):Prop:=∀ b,H b=none∨∃ o xs,H b=some (.frz o (.lst xs))
theorem Zbs {P:Program} {w:World} {K:PySem.W.Frag} {mg mb:Str→Option Value} {CX:CXT} {k:Nat} {fa a:Addr} {fd:FuncData} {x:Str} {sp:Sp} {s₁:Shared} {vs:List Value} {ns:List Int}
  (KX:K.In s₁.heap) (hns:s₁.heap.Ns mainGlobals mg) (hb:s₁.heap.Ns builtinsNs mb) (hbb:∀ x:Str,x≠"__name__" → mb x=bootBuiltins x) (hlim:s₁.heap.NoLimit) (hg:s₁.gens=#[])
  (ha:s₁.heap.get? a=some { cls:=.type "list",data:=.seq vs.toArray }) (hi:IntsAre vs ns) (hl:ns.length≤sizeLine) (hr:Room k callerA)
  (F:∀ base:Heap,K.In base→base.Ns mainGlobals mg→FnOk P w K mg base CX k fa fd [x] sp) (hbind:∀ (s:Shared) (u:Value),BindsTo s fd ⟨[u],[]⟩ [(x,u)])
  (hsp:∀ H:Hp,Only H→SqL K H a (ns.map V.int)→sp [.ref a] H (fun v _=>v=.bl true) fun _ _ _=>False)
  (hCX:∀ H e s',CX [] H s₁ (fun _ _ _=>False) e s'→False) :
  codeAny (model P w) callerA (.call (.ref fa) ⟨[.ref a],[]⟩) (fun r s'=>r=.ok (.ret (.bool true))∧OldK s₁.heap s'.heap∧s'.os=s₁.os∧AllBare s'.gens) s₁:=by
 have rv:=XaY hi
 have lenV:=hi.length
 have core:∀ H:Hp,Only H→SqL K H a (ns.map V.int)→HOk P w H s₁.heap→(∀ b,H b≠none→b=a)→(H a≠none→K.lookup a=none) →
   codeAny (model P w) callerA (.call (.ref fa) ⟨[.ref a],[]⟩) (fun r s'=>r=.ok (.ret (.bool true))∧OldK s₁.heap s'.heap∧s'.os=s₁.os∧AllBare s'.gens) s₁:=by
  intro H hO hS hok hA hK
  have base_of:∀ {b:Addr} {o:Obj},s₁.heap.get? b=some o→H b=none→(hidT s₁.heap H).get? b=some o:=fun e n=>zbr e n
  have noA:∀ {b:Addr} {o:Obj} {es:Array DictEntry} {ep:Nat},s₁.heap.get? b=some o→o.data=.dict es ep→H b=none:=fun {b o es ep} e d=>by
   cases q:H b with
   | none=>rfl
   | some u =>
    have e':b=a:=hA b (by rw [q];simp)
    subst e'
    rw [ha] at e;cases e
    have d':Data.seq vs.toArray _=Data.dict es ep:=d
    cases d'
  have nsK:∀ {b:Addr} {m:Str→Option Value},s₁.heap.Ns b m→(hidT s₁.heap H).Ns b m:=fun {b m} ⟨o,es,ep,e,d,r⟩=>⟨o,es,ep,base_of e (noA e d),d,r⟩
  have hKb:K.In (hidT s₁.heap H):=fun b o e=>base_of (KX b o e) (by
   cases q:H b with
   | none=>rfl
   | some u =>
    have e':b=a:=hA b (by rw [q];simp)
    subst e'
    rw [hK (by rw [q];simp)] at e;cases e)
  have hM:Mod K mg (hidT s₁.heap H):=⟨hKb,nsK hns,⟨mb,nsK hb,hbb⟩,let ⟨mc,h1,h2⟩:=hlim;⟨mc,nsK h1,h2⟩⟩
  have e0:Env0 P w K mg (hidT s₁.heap H) callerA [] s₁ H:=⟨rfl,hM,fun b o e=>ybD e,Nat.le_of_eq (zbe _ _),trivial,fun b hb=>absurd (show b∈([]:List Addr) from hb) (by simp),hok,.of_eq hg⟩
  refine codeAny_mono ((F _ hKb (nsK hns)).run callerA [] s₁ H ⟨[.ref a],[]⟩ [.ref a] [.ref a] _ _ hr e0 (hbind s₁ (.ref a)) (.cons rfl .nil) (hsp H hO hS)) fun r s' h=>?_
  cases r with
  | error e=>exact (hCX H e s' h).elim
  | ok fl =>
   cases fl with
   | next=>exact False.elim h
   | brk=>exact False.elim h
   | cont=>exact False.elim h
   | ret u =>
    obtain ⟨v,H',os,bare,un,hok',r',q⟩:=h
    have q':v=.bl true:=q
    subst q'
    obtain rfl:u=Value.bool true:=r'
    refine ⟨rfl,OldK.of_keep fun b o e=>?_,os,bare⟩
    cases q:H b with
    | none=>exact un.keep b o e q (by intro z;exact absurd (show b∈([]:List Addr) from z) (by simp)) (by simp)
    | some u =>
     rcases hO b with z | ⟨ob,xs,z⟩
     ·rw [q] at z;cases z
     ·have z2:=un.frzs b ob _ z
      obtain ⟨e1,_⟩:=hok b _ z
      obtain ⟨e2,_⟩:=hok' b _ z2
      rw [e] at e1;cases e1
      exact e2
 cases hk:K.lookup a with
 | some o =>
  have e:=KX a o hk
  rw [ha] at e
  cases e
  refine core (fun _=>none) (fun _=>.inl rfl) (.inr ⟨_,vs.toArray,_,hk,rfl,rfl,rfl,by rw [List.size_toArray,lenV];exact hl,by simpa using rv⟩) (fun b u z=>by have z':(none:Option HO)=some u:=z;cases z') (fun b z=>absurd rfl z) fun z=>absurd rfl z
 | none =>
  refine core (fun b=>if b=a then some (.frz { cls:=.type "list",data:=.seq vs.toArray } (.lst (ns.map V.int))) else none) (fun b=>?_) (.inl (.inr ⟨{ cls:=.type "list",data:=.seq vs.toArray },if_pos rfl⟩)) (fun b u z=>?_) (fun b z=>?_) fun _=>hk
  ·by_cases hb:b=a
   ·exact .inr ⟨_,_,if_pos hb⟩
   ·exact .inl (if_neg hb)
  ·by_cases hb:b=a
   ·have z':=(if_pos hb).symm.trans z
    cases z'
    subst hb
    exact ⟨ha,by rw [List.length_map];exact hl,vs,_,rv,ha⟩
   ·have z':=(if_neg hb).symm.trans z
    cases z'
  ·by_cases hb:b=a
   ·exact hb
   ·exact absurd (if_neg hb) z
end L2
namespace L2
open PySem PySem.Spec PyProof.Rows
abbrev KOf {K:PySem.W.Frag} {h:Heap} (_:K.In h):PySem.W.Frag:=K
theorem ZbE {l:PySem.W.OpenLaw} {n k:Nat} {q:Program} {loose:List Str} {XP:(Str→Option Value)→Heap→Prop} {YP:World→Heap→Prop} {d:DefRec} {K:Params→PySem.W.Frag} {CX:World→CXT} {sp:World→Sp} {x:Str}
  (hn:l.most=some n) (hn2:n≤sizeLine) (hdf:d.params.defaults=[]) (hr:Room k callerA)
  (hY:∀ (w:World) (h:Heap),YP w h→(K w.params).In h)
  (F:∀ (w:World) (mg:Str→Option Value) (fa:Addr) (h:Heap),(K w.params).In h→h.Ns mainGlobals mg→mg d.name=some (.ref fa) →
   ∃ fd:FuncData,(∀ (s:Shared) (u:Value),BindsTo s fd ⟨[u],[]⟩ [(x,u)]) ∧
    ∀ base:Heap,(K w.params).In base→base.Ns mainGlobals mg→FnOk l.prog w (K w.params) mg base (CX w) k fa fd [x] (sp w))
  (hsp:∀ (w:World) (H:Hp) (a:Addr) (ns:List Int),ns.length≤n→Only H→SqL (K w.params) H a (ns.map V.int)→sp w [.ref a] H (fun v _=>v=.bl true) fun _ _ _=>False)
  (hCX:∀ (w:World) (H:Hp) (s:Shared) (e:Value) (s':Shared),CX w [] H s (fun _ _ _=>False) e s'→False) :
  PySem.W.WalkO q loose XP YP l.row.toRowW d [] (fun f vs=>PySem.call f vs):=by
 refine Att.Za2 hn hdf fun w s₀ s₁ mg mb fa o pm cd doc a vs ns G Y ho hd hcd hmg hobj hints hlen hg=>?_
 have KX:=hY w _ Y
 obtain ⟨fd,hb,hF⟩:=F w mg fa _ KX G.T.g hmg
 exact Zbs KX G.T.g G.T.b G.T.builtins G.T.nolimit hg hobj hints (Nat.le_trans hlen hn2) hr hF hb (fun H hO hS=>hsp w H a ns hlen hO hS) fun H e s'=>hCX w H s₁ e s'
theorem Ybs {l:PySem.W.OpenLaw} {n k:Nat} {q:Program} {loose:List Str} {XP:(Str→Option Value)→Heap→Prop} {YP:World→Heap→Prop} {d:DefRec} {K:Params→PySem.W.Frag} {CX:CXT} {sp:PySem.W.Frag→Sp} {x:Str}
  (hn:l.most=some n) (hn2:n≤sizeLine) (hdf:d.params.defaults=[]) (hr:Room k callerA)
  (hY:∀ (w:World) (h:Heap),YP w h→(K w.params).In h)
  (F:∀ (w:World) (mg:Str→Option Value) (fa:Addr) (h:Heap),(K w.params).In h→h.Ns mainGlobals mg→mg d.name=some (.ref fa) →
   ∃ fd:FuncData,(∀ (s:Shared) (u:Value),BindsTo s fd ⟨[u],[]⟩ [(x,u)]) ∧
    ∀ base:Heap,(K w.params).In base→base.Ns mainGlobals mg→FnOk l.prog w (K w.params) mg base CX k fa fd [x] (sp (K w.params)))
  (hsp:∀ (K:PySem.W.Frag) (H:Hp) (a:Addr) (ns:List Int),ns.length≤n→Only H→SqL K H a (ns.map V.int)→sp K [.ref a] H (fun v _=>v=.bl true) fun _ _ _=>False)
  (hCX:∀ (H:Hp) (s:Shared) (e:Value) (s':Shared),CX [] H s (fun _ _ _=>False) e s'→False) :
  PySem.W.WalkO q loose XP YP l.row.toRowW d [] (fun f vs=>PySem.call f vs) :=
 ZbE (K:=K) (CX:=fun _=>CX) (sp:=fun w=>sp (K w.params)) hn hn2 hdf hr hY F (fun w H a ns h1 h2 h3=>hsp (K w.params) H a ns h1 h2 h3) fun _ H s e s'=>hCX H s e s'
end L2
namespace L2
open PySem PySem.Spec PyProof.Rows
noncomputable def defArgs (s:Stmt):Arguments:=match s with
 | .FunctionDef _ a _ _ _ _ _ _ _ _=>a
 | _=>{ posonlyargs:=[],args:=[],vararg:=none,kwonlyargs:=[],kw_defaults:=[],kwarg:=none,defaults:=[] }
noncomputable def defBody (s:Stmt):List Stmt:=match s with
 | .FunctionDef _ _ b _ _ _ _ _ _ _=>b
 | _=>[]
noncomputable def defScope (s:Stmt):Scope:=match s with
 | .FunctionDef _ _ _ _ _ _ sc _ _ _=>sc
 | _=>{ kind:=.function,names:=[],isGenerator:=false,isCoroutine:=false }
abbrev CX0:CXT:=fun _ _ _ _ _ _=>False
abbrev E0:XK:=fun _ _ _=>False
theorem pass0 {X:Cx}:Passes CX0 X E0:=fun _ _ _ _ _ _ _ h=>h.elim
structure Fun (K:PySem.W.Frag) (x qual:Str) (st:Stmt) (f:Addr) (fd:FuncData):Prop where
 ex:∃ (oc:Value) (od:Option Addr) (kV doc pm:Value) (an:Option Addr) (cdv ct:Value) (osl:Array (Option Value)),
  fd=PySem.W.fnOf x qual (defArgs st) (defBody st) (defScope st) .none kV doc pm an cdv ct∧K.lookup f=some ⟨oc,od,.func fd,osl⟩∧PySem.W.codeIn K cdv qual=true
 kp:PySem.W.keepIn K (.ref f)=true
section
variable {P:Program} {w:World} {K:PySem.W.Frag} {mg:Str→Option Value} {base:Heap}
theorem Fun.ok {x qual:Str} {st:Stmt} {f:Addr} {fd:FuncData} {N ps:List Str} {k:Nat} {sp:Sp} (F:Fun K x qual st f fd) (S:FnScope N ps (defScope st)) (len:∀ vs H Q E,sp vs H Q E→vs.length=ps.length)
  (hbody:∀ (cdv:Value) (A:Around) (outer:List Env) (s:Shared) (H:Hp) (vs:List V) (Q:VK) (E:XK),Room k (A.deeper (envOfC qual (defScope st) s.heap.objs.size f cdv))→sp vs H Q E →
   ∃ t,PSs (cxOf CX0 P w K mg base N qual (defScope st) f cdv A outer s H E).nox (defBody st) t∧t { nx:=fun _ H'=>Q .non H',rt:=Q } (start N vs) H):FnOk P w K mg base CX0 (k + 1) f fd ps sp:=by
 obtain ⟨oc,od,kV,doc,pm,an,cdv,ct,osl,rfl,lk,hcd⟩:=F.ex
 refine fn_of lk hcd S len fun A outer s H vs Q E hr hsp=>?_
 obtain ⟨t,h,q⟩:=hbody cdv A outer s H vs Q E hr hsp
 exact ⟨t,h.nox,q⟩
theorem XbA {x qual:Str} {st:Stmt} {f:Addr} {oc:Value} {od an:Option Addr} {osl:Array (Option Value)} {kV doc pm cdv ct:Value} (l:K.lookup f=some ⟨oc,od,.func (PySem.W.fnOf x qual (defArgs st) (defBody st) (defScope st) .none kV doc pm an cdv ct),osl⟩)
  (c:PySem.W.codeIn K cdv qual=true) (k:PySem.W.keepIn K (.ref f)=true):Fun K x qual st f (PySem.W.fnOf x qual (defArgs st) (defBody st) (defScope st) .none kV doc pm an cdv ct):=⟨⟨oc,od,kV,doc,pm,an,cdv,ct,osl,rfl,l,c⟩,k⟩
end
theorem YaD {A:Around} {k:Nat} (hr:Room k A):A.units + 1 < cLine:=Nat.lt_of_le_of_lt (Nat.add_le_add_left (by decide:1≤64) _) hr.units
section
variable {X:Cx}
theorem pv (i:Nat) {x:Str} {pos:Pos} (hN:X.N[i]?=some x:=by rfl) (hv:Vis X.env.scope x:=by first | exact Or.inl rfl | exact Or.inr (Or.inl rfl) | exact Or.inr (Or.inr rfl)) (hd:(x == ("__debug__" : Str))=false:=by decide)
  (hcd:(x == ("__classdict__" : Str))=false:=by decide):PE X (.Name x pos) (tVar i):=pe_var hN hv hd hcd
end
theorem iteF {A B:Prop} (h:B):if false=true then A else B:=by
 rw [if_neg Bool.false_ne_true]
 exact h
theorem iteT {A B:Prop} (h:A):if true=true then A else B:=by
 rw [if_pos rfl]
 exact h
noncomputable def Same (H H':Hp):Prop:=∀ b o,H b=some o→H' b=some o
theorem Same.refl (H:Hp):Same H H:=fun _ _ h=>h
section
variable {X:Cx}
end
section
variable {κ:Type} [DecidableEq κ]
end
end L2
namespace L2
open PySem PySem.Spec PyProof.Rows
theorem Yal:bootBuiltins "len" = some (.builtin "len"):=by decide +kernel
theorem zbB:bootBuiltins "int" = some (.type "int"):=by decide +kernel
theorem xas:bootBuiltins "list" = some (.type "list"):=by decide +kernel
theorem Xax:bootBuiltins "tuple" = some (.type "tuple"):=by decide +kernel
theorem zav:bootBuiltins "range" = some (.type "range"):=by decide +kernel
theorem Xaz:bootBuiltins "isinstance" = some (.builtin "isinstance"):=by decide +kernel
theorem bt_max:bootBuiltins "max" = some (.builtin "max"):=by decide +kernel
theorem bt_zip:bootBuiltins "zip" = some (.type "zip"):=by decide +kernel
structure Kp (ch:List Addr) (H H':Hp):Prop where
 keep:∀ b o,H b=some o→b ∉ ch→H' b=some o
 tup:∀ b xs,H b=some (.tup xs)→H' b=some (.tup xs)
 frz:∀ b o u,H b=some (.frz o u)→H' b=some (.frz o u)
section
variable {ch:List Addr} {H H1 H2:Hp} {a l p:Addr} {o:HO} {xs ys:List V} {K:PySem.W.Frag}
theorem Kp.refl:Kp ch H H:=⟨fun _ _ h _=>h,fun _ _ h=>h,fun _ _ _ h=>h⟩
theorem Kp.of_same (h:Same H H1):Kp ch H H1:=⟨fun b o e _=>h b o e,fun b xs e=>h b _ e,fun b o u e=>h b _ e⟩
theorem Kp.put (h:Kp ch H H1) (ha:a∈ch) (e:H1 a=some (.lst xs)):Kp ch H (upd H1 a o) :=
 ⟨fun b u q n=>by rw [Yae (fun z=>n (by rw [z];exact ha))];exact h.keep b u q n,
   fun b u q=>by
  have r:=h.tup b u q
  rw [Yae (ne_of r e (by intro z;cases z))];exact r,
   fun b u v q=>by
  have r:=h.frz b u v q
  rw [Yae (ne_of r e (by intro z;cases z))];exact r⟩
theorem Kp.sqT (h:Kp ch H H1) (q:SqT K H a xs):SqT K H1 a xs:=by
 rcases q with (q | ⟨o,q⟩) | q
 ·exact .inl (.inl (h.tup a xs q))
 ·exact .inl (.inr ⟨o,h.frz a o _ q⟩)
 ·exact .inr q
noncomputable def SqF (K:PySem.W.Frag) (H:Hp) (a:Addr) (xs:List V):Prop :=
 (∃ o,H a=some (.frz o (.lst xs))) ∨
  ∃ (o:Obj) (its:Array Value) (n:Nat),K.lookup a=some o∧o.cls=.type "list" ∧ o.dict=none∧o.data=.seq its n∧its.size≤sizeLine∧Vals xs its.toList
theorem SqF.sq (h:SqF K H a xs):SqL K H a xs:=h.elim (fun ⟨o,e⟩=>.inl (.inr ⟨o,e⟩)) .inr
theorem SqL.script (hO:Only H) (q:SqL K H a xs):SqF K H a xs:=by
 rcases q with (q | ⟨o,q⟩) | q
 ·rcases hO a with e | ⟨o,ys,e⟩
  ·rw [e] at q;cases q
  ·rw [e] at q;cases q
 ·exact .inl ⟨o,q⟩
 ·exact .inr q
theorem Same.up (h:H p=none):Same H (upd H p o):=fun b u e=>by rw [Yae (yas e h)];exact e
end
noncomputable def GotT (K:PySem.W.Frag) (H:Hp) (xs:List V) (Q:VK):Prop:=∀ p H',SqT K H' p xs→Same H H'→Q (.ref p) H'
section
variable {X:Cx}
theorem GotT.new {K:PySem.W.Frag} {H:Hp} {xs:List V} {Q:VK} (h:GotT K H xs Q):∀ p,H p=none→Q (.ref p) (upd H p (.tup xs)):=fun p hp=>h p _ (SqT.of yag) (Same.up hp)
theorem GotT.it {K:PySem.W.Frag} {H:Hp} {xs:List V} {Q:VK} {a:Addr} (h:GotT K H xs Q) (q:SqT K H a xs):Q (.ref a) H:=h a H q (Same.refl H)
noncomputable def rCatTA (K:PySem.W.Frag):R2:=fun x y H Q=>∃ a b xs ys,x=.ref a∧y=.ref b∧SqT K H a xs∧SqT K H b ys∧xs.length + ys.length≤sizeLine∧GotT K H (xs ++ ys) Q
theorem yav:OpR X (binaryOp .Add) (rCatTA X.K):=by
 intro pins s σ H x y v u Q I rx ry h
 obtain ⟨a,b,xs,ys,rfl,rfl,ha,hb,hz,q⟩:=h
 by_cases hx:xs=[]
 ·subst hx
  cases rx
  cases ry
  obtain ⟨its,r1,p1,_⟩:=I.tuple ha
  obtain ⟨its2,r2,p2,_⟩:=I.tuple hb
  have e:its=[]:=r1.nil_iff.mpr rfl
  subst e
  obtain ⟨⟨cls,dd,data,sl⟩,ho,hc,n,hd⟩:=id p1
  obtain ⟨⟨cls2,dd2,data2,sl2⟩,ho2,hc2,n2,hd2⟩:=id p2
  simp only at hc hd hc2 hd2
  subst hc hd hc2 hd2
  exact concat_meets ⟨_,ho,rfl⟩ ⟨_,ho2,rfl⟩ noFill_tuple_add seq_tuple_add PySem.F.slot_tuple_add PySem.F.entry_tuple_add (PySem.F.args_tuple_add_2 _ _)
   (tuple_addW0 a b #[] its2.toArray n n2 dd dd2 sl sl2 (by simp)) ⟨ho,ho2,⟨.ref b,H,I,rfl,q.it (by simpa using hb)⟩⟩
 ·exact ybE pins s σ H _ _ v u Q I rx ry ⟨a,b,xs,ys,rfl,rfl,ha,hb,hx,hz,fun e=>q.it (by subst e;simpa using ha),fun _=>q.new⟩
theorem Ya2 {prog:Program} {w:World} {A:Around} {E:Value→Shared→Prop} {s:Shared} {t sl:Addr} {items:Array Value} {vl vu:Value} {lo hi:Option Int} {Q:Value→Shared→Prop} (ht:IsTup s.heap t items) (hs:s.heap.IsSliceOf sl vl vu .none) (pl:IsPart vl lo) (pu:IsPart vu hi)
  (hw:HT.sIx items.size 0 lo=0∧HT.sIx items.size items.size hi=items.size) (h:Q (.ref t) s):wpAny (model prog w) A (getItem (.ref t) (.ref sl)) Q E s:=by
 obtain ⟨os,hos,hcs,hds⟩:=id hs
 have hTs:s.TypeIs (.ref sl) "slice" := ⟨os,hos,hcs⟩
 unfold getItem
 try with_reducible refine wpAny_holding ?_
 first | refine wpAny_bind (wpAny_pure ?_) | skip
 refine wpAny_bind (wpAny_sequenceKey ht.typeIs (by decide) ?_)
 refine wpAny_bind (wpAny_callSpecial?_slot (name:=Str.ofString "__getitem__") ht.typeIs PyProof.Rows.slot_tuple_getitem
  (wpAny_call_entry PyProof.Rows.slot_tuple_getitem ht.typeIs entry_tuple_getitem ?_ (args_tuple_getitem _ _)))
 show wpAny _ _ (Builtin.Tuple.tupleItemsOf (.ref t) >>= _) _ _ s
 refine wpAny_bind (tupleItemsOf_ ht ?_)
 refine wpAny_bind (wpAny_typeOf hTs ?_)
 rw [if_pos (by decide)]
 refine wpAny_bind (HT.ZaB hs pl pu ?_)
 have hyes:((((HT.sIx items.size 0 lo:Nat):Int) == 0 && (1:Int) == 1 && (HT.sIx items.size items.size hi - HT.sIx items.size 0 lo) == items.size)=true):=by
  rw [hw.1,hw.2];simp
 show wpAny _ _ (if (((HT.sIx items.size 0 lo:Nat):Int) == 0 && (1:Int) == 1 && (HT.sIx items.size items.size hi - HT.sIx items.size 0 lo) == items.size)=true then _ else _) _ _ s
 rw [if_pos hyes]
 obtain ⟨o,ho,hc,n,hd⟩:=id ht
 unfold Builtin.Tuple.tupleIsExact
 first
  | exact wpAny_bind (wpAny_bind (wpAny_typeOf (T:="tuple") ⟨o,ho,hc⟩ (wpAny_pure (wpAny_bind (wpAny_rule (wpAny_pure ⟨_,rfl,wpAny_pure h⟩))))))
  | exact wpAny_bind (wpAny_bind (wpAny_typeOf (T:="tuple") ⟨o,ho,hc⟩ (wpAny_pure (wpAny_bind (wpAny_rule (wpAny_bind (wpAny_pure ⟨_,rfl,wpAny_pure h⟩)))))))
  | trace_state
noncomputable def rSlTA (K:PySem.W.Frag):V→Option Int→Option Int→Hp→VK→Prop:=fun x lo hi H Q=>∃ a xs,x=.ref a∧SqT K H a xs∧GotT K H (cutV xs lo hi) Q
theorem ybb {xs:List V} {lo hi:Option Int} (h:HT.sIx xs.length 0 lo=0∧HT.sIx xs.length xs.length hi=xs.length):cutV xs lo hi=xs:=by
 unfold cutV;rw [h.1,h.2];simp
theorem zaz:SlR X (rSlTA X.K):=by
 intro pins s σ H x v vl vu lo hi sl Q I rx hs pl pu h
 obtain ⟨a,xs,rfl,hx,q⟩:=h
 by_cases hw:HT.sIx xs.length 0 lo=0∧HT.sIx xs.length xs.length hi=xs.length
 ·cases rx
  obtain ⟨its,r,ht,hz⟩:=I.tuple hx
  have hlen:its.toArray.size=xs.length:=by rw [List.size_toArray];exact r.length.symm
  refine ⟨"tuple",_,PyProof.Rows.slot_tuple_getitem.lookup,ht.typeIs,?_⟩
  exact Ya2 ht hs pl pu (by rw [hlen];exact hw) ⟨.ref a,H,I,rfl,q.it (by rw [ybb hw];exact hx)⟩
 ·exact sl_tup pins s σ H _ v vl vu lo hi sl Q I rx hs pl pu ⟨a,xs,rfl,hx,hw,q.new⟩
noncomputable def rangeV (lo:Int) (n:Nat):List V:=(List.range n).map fun (k:Nat)=>V.int (lo + k)
theorem XaT (lo:Int) (n:Nat):(rangeV lo n).length=n:=by simp [rangeV]
theorem xaE:CallR X (.type "range") (fun xs H Q=>∃ j:Int,xs=[.int j]∧∀ p,H p=none→Q (.ref p) (upd H p (.rng 0 j))):=by
 intro pins s σ H xs us Q I r h
 obtain ⟨j,rfl,q⟩:=h
 obtain ⟨u,rfl,t,rfl⟩:=vals1 r
 refine call_range_1 ⟨.ref s.heap.objs.size,_,I.laid (o:=.rng 0 j) (fun b o e=>Heap.get?_push_of_some _ e) (Nat.le_refl _) ?_,rfl,q _ (I.hok.fresh (Nat.le_refl _))⟩
 exact ⟨_,_,_,Heap.get?_push_size _ rfl⟩
theorem Xas:CallR X (.type "range") (fun xs H Q=>∃ i j:Int,xs=[.int i,.int j]∧∀ p,H p=none→Q (.ref p) (upd H p (.rng i j))):=by
 intro pins s σ H xs us Q I r h
 obtain ⟨i,j,rfl,q⟩:=h
 obtain ⟨u,u',rfl,⟨t,rfl⟩,t',rfl⟩:=vals2 r
 refine call_range_2 ⟨.ref s.heap.objs.size,_,I.laid (o:=.rng i j) (fun b o e=>Heap.get?_push_of_some _ e) (Nat.le_refl _) ?_,rfl,q _ (I.hok.fresh (Nat.le_refl _))⟩
 exact ⟨_,_,_,Heap.get?_push_size _ rfl⟩
theorem XaR:∀ (n:Nat) (lo:Int) (us:List Value),us.length=n→(∀ (j:Nat) (v:Value),us[j]?=some v→∃ t,v=.int (lo + j * 1) t)→Vals (rangeV lo n) us
 | 0,lo,[],_,_=>.nil
 | 0,lo,_ :: _,h,_=>by simp at h
 | n + 1,lo,[],h,_=>by simp at h
 | n + 1,lo,u :: us,h,hv=>by
  have e:rangeV lo (n + 1)=V.int lo :: rangeV (lo + 1) n:=by
   unfold rangeV
   rw [List.range_succ_eq_map,List.map_cons,List.map_map]
   congr 1
   ·simp
   ·apply List.map_congr_left
    intro i _
    simp only [Function.comp]
    congr 1
    push_cast
    omega
  rw [e]
  obtain ⟨t,ht⟩:=hv 0 u rfl
  refine .cons ⟨t,by rw [ht];simp⟩ (XaR n (lo + 1) us (by simpa using h) fun j v hj=>?_)
  obtain ⟨t',ht'⟩:=hv (j + 1) v hj
  refine ⟨t',ht'.trans ?_⟩
  congr 1
  omega
theorem Yah (hc:X.calm=true):CallR X (.type "list") (fun xs H Q=>∃ p lo hi,xs=[.ref p]∧H p=some (.rng lo hi)∧(-(2 ^ 62)≤lo∧lo < 2 ^ 62∧-(2 ^ 62)≤hi∧hi < 2 ^ 62)∧(hi - lo).toNat≤2 ^ 24 ∧
  ∀ l,H l=none→Q (.ref l) (upd H l (.lst (rangeV lo (hi - lo).toNat)))):=by
 intro pins s σ H xs us Q I r h
 obtain ⟨p,lo,hi,rfl,hp,⟨b1,b2,b3,b4⟩,hz,q⟩:=h
 obtain ⟨u,rfl,ru⟩:=vals1 r
 cases ru
 obtain ⟨t,t',t'',e⟩:=(show ObjOk X.prog X.w H s.heap p (.rng lo hi) from I.hok p _ hp)
 refine call_list_range (a:=lo) (b:=hi) (c:=1) (n:=(hi - lo).toNat) (I.ok.hd hc) (show IsRange s.heap p lo hi 1 t t' t'' from e) (small_one b1 b2 b3 b4) (by rw [rangeSize_one];split <;> omega) hz fun h' tk acc c kp hD hI=>?_
 refine ⟨.ref s.heap.objs.size,_,I.laid (t':=tk) (o:=.lst (rangeV lo (hi - lo).toNat)) kp (Nat.le_refl _) ?_,rfl,q _ (I.hok.fresh (Nat.le_refl _))⟩
 refine ⟨by rw [XaT];exact Nat.le_trans hz (by decide),acc.toList,c,XaR _ _ _ (by rw [Array.length_toList];exact hI.1) fun j v hj=>hI.2 j v (by rw [← hj,Array.getElem?_toList]),by simpa using hD⟩
end
mutual
inductive Rep (K:PySem.W.Frag) (H:Hp):V→PyData→Prop
 | non:Rep K H .non .none
 | bl (b:Bool):Rep K H (.bl b) (.bool b)
 | int (i:Int):Rep K H (.int i) (.int i)
 | str (x:Str):Rep K H (.str x) (.str x)
 | tup {a:Addr} {xs:List V} {ds:List PyData}:SqT K H a xs→Reps K H xs ds→Rep K H (.ref a) (.tuple ds)
 | lst {a:Addr} {xs:List V} {ds:List PyData}:SqL K H a xs→Reps K H xs ds→Rep K H (.ref a) (.list ds)
inductive Reps (K:PySem.W.Frag) (H:Hp):List V→List PyData→Prop
 | nil:Reps K H [] []
 | cons {v:V} {vs:List V} {d:PyData} {ds:List PyData}:Rep K H v d→Reps K H vs ds→Reps K H (v :: vs) (d :: ds)
end
section
variable {X:Cx} {pins:List (Addr×Obj)} {σ:St} {H:Hp} {s:Shared}
mutual
theorem Rep.reads (I:Inv X pins σ H s):∀ {v:V} {d:PyData} {u:Value},Rep X.K H v d→RelV v u→∃ as,Reads s.heap u d as
 | _,_,_,.non,r=>by cases r;exact ⟨_,.none⟩
 | _,_,_,.bl b,r=>by cases r;exact ⟨_,.bool b⟩
 | _,_,_,.int i,r=>by obtain ⟨t,rfl⟩:=r;exact ⟨_,.int i t⟩
 | _,_,_,.str x,r=>by obtain ⟨t,rfl⟩:=r;exact ⟨_,.str x t⟩
 | _,_,_,.tup q rs,r=>by
  cases r
  obtain ⟨its,rv,⟨o,e,c,n,hd⟩,_⟩:=I.tuple q
  obtain ⟨as,ra⟩:=Reps.reads I rs rv
  exact ⟨_,.tuple e c hd (by simpa using ra)⟩
 | _,_,_,.lst q rs,r=>by
  cases r
  obtain ⟨its,rv,pl,_⟩:=I.list q
  obtain ⟨o,e,c,n,hd⟩:=pl.isList
  obtain ⟨as,ra⟩:=Reps.reads I rs rv
  exact ⟨_,.list e c hd (by simpa using ra)⟩
theorem Reps.reads (I:Inv X pins σ H s):∀ {vs:List V} {ds:List PyData} {us:List Value},Reps X.K H vs ds→Vals vs us→∃ as,ReadsAll s.heap us ds as
 | _,_,_,.nil,r=>by cases r;exact ⟨_,.nil⟩
 | _,_,_,.cons h t,r=>by
  cases r with
  | cons r1 r2 =>
   obtain ⟨as,h1⟩:=Rep.reads I h r1
   obtain ⟨bs,h2⟩:=Reps.reads I t r2
   exact ⟨_,.cons h1 h2⟩
end
noncomputable def rEqD (K:PySem.W.Frag) (neg:Bool):R2:=fun x y H Q=>∃ d e,Rep K H x d∧Rep K H y e∧PyData.canLay0 d=true∧PyData.canLay0 e=true∧min d.depth e.depth≤60∧Q (.bl (if neg then !PyData.eqv d e else PyData.eqv d e)) H
theorem ya6 (hu:X.A.units + 64 < cLine):OpR X (compareOp .NotEq) (rEqD X.K true):=by
 intro pins s σ H x y v u Q I rx ry h
 obtain ⟨d,e,hd,he,c1,c2,dp,q⟩:=h
 obtain ⟨as,ra⟩:=hd.reads I rx
 obtain ⟨bs,rb⟩:=he.reads I ry
 exact SeqAt.neOverData X.prog X.w X.A X.xe s v u d e as bs _ ra rb c1 c2 (by omega) ⟨.bl _,H,I,rfl,q⟩
end
section
variable {K:PySem.W.Frag} {H:Hp}
noncomputable def intsD (ns:List Int):List PyData:=ns.map PyData.int
theorem Reps.ints:∀ (ns:List Int),Reps K H (ns.map V.int) (intsD ns)
 | []=>.nil
 | n :: r=>.cons (.int n) (Reps.ints r)
theorem XaE:∀ (ns:List Int),PyData.canLayAll0 (intsD ns)=true
 | []=>rfl
 | n :: r=>by show (true && PyData.canLayAll0 (intsD r))=true;rw [XaE r];rfl
theorem zaS:∀ (ns:List Int),PyData.depthAll (intsD ns)=0
 | []=>rfl
 | n :: r=>by show max 0 (PyData.depthAll (intsD r))=0;rw [zaS r];rfl
theorem zaU:∀ (ns ms:List Int),PyData.eqvAll (intsD ns) (intsD ms)=decide (ns=ms)
 | [],[]=>rfl
 | [],_ :: _=>rfl
 | _ :: _,[]=>rfl
 | n :: ns,m :: ms=>by
  show ((n == m) && PyData.eqvAll (intsD ns) (intsD ms))=decide (n :: ns=m :: ms)
  rw [zaU ns ms]
  by_cases h:n=m
  ·subst h;simp
  ·simp [h]
end
end L2
namespace L2
open PySem PySem.Spec PyProof.Rows
structure Def (K:PySem.W.Frag) (mg:Str→Option Value) (x:Str) (st:Stmt) (ps:List Str) (f:Addr) (fd:FuncData):Prop where
 F:Fun K x x st f fd
 be:∀ us:List Value,us.length=ps.length→bindArgs fd ⟨us,[]⟩=pure (ps.zip us)
 m:mg x=some (.ref f)
theorem Def.b {K:PySem.W.Frag} {mg:Str→Option Value} {x:Str} {st:Stmt} {ps:List Str} {f:Addr} {fd:FuncData} (D:Def K mg x st ps f fd):Binds K fd ps []:=.all D.be
theorem Xau {K:PySem.W.Frag} {h:Heap} {mg:Str→Option Value} (X:K.In h) (G:h.Ns mainGlobals mg) {x:Str} {st:Stmt} {ps:List Str} {f:Addr} {oc:Value} {od an:Option Addr} {osl:Array (Option Value)} {kV doc pm cdv ct:Value}
  (hb:∀ (kV doc pm:Value) (an:Option Addr) (cdv ct:Value) (us:List Value),us.length=ps.length→bindArgs (PySem.W.fnOf x x (defArgs st) (defBody st) (defScope st) .none kV doc pm an cdv ct) ⟨us,[]⟩=pure (ps.zip us))
  (a:PySem.W.nsIn K mainGlobals x=some (some (.ref f))) (l:K.lookup f=some ⟨oc,od,.func (PySem.W.fnOf x x (defArgs st) (defBody st) (defScope st) .none kV doc pm an cdv ct),osl⟩)
  (c:PySem.W.codeIn K cdv x=true) (k:PySem.W.keepIn K (.ref f)=true):∃ f fd,Def K mg x st ps f fd :=
 ⟨f,_,XbA l c k,hb kV doc pm an cdv ct,PySem.W.mg_of X G a⟩
theorem Def.bindsTo {K:PySem.W.Frag} {mg:Str→Option Value} {x p:Str} {st:Stmt} {f:Addr} {fd:FuncData} (D:Def K mg x st [p] f fd) (s:Shared) (u:Value):BindsTo s fd ⟨[u],[]⟩ [(p,u)]:=.of_eq (D.be [u] rfl)
theorem yaz {K:PySem.W.Frag} {h:Heap} {mg:Str→Option Value} (X:K.In h) (G:h.Ns mainGlobals mg) {x:Str} (z:PySem.W.nsIn K mainGlobals x=some none):mg x=none:=PySem.W.mg_none_of X G z
theorem yaM {n j:Nat} (h:j < n):ixN n (j:Int)=some j:=by
 unfold ixN
 rw [if_pos (by omega),if_pos (by omega)]
 simp
theorem atI_lt {α:Type} {xs:List α} {i:Int} (h0:0≤i) (h1:i < xs.length):∃ v,atI xs i=some v∧v∈xs:=by
 have hi:i.toNat < xs.length:=by omega
 refine ⟨xs[i.toNat],?_,List.getElem_mem hi⟩
 have:=YaL (xs:=xs) (j:=i.toNat) (v:=xs[i.toNat]) (by simp [hi])
 rwa [Int.toNat_of_nonneg h0] at this
theorem dT {c:Prop} [Decidable c] (h:decide c=true):c:=of_decide_eq_true h
end L2
namespace L2
open PySem PySem.Spec PyProof.Rows
section
variable {prog:Program} {w:World} {A:Around} {E:Value→Shared→Prop} {s:Shared}
end
section
variable {X:Cx} {e:Expr} {te:TE} {pos p0 p1 p2:Pos} {j:Nat}
end
end L2
namespace L2
open PySem PySem.Spec PyProof.Rows
section
variable {K:PySem.W.Frag} {f:Addr} {H0:Hp} {σ:St} {i:Nat} {t u ta tb:TE} {R R':V→Hp→Prop} {P P' P2:Int→Prop} {L M:Nat}
end
end L2
namespace L2
open PySem PySem.Spec PyProof.Rows
theorem Yap:∀ (names:List (Str×NameKind)) (n:Nat) (acc:List (Str×Addr)),cellsFrom n names acc=cellsFrom n names [] ++ acc
 | [],_,_=>rfl
 | (x,k) :: r,n,acc=>by
  show (if k == .cell then cellsFrom (n + 1) r ((x,n) :: acc) else cellsFrom n r acc)=(if k == .cell then cellsFrom (n + 1) r [(x,n)] else cellsFrom n r []) ++ acc
  by_cases hk:(k == NameKind.cell)=true
  ·rw [if_pos hk,if_pos hk,Yap r (n + 1) ((x,n) :: acc),Yap r (n + 1) [(x,n)],List.append_assoc];rfl
  ·rw [if_neg hk,if_neg hk];exact Yap r n acc
theorem zaA {x:Str} {c:Addr}:∀ (names:List (Str×NameKind)) (n:Nat),(x,c)∈cellsFrom n names []→(x,NameKind.cell)∈names∧n≤c
 | [],_,h=>nomatch h
 | (y,k) :: r,n,h=>by
  have h':(x,c)∈(if k == .cell then cellsFrom (n + 1) r [(y,n)] else cellsFrom n r []):=h
  by_cases hk:(k == NameKind.cell)=true
  ·rw [if_pos hk,Yap] at h'
   rcases List.mem_append.mp h' with h' | h'
   ·obtain ⟨h1,h2⟩:=zaA r (n + 1) h'
    exact ⟨List.mem_cons_of_mem _ h1,by omega⟩
   ·have e:(x,c)=(y,n):=by simpa using h'
    cases e
    have e2:k=NameKind.cell:=by simpa using hk
    subst e2
    exact ⟨List.mem_cons_self,Nat.le_refl _⟩
  ·rw [if_neg hk] at h'
   obtain ⟨h1,h2⟩:=zaA r n h'
   exact ⟨List.mem_cons_of_mem _ h1,h2⟩
theorem zaC {env:Env} (f:Str×NameKind→List (Str×Addr)→Sem (ForInStep (List (Str×Addr))))
  (hf:∀ name kind cs,f (name,kind) cs=if kind == .free then (do let c ← cellOf env name;pure (.yield ((name,c) :: cs))) else pure (.yield cs)) :
  ∀ (names:List (Str×NameKind)) (acc:List (Str×Addr)),(∀ y∈names,y.2=NameKind.free→∃ c,env.cells.lookup y.1=some c) →
   ∃ cl,(forIn names acc f:Sem (List (Str×Addr)))=pure cl∧(∀ n c,(n,c)∈cl→(n,c)∈acc∨(env.cells.lookup n=some c∧(n,NameKind.free)∈names))∧(∀ p∈acc,p∈cl)∧∀ n,(n,NameKind.free)∈names→∃ c,(n,c)∈cl
 | [],acc,_=>⟨acc,by rw [List.forIn_nil],fun n c h=>.inl h,fun p h=>h,fun n h=>nomatch h⟩
 | (x,k) :: r,acc,h=>by
  have hr:∀ y∈r,y.2=NameKind.free→∃ c,env.cells.lookup y.1=some c:=fun y hy=>h y (List.mem_cons_of_mem _ hy)
  by_cases hk:k=NameKind.free
  ·subst hk
   obtain ⟨c,hc⟩:=h (x,.free) List.mem_cons_self rfl
   have e:cellOf env x=pure c:=by unfold cellOf;rw [hc]
   obtain ⟨cl,e1,h1,h2,h3⟩:=zaC f hf r ((x,c) :: acc) hr
   refine ⟨cl,?_,fun n d hd=>?_,fun p hp=>h2 p (List.mem_cons_of_mem _ hp),fun n hn=>?_⟩
   ·rw [List.forIn_cons,hf,if_pos (by rfl),e]
    exact e1
   ·rcases h1 n d hd with q | ⟨q,q'⟩
    ·rcases List.mem_cons.mp q with q | q
     ·cases q;exact .inr ⟨hc,List.mem_cons_self⟩
     ·exact .inl q
    ·exact .inr ⟨q,List.mem_cons_of_mem _ q'⟩
   ·rcases List.mem_cons.mp hn with q | q
    ·cases q;exact ⟨c,h2 _ List.mem_cons_self⟩
    ·exact h3 n q
  ·obtain ⟨cl,e1,h1,h2,h3⟩:=zaC f hf r acc hr
   have hb:¬ ((k == NameKind.free)=true):=by simpa using hk
   refine ⟨cl,?_,fun n d hd=>?_,h2,fun n hn=>?_⟩
   ·rw [List.forIn_cons,hf,if_neg hb]
    exact e1
   ·rcases h1 n d hd with q | ⟨q,q'⟩
    ·exact .inl q
    ·exact .inr ⟨q,List.mem_cons_of_mem _ q'⟩
   ·rcases List.mem_cons.mp hn with q | q
    ·cases q;exact absurd rfl hk
    ·exact h3 n q
theorem yaS {scope:Scope} {env:Env} (h:∀ y∈scope.names,y.2=NameKind.free→∃ c,env.cells.lookup y.1=some c) :
  ∃ cl,closureFor scope env=pure cl∧(∀ n c,(n,c)∈cl→env.cells.lookup n=some c∧(n,NameKind.free)∈scope.names)∧∀ n,(n,NameKind.free)∈scope.names→∃ c,(n,c)∈cl:=by
 have key:∀ (f:Str×NameKind→List (Str×Addr)→Sem (ForInStep (List (Str×Addr)))),(∀ name kind cs,f (name,kind) cs=if kind == .free then (do let c ← cellOf env name;pure (.yield ((name,c) :: cs))) else pure (.yield cs)) →
   ∃ cl,((forIn scope.names [] f:Sem (List (Str×Addr))) >>= fun r=>pure r)=pure cl∧(∀ n c,(n,c)∈cl→env.cells.lookup n=some c∧(n,NameKind.free)∈scope.names)∧∀ n,(n,NameKind.free)∈scope.names→∃ c,(n,c)∈cl:=fun f hf=>by
  obtain ⟨cl,e,h1,_,h3⟩:=zaC f hf scope.names [] h
  refine ⟨cl,?_,fun n c hc=>(h1 n c hc).elim (fun z=>nomatch z) id,h3⟩
  rw [e]
  rfl
 simp only [closureFor]
 exact key _ fun name kind cs=>by cases hk:kind == NameKind.free <;> simp [hk]
theorem ltN {a b:Addr} (h:a < b):@LT.lt Nat _ a b:=h
theorem neL {a b:Addr} (h:@LT.lt Nat _ a b):a≠b:=Nat.ne_of_lt h
theorem neG {a b:Addr} (h:@LT.lt Nat _ b a):a≠b:=Nat.ne_of_gt h
theorem xa2 {M:Model} {A:Around} {E:Value→Shared→Prop} {s:Shared} {scope:Scope} {g:Addr} {cl:List (Str×Addr)} {q:Str} {env:Env} {Q:Env→Shared→Prop}
  (h:∀ h',h'.Ns s.heap.objs.size (fun _=>none)→(∀ b o,s.heap.get? b=some o→h'.get? b=some o)→CellsOk h' (s.heap.objs.size + 1) (cellsFrom (s.heap.objs.size + 1) scope.names []) →
   Q { scope:=scope,locals:=s.heap.objs.size,globals:=g,cells:=cellsFrom (s.heap.objs.size + 1) scope.names cl,qual:=q,func:=none,code:=env.code,frame:=env.frame,builtins:=env.builtins } { s with heap:=h' }) :
  wpAny M A (newFunctionEnv scope g cl [] q none .none (some env)) Q E s:=by
 simp only [newFunctionEnv,Option.isSome_some,if_true]
 refine wpAny_bind (wpAny_alloc ?_)
 refine wpAny_bind (wpAny_layCells _ (fun name kind cells=>by cases hkc:kind == NameKind.cell <;> simp [hkc]) _ _ _ _ ?_)
 have ok:=cellsFrom_ok scope.names (s.heap.push { cls:=.type "dict",data:=.dict #[] }) (s.heap.objs.size + 1) [] ⟨fun _ _ hm=>(nomatch hm),List.Pairwise.nil⟩ (by rw [Heap.size_push];exact Nat.le_refl _)
 rw [Heap.size_push] at ok
 rw [show ({ s with heap:=s.heap.push { cls:=.type "dict",data:=.dict #[] } }:Shared).heap.objs.size=s.heap.objs.size + 1 from Heap.size_push ..]
 refine wpAny_bind ?_
 rw [List.forIn_nil]
 refine wpAny_pure (wpAny_pure ?_)
 exact h _ ((Heap.Ns.new s.heap (.type "dict")).keeps (pushCells_keeps _ _)) (fun b o e=>pushCells_keeps _ _ b o (Heap.get?_push_of_some _ e)) ok
noncomputable def cxComp (X:Cx) (N:List Str) (scope:Scope) (cells:List (Str×Addr)) (C:Addr) (fp:List Addr) (s:Shared) (H:Hp):Cx where
 prog:=X.prog
 w:=X.w
 K:=X.K
 mg:=X.mg
 base:=X.base
 A:=X.A
 N:=N
 s₀:=s
 H₀:=H
 env:=compEnvC scope cells C X.env
 outer:=X.stack
 stack:=X.stack
 ex:=fp
 fn:=fun x=>decide (scope.names.lookup x=some .cell)
 calm:=X.calm
 pn:=[]
 xe:=fun _ _=>False
noncomputable def relabelS (scope sc:Scope):Scope :=
 { scope with names:=scope.names.map fun (n,k)=>if (k == .free && sc.kind == .function && sc.names.lookup n == some .cell) then (n,.cell) else (n,k) }
structure CompS (sc scope:Scope) (own fr:List Str):Prop where
 kind:scope.kind=.function
 nd:(own ++ fr).Nodup
 ndn:(scope.names.map (·.1)).Nodup
 free:∀ y∈scope.names,y.2=.free→sc.names.lookup y.1=some .cell∨sc.names.lookup y.1=some .free
 frl:∀ x∈fr,scope.names.lookup x=some .free
structure CompSc (X:Cx) (scope:Scope) (own fr:List Str) (js:List Nat):Prop where
 c:CompS X.env.scope scope own fr
 ix:js.map (fun j=>X.N[j]?)=fr.map some
theorem CompSc.kind {X:Cx} {scope:Scope} {own fr:List Str} {js:List Nat} (S:CompSc X scope own fr js):scope.kind=.function:=S.c.kind
theorem CompSc.ndn {X:Cx} {scope:Scope} {own fr:List Str} {js:List Nat} (S:CompSc X scope own fr js):(scope.names.map (·.1)).Nodup:=S.c.ndn
theorem CompSc.frl {X:Cx} {scope:Scope} {own fr:List Str} {js:List Nat} (S:CompSc X scope own fr js):∀ x∈fr,scope.names.lookup x=some .free:=S.c.frl
theorem CompSc.free {X:Cx} {scope:Scope} {own fr:List Str} {js:List Nat} (S:CompSc X scope own fr js):∀ y∈scope.names,y.2=.free→X.env.kindOf y.1=some .cell∨X.env.kindOf y.1=some .free:=S.c.free
theorem xap {α:Type}:∀ {l:List (Str×α)} {n:Str} {c:α},(l.map (·.1)).Nodup→(n,c)∈l→l.lookup n=some c
 | (k,v) :: r,n,c,nd,h=>by
  obtain ⟨h1,h2⟩:=List.nodup_cons.mp nd
  rw [List.lookup_cons]
  rcases List.mem_cons.mp h with e | h
  ·cases e;simp
  ·have:(n == k)=false:=beq_eq_false_iff_ne.mpr fun e=>h1 (by rw [← e];exact List.mem_map.mpr ⟨(n,c),h,rfl⟩)
   rw [this]
   exact xap h2 h
theorem XaI (scope:Scope) (env:Env) (x:Str):(relabel scope env).names.lookup x=none∧scope.names.lookup x=none ∨
  ∃ k,scope.names.lookup x=some k∧(relabel scope env).names.lookup x=some (if (k == .free && env.scope.kind == .function && env.kindOf x == some .cell) then .cell else k):=by
 have key:∀ names:List (Str×NameKind),(names.map fun (n,k)=>if (k == NameKind.free && env.scope.kind == .function && env.kindOf n == some .cell) then (n,NameKind.cell) else (n,k)).lookup x=none∧names.lookup x=none ∨
   ∃ k,names.lookup x=some k∧(names.map fun (n,k)=>if (k == NameKind.free && env.scope.kind == .function && env.kindOf n == some .cell) then (n,NameKind.cell) else (n,k)).lookup x=some (if (k == .free && env.scope.kind == .function && env.kindOf x == some .cell) then .cell else k):=by
  intro names
  induction names with
  | nil=>exact .inl ⟨rfl,rfl⟩
  | cons p r ih =>
   obtain ⟨n,k⟩:=p
   rw [List.map_cons]
   cases hx:x == n with
   | true =>
    have e:x=n:=by simpa using hx
    subst e
    refine .inr ⟨k,by simp [List.lookup_cons],?_⟩
    by_cases hc:(k == NameKind.free && env.scope.kind == .function && env.kindOf x == some .cell)=true
    ·simp only [if_pos hc];simp [List.lookup_cons]
    ·simp only [if_neg hc];simp [List.lookup_cons]
   | false =>
    have e1:∀ q:NameKind,(((n,q) :: (r.map fun (n,k)=>if (k == NameKind.free && env.scope.kind == .function && env.kindOf n == some .cell) then (n,NameKind.cell) else (n,k))).lookup x)=((r.map fun (n,k)=>if (k == NameKind.free && env.scope.kind == .function && env.kindOf n == some .cell) then (n,NameKind.cell) else (n,k)).lookup x):=fun q=>by rw [List.lookup_cons,hx]
    have e2:((n,k) :: r).lookup x=r.lookup x:=by rw [List.lookup_cons,hx]
    rw [e2]
    by_cases hc:(k == NameKind.free && env.scope.kind == .function && env.kindOf n == some .cell)=true
    ·simp only [if_pos hc];rw [e1];exact ih
    ·simp only [if_neg hc];rw [e1];exact ih
 exact key scope.names
noncomputable def compSt (n:Nat) (js:List Nat) (σ:St):St:=List.replicate n none ++ js.map fun j=>σ.getD j none
theorem Inv.track {X:Cx} {pins:List (Addr×Obj)} {σ:St} {H:Hp} {s:Shared} {a:Addr} {o:HO} (I:Inv X pins σ H s) (f:FpOk X pins H a) (new:ObjOk X.prog X.w (upd H a o) s.heap a o):Inv X pins σ (upd H a o) s:=by
 obtain ⟨f0,f1,f2,f3,f4,f5⟩:=f
 have ne:∀ b u,H b=some u→b≠a:=fun b u e z=>by rw [z,f0] at e;cases e
 refine I.step (h':=s.heap) (H':=upd H a o) (g':=s.gens) (d':=s.drawn) (t':=s.toks) (ch:=[a]) (fun b hb=>?_) (fun b u _ _ _ e _=>e) (fun b u _ _ _ e _=>⟨u.slots,e⟩) (fun b u hb e n=>?_) (fun b u _ e=>⟨u,e⟩)
  (fun b xs e=>by rw [Yae (ne b _ e)];exact e) (fun b u xs e=>by rw [Yae (ne b _ e)];exact e) (fun b ps e=>⟨#[],by rw [Yae (ne b _ e),e];simp⟩) (fun m hm=>hm) (fun b u e=>?_) I.bare
 ·have e:b=a:=by simpa using hb
  subst e
  exact ⟨f3,f1,f4,f5⟩
 ·rw [Yae (fun z=>hb (by simp [z]))];exact n
 ·by_cases hb:b=a
  ·subst hb;rw [yag] at e;cases e;exact new
  ·rw [Yae hb] at e
   exact (I.hok b u e).stay (fun c v _ q=>q) (fun c q=>by rw [Yae (ne c _ q)];exact q) fun c xs q=>by rw [Yae (ne c _ q)];exact q
noncomputable def PF (X:Cx) (ifs:List Expr) (t:TT):Prop :=
 ∀ (pins:List (Addr×Obj)) (s:Shared) (σ:St) (H:Hp) (Q:Bool→Hp→Prop),Inv X pins σ H s→t σ H Q →
  wpAny (model X.prog X.w) X.A (forIn ifs true fun c r=>if r=true then do let ok ← isTrue c X.env (eval c X.env);pure (ForInStep.yield ok) else pure (ForInStep.yield r)) (TP X pins σ Q) X.xe s
theorem ybB {X:Cx}:PF X [] (fun _ H Q=>Q true H):=fun _ _ _ H _ I h=>wpAny_tests_nil ⟨H,I,h⟩
theorem Xbh {X:Cx} {c:Expr} {t:TT} (h:PT X c t):PF X [c] t:=fun pins s σ H Q I hw=>wpAny_tests_one (h pins s σ H Q I hw)
theorem Xa2 {prog:Program} {w:World} {A:Around} {R:Result→Shared→Prop} {s:Shared} {elt target iter:Expr} {ifs:List Expr} {scope:Scope} {pos:Pos} {it acc:Value} {env:Env} (I:Nat→Shared→Prop)
  (turn:∀ n s,I n s→wpAny (model prog w) A (pyNext it) (fun r s₁=>match r with
   | none=>R (.ok .next) s₁
   | some v=>wpAny (model prog w) A (letOwnedTupleGo target it v) (fun _ s₁'=>wpAny (model prog w) A (assign target env v) (fun _ s₂ =>
     wpAny (model prog w) A (forIn ifs true fun c r=>if r=true then do let ok ← isTrue c env (eval c env);pure (ForInStep.yield ok) else pure (ForInStep.yield r)) (fun ok s₃ =>
      if ok=true then wpAny (model prog w) A (eval elt env) (fun x s₄ =>
       wpAny (model prog w) A (call (.builtin "list.append") [acc,x]) (fun _ s₅=>∃ m,m < n∧I m s₅) (fun _ _=>False) s₄) (fun _ _=>False) s₃
      else ∃ m,m < n∧I m s₃) (fun _ _=>False) s₂) (fun _ _=>False) s₁') (fun _ _=>False) s₁) (fun _ _=>False) s)
  (n:Nat) (h:I n s) :
  codeAny (model prog w) A (.compLoop (.ListComp elt [⟨target,iter,ifs,0⟩] scope pos) 0 it acc env) R s:=by
 refine codeAny_loop rfl I (fun n s hI=>?_) n h
 show wpAny _ A ((compTurn (.ListComp elt [⟨target,iter,ifs,0⟩] scope pos) 0 it acc env).onRaise (fun x=>do noteFrame x env;theTreesLotGoes x)) _ _ s
 refine wpAny_noted ?_
 rw [compTurn_list]
 refine wpAny_bind (wpAny_standAt (wpAny_bind (wpAny_mono (turn n s hI) (fun r s₁ h₁=>?_) fun _ _ h'=>h'.elim)))
 cases r with
 | none=>exact wpAny_pure h₁
 | some v =>
  refine wpAny_bind (wpAny_mono h₁ (fun _ s₁' h₁'=>?_) fun _ _ h'=>h'.elim)
  refine wpAny_bind (wpAny_mono h₁' (fun _ s₂ h₂=>wpAny_bind (wpAny_mono h₂ (fun ok s₃ h₃=>?_) fun _ _ h'=>h'.elim)) fun _ _ h'=>h'.elim)
  cases ok with
  | false=>exact wpAny_pure ⟨rfl,h₃⟩
  | true =>
   exact wpAny_bind (wpAny_bind (wpAny_mono h₃ (fun x s₄ h₄=>wpAny_bind (wpAny_mono h₄ (fun _ s₅ h₅=>wpAny_pure (wpAny_pure ⟨rfl,h₅⟩)) fun _ _ h'=>h'.elim)) fun _ _ h'=>h'.elim))
noncomputable def CompGo (J:It) (n:Nat) (js:List Nat) (g:TG) (tc:TT) (te:TE) (σ:St) (H1:Hp) (Q:VK):Prop :=
 ∃ W:Nat→Nat→List V→St→Hp→Prop,(∃ m,W 0 m [] (compSt n js σ) H1)∧∀ i m ys σ' H',W i m ys σ' H' →
  ys.length < sizeLine∧((J.stop i H'∧∀ p,H' p=none→Q (.ref p) (upd H' p (.lst ys))) ∨
   (J.go i H'∧∀ x H2,J.yld i H' x H2→g x σ' H2 fun σ2 H3=>tc σ2 H3 fun b H4=>if b=true then te σ2 H4 fun y H5=>∃ m',m' < m∧W (i + 1) m' (ys ++ [y]) σ2 H5 else ∃ m',m' < m∧W (i + 1) m' ys σ2 H4))
noncomputable def tComp (wi:TI) (n:Nat) (js:List Nat) (g:TG) (tc:TT) (te:TE):TE:=fun σ H Q=>wi σ H fun J H1=>CompGo J n js g tc te σ H1 Q
section
variable {X:Cx} {pins:List (Addr×Obj)} {σ:St} {tg iter elt:Expr} {ifs:List Expr} {scope:Scope} {pos:Pos} {own fr:List Str} {js:List Nat} {g:TG} {tc:TT} {te:TE} {wi:TI}
theorem ZaS {H2:Hp} {s2:Shared} {it:Addr} {fp:List Addr} {tn:Nat→Heap→Prop} {J:It} {Q:VK} {E:Value→Shared→Prop} {cl:List (Str×Addr)} {RR:Value→Addr→Result→Shared→Prop}
  (hc:X.calm=true) (S:CompSc X scope own fr js) (hg:∀ cells C fp s H,PG (cxComp X (own ++ fr) scope cells C fp s H) tg g) (hf:∀ cells C fp s H,PF (cxComp X (own ++ fr) scope cells C fp s H) ifs tc) (he:∀ cells C fp s H,PE (cxComp X (own ++ fr) scope cells C fp s H) elt te)
  (I2:Inv X pins σ H2 s2) (T:Turn X.prog X.w X.K tg J fp it tn) (st2:tn 0 s2.heap) (f2:∀ b∈fp,FpOk X pins H2 b)
  (hcl1:∀ n c,(n,c)∈cl→X.env.cells.lookup n=some c∧(n,NameKind.free)∈scope.names) (hcl2:∀ n,(n,NameKind.free)∈scope.names→∃ c,(n,c)∈cl)
  (W:Nat→Nat→List V→St→Hp→Prop) (m0:Nat) (w0:W 0 m0 [] (compSt own.length js σ) H2)
  (turn:∀ i m ys σ' H',W i m ys σ' H'→ys.length < sizeLine∧((J.stop i H'∧∀ p,H' p=none→Q (.ref p) (upd H' p (.lst ys))) ∨
   (J.go i H'∧∀ x H2,J.yld i H' x H2→g x σ' H2 fun σ2 H3=>tc σ2 H3 fun b H4=>if b=true then te σ2 H4 fun y H5=>∃ m',m' < m∧W (i + 1) m' (ys ++ [y]) σ2 H5 else ∃ m',m' < m∧W (i + 1) m' ys σ2 H4)))
  (fin:∀ (acc C:Addr) (H':Hp) (s':Shared) (v:V),v=.ref acc→Inv X pins σ H' s'→FpOk X pins H' C→(∃ m,s'.heap.Ns C m)→Q v H'→RR (.ref acc) C (.ok .next) s') :
  wpAny (model X.prog X.w) X.A (newList []) (fun acc s3=>wpAny (model X.prog X.w) X.A (newFunctionEnv scope X.env.globals cl [] X.env.qual none .none (some X.env)) (fun cenv s4 =>
   codeAny (model X.prog X.w) X.A (.compStart (.ListComp elt [⟨tg,iter,ifs,0⟩] scope pos) 0 (.ref it) acc { cenv with scope:=relabel scope X.env }) (RR acc cenv.locals) s4) E s3) E s2:=by
 refine wpAny_newObj_type ?_
 refine xa2 fun h4 hns hk4 hcells=>?_
 have hA:s2.heap.objs.size < (s2.heap.push { cls:=.type "list",data:=.seq ([]:List Value).toArray }).objs.size:=by rw [Heap.size_push];exact Nat.lt_succ_self _
 generalize hC:(s2.heap.push { cls:=.type "list",data:=.seq ([]:List Value).toArray }).objs.size=C at hns hcells hA ⊢
 generalize hac:s2.heap.objs.size=acc at hA ⊢
 have hAC:acc≠C:=Nat.ne_of_lt hA
 have old:∀ b o,s2.heap.get? b=some o→h4.get? b=some o:=fun b o e=>hk4 b o (Heap.get?_push_of_some _ e)
 have hacc:h4.get? acc=some { cls:=.type "list",data:=.seq ([]:List Value).toArray }:=hk4 _ _ (by rw [← hac];exact Heap.get?_push_size _ rfl)
 have inA:∀ x c,(x,c)∈cellsFrom (C + 1) scope.names []→h4.IsCell c none∧C + 1≤c∧scope.names.lookup x=some .cell:=fun x c h=>⟨(hcells.empty x c h).1,(hcells.empty x c h).2,xap S.ndn (zaA _ _ h).1⟩
 have lk:∀ x c,(cellsFrom (C + 1) scope.names cl).lookup x=some c→(h4.IsCell c none∧C + 1≤c∧(x,c)∈cellsFrom (C + 1) scope.names [])∨(X.env.cells.lookup x=some c∧scope.names.lookup x=some .free):=fun x c h=>by
  rw [Yap] at h
  rcases List.mem_append.mp (PySem.mem_of_lookup h) with q | q
  ·exact .inl ⟨(inA x c q).1,(inA x c q).2.1,q⟩
  ·exact .inr ⟨(hcl1 x c q).1,xap S.ndn (hcl1 x c q).2⟩
 have lt2:∀ x c,X.env.cells.lookup x=some c→c < s2.heap.objs.size:=fun x c h=>by
  obtain ⟨v,z⟩:=I2.cell x c h
  exact z.lt
 have cellC:∀ x c,(cellsFrom (C + 1) scope.names cl).lookup x=some c→c≠C∧c≠acc∧H2 c=none∧∀ b∈fp,c≠b:=fun x c h=>by
  rcases lk x c h with ⟨_,h1,_⟩ | ⟨h1,_⟩
  ·refine ⟨neG (by omega),neG (by omega),I2.hok.fresh (by omega),fun b hb z=>?_⟩
   obtain ⟨o,e,_⟩:=T.obj 0 _ st2 b hb
   have:=ltN (Heap.lt_size e)
   rw [← z] at this
   omega
  ·have:=ltN (lt2 x c h1)
   exact ⟨neL (by omega),neL (by omega),I2.freeC x c h1,fun b hb=>(f2 b hb).2.2.2.2.1 x c h1⟩
 have frlk:∀ x,scope.names.lookup x=some .free→∃ c,X.env.cells.lookup x=some c∧(cellsFrom (C + 1) scope.names cl).lookup x=some c:=fun x h=>by
  obtain ⟨c,hcm⟩:=hcl2 x (PySem.mem_of_lookup h)
  have hc1:=(hcl1 x c hcm).1
  have hs:((cellsFrom (C + 1) scope.names cl).lookup x).isSome=true:=by
   refine PySem.W.cellsFrom_some scope.names (C + 1) cl (.inr ?_)
   cases q:cl.lookup x with
   | some d=>rfl
   | none =>
    exfalso
    have:∀ {l:List (Str×Addr)},(x,c)∈l→l.lookup x≠none:=by
     intro l
     induction l with
     | nil=>intro h;exact nomatch h
     | cons p r ih =>
      intro h z
      obtain ⟨k,v⟩:=p
      rw [List.lookup_cons] at z
      cases hb:x == k with
      | true=>rw [hb] at z;cases z
      | false =>
       rw [hb] at z
       rcases List.mem_cons.mp h with e | h
       ·cases e;simp at hb
       ·exact ih h z
    exact this hcm q
  obtain ⟨d,hd⟩:=Option.isSome_iff_exists.mp hs
  rcases lk x d hd with ⟨_,_,h2⟩ | ⟨h1,_⟩
  ·have:=(inA x d h2).2.2
   rw [h] at this;cases this
  ·rw [hc1] at h1;cases h1
   exact ⟨c,hc1,hd⟩
 have fpd:∀ b∈fp,b≠C∧b≠acc:=fun b hb=>by
  obtain ⟨o,e,_⟩:=T.obj 0 _ st2 b hb
  have:=ltN (Heap.lt_size e)
  exact ⟨neL (by omega),neL (by omega)⟩
 have kfn:(relabel scope X.env).kind=.function:=S.kind
 have ok:(cxComp X (own ++ fr) scope (cellsFrom (C + 1) scope.names cl) C fp s2 H2).Ok:=by
  refine ⟨I2.ok.mod,kfn,I2.ok.glob,I2.ok.blt,?_,fun x y c h1 h2=>?_,fun x hx=>?_,fun x c hx h=>?_,I2.ok.hd,I2.ok.frames,.inl rfl,fun b hb=>⟨(fpd b hb).1,fun x c h=>(cellC x c h).2.2.2 b hb⟩,I2.bs,Nat.le_trans I2.ok.bsz I2.sz,fun b o e hb=>?_,fun b hb z=>?_,I2.stack,I2.stkFree⟩
  ·show s2.heap.objs.size≤C
   omega
  ·rcases lk x c h1 with ⟨_,q1,q2⟩ | ⟨q1,_⟩
   ·rcases lk y c h2 with ⟨_,r1,r2⟩ | ⟨r1,_⟩
    ·exact name_of_addr hcells.apart q2 r2
    ·have:=ltN (lt2 y c r1);omega
   ·rcases lk y c h2 with ⟨_,r1,r2⟩ | ⟨r1,_⟩
    ·have:=ltN (lt2 x c q1);omega
    ·exact I2.ok.inj x y c q1 r1
  ·have hx':(relabel scope X.env).names.lookup x=some .cell∨(relabel scope X.env).names.lookup x=some .free:=hx
   rcases XaI scope X.env x with ⟨e,_⟩ | ⟨k,e1,e2⟩
   ·rcases hx' with z | z <;> (rw [e] at z;cases z)
   ·by_cases hk:k=.free
    ·subst hk
     obtain ⟨c,_,h⟩:=frlk x e1
     exact ⟨c,h⟩
    ·have hk':k=.cell:=by
      have hb:(k == NameKind.free)=false:=beq_eq_false_iff_ne.mpr hk
      rw [hb] at e2
      simp only [Bool.false_and,Bool.false_eq_true,if_false] at e2
      rcases hx' with z | z
      ·rw [e2] at z;exact Option.some.inj z
      ·rw [e2] at z;exact absurd (Option.some.inj z) hk
     subst hk'
     exact Option.isSome_iff_exists.mp (PySem.W.cellsFrom_some scope.names (C + 1) cl (.inl e1))
  ·have hx':scope.names.lookup x=some .cell:=of_decide_eq_true hx
   show s2.heap.objs.size≤c
   rcases lk x c h with ⟨_,q,_⟩ | ⟨_,q⟩
   ·omega
   ·rw [hx'] at q;cases q
  ·rcases (f2 b hb).2.2.2.1 with z | z
   ·exact I2.ok.noex b o e z
   ·have h1:@LT.lt Nat _ b X.base.objs.size:=Heap.lt_size e
    have h2:=I2.ok.bsz
    omega
  ·rcases List.mem_cons.mp (I2.stkSub b z) with e | e
   ·exact (f2 b hb).2.1 e
   ·exact (f2 b hb).2.2.1 e
 have I4:Inv (cxComp X (own ++ fr) scope (cellsFrom (C + 1) scope.names cl) C fp s2 H2) [(acc,{ cls:=.type "list",data:=.seq ([]:List Value).toArray })] (compSt own.length js σ) H2 { s2 with heap:=h4 }:=by
  refine ⟨ok,rfl,I2.bare,Un.kept old,⟨_,hns,fun i x v e1 e2 e3=>?_⟩,fun x c h=>?_,I2.hok.fresh (by show s2.heap.objs.size≤C;omega),fun x c h=>(cellC x c h).2.2.1,fun p hp=>?_,I2.hok.kept old,?_⟩
  ·have e1':(own ++ fr)[i]?=some x:=e1
   unfold compSt at e2
   by_cases hi:i < own.length
   ·rw [List.getElem?_append_left (by simpa using hi),List.getElem?_replicate] at e2
    split at e2 <;> cases e2
   ·rw [List.getElem?_append_right (by simpa using hi),List.length_replicate,List.getElem?_map] at e2
    rw [List.getElem?_append_right (by omega)] at e1'
    cases hj:js[i - own.length]? with
    | none=>rw [hj] at e2;cases e2
    | some j =>
     rw [hj] at e2
     have e2':σ.getD j none=some v:=Option.some.inj e2
     have hN:X.N[j]?=some x:=by
      have q:=congrArg (fun l=>l[i - own.length]?) S.ix
      simp only [List.getElem?_map,hj,e1',Option.map_some] at q
      exact Option.some.inj q
     have hσ:σ[j]?=some (some v):=by
      rw [List.getD_eq_getElem?_getD] at e2'
      cases q:σ[j]? with
      | none=>rw [q] at e2';cases e2'
      | some o=>rw [q] at e2';exact congrArg some e2'
     have hfr:scope.names.lookup x=some .free:=S.frl x (List.mem_of_getElem? e1')
     have hk:=S.free _ (PySem.mem_of_lookup hfr) rfl
     obtain ⟨m,_,hl⟩:=I2.loc
     obtain ⟨u,ru,lo⟩:=hl j x v hN hσ (by rcases hk with k | k;exact .inr (.inl k);exact .inr (.inr k))
     refine ⟨u,ru,.inr ⟨?_,?_⟩⟩
     ·rcases XaI scope X.env x with ⟨_,e⟩ | ⟨k,q1,q2⟩
      ·rw [hfr] at e;cases e
      ·rw [hfr] at q1;cases q1
       have q2':(compEnvC scope (cellsFrom (C + 1) scope.names cl) C X.env).kindOf x=some (if (NameKind.free == .free && X.env.scope.kind == .function && X.env.kindOf x == some .cell)=true then .cell else .free):=q2
       rw [show (cxComp X (own ++ fr) scope (cellsFrom (C + 1) scope.names cl) C fp s2 H2).env.kindOf x=_ from q2']
       split
       ·exact .inl rfl
       ·exact .inr rfl
     ·rcases lo with ⟨k,_⟩ | ⟨_,c,hc1,hc2⟩
      ·rcases hk with k' | k' <;> (rw [k] at k';cases k')
      ·obtain ⟨d,hd1,hd2⟩:=frlk x hfr
       rw [hc1] at hd1;cases hd1
       exact ⟨c,hd2,hc2.keeps old⟩
  ·rcases lk x c h with ⟨q,_,_⟩ | ⟨q,_⟩
   ·exact ⟨_,q⟩
   ·obtain ⟨v,z⟩:=I2.cell x c q
    exact ⟨v,z.keeps old⟩
  ·have e:p=(acc,{ cls:=.type "list",data:=.seq ([]:List Value).toArray }):=by simpa [cxComp] using hp
   subst e
   refine ⟨hacc,I2.hok.fresh (by omega),hAC,fun z=>?_,fun v z=>nomatch z⟩
   rcases List.mem_cons.mp (I2.stkSub acc z) with e | e
   ·have:=ltN I2.lt
    rw [← e] at this
    omega
   ·exact I2.nofs (by omega) e
  ·show (compSt own.length js σ).length=(own ++ fr).length
   have q:=congrArg List.length S.ix
   simp only [List.length_map] at q
   unfold compSt
   rw [List.length_append,List.length_replicate,List.length_map,List.length_append,q]
 have fpC:∀ {H':Hp} {ob:Obj},(∀ b∈fp,H' b=none)→∀ b∈fp,FpOk (cxComp X (own ++ fr) scope (cellsFrom (C + 1) scope.names cl) C fp s2 H2) [(acc,ob)] H' b:=fun {H' ob} hn b hb =>
  ⟨hn b hb,(fpd b hb).1,fun z=>by
   rcases List.mem_cons.mp (I2.stkSub b z) with e | e
   ·exact (f2 b hb).2.1 e
   ·exact (f2 b hb).2.2.1 e,.inl hb,fun x c h=>(cellC x c h).2.2.2 b hb,fun p hp=>by
   have e:p=(acc,ob):=by simpa [cxComp] using hp
   subst e
   exact fun z=>(fpd b hb).2 z.symm⟩
 have loop:codeAny (model X.prog X.w) X.A (.compLoop (.ListComp elt [⟨tg,iter,ifs,0⟩] scope pos) 0 (.ref it) (.ref acc) (compEnvC scope (cellsFrom (C + 1) scope.names cl) C X.env)) (RR (.ref acc) C) { s2 with heap:=h4 }:=by
  refine Xa2 (fun m s'=>∃ (i:Nat) (ys:List V) (its:List Value) (n:Nat) (σ':St) (H':Hp),Inv (cxComp X (own ++ fr) scope (cellsFrom (C + 1) scope.names cl) C fp s2 H2) [(acc,{ cls:=.type "list",data:=.seq its.toArray n })] σ' H' s'∧Vals ys its∧tn i s'.heap∧(∀ b∈fp,H' b=none)∧W i m ys σ' H') ?_ m0
   ⟨0,[],[],0,_,H2,I4,.nil,T.keep _ _ _ st2 fun b _ o e=>old b o e,fun b hb=>(f2 b hb).1,w0⟩
  rintro n s5 ⟨i,ys,its,en,σ5,H5,I5,rv,st5,fr5,w5⟩
  obtain ⟨hz,alt⟩:=turn i n ys σ5 H5 w5
  rcases alt with ⟨stop,qn⟩ | ⟨go,step⟩
  ·refine thn (T.done (cxComp X (own ++ fr) scope (cellsFrom (C + 1) scope.names cl) C fp s2 H2) rfl rfl rfl hc i _ s5 σ5 H5 _ I5 (fpC fr5) st5 stop) fun r s6 ⟨hr,I6⟩=>?_
   subst hr
   show RR (.ref acc) C (.ok .next) s6
   have u:Un (frs X.stack) fp H2 H5 s2.heap s6.heap:=I6.base
   have J6:Inv X pins σ H5 s6:=I2.call' I6.os u I6.hok I6.bare fun b hb=>⟨(f2 b hb).2.2.2.1,(f2 b hb).2.1,(f2 b hb).2.2.2.2.1,(f2 b hb).2.2.2.2.2⟩
   have pacc:=I6.pin (acc,_) (List.mem_append_right _ List.mem_cons_self)
   have facc:FpOk X pins H5 acc:=I2.fpOk (by omega) pacc.2.1
   have fC:FpOk X pins H5 C:=I2.fpOk (by omega) I6.free
   have K6:Inv X pins σ (upd H5 acc (.lst ys)) s6:=J6.track facc ⟨Nat.le_of_lt hz,its,en,rv,pacc.1⟩
   obtain ⟨m,hm,_⟩:=I6.loc
   exact fin acc C _ s6 (.ref acc) rfl K6 ⟨by rw [Yae hAC.symm];exact fC.1,fC.2⟩ ⟨m,hm⟩ (qn acc pacc.2.1)
  ·refine thn (T.item (cxComp X (own ++ fr) scope (cellsFrom (C + 1) scope.names cl) C fp s2 H2) rfl rfl rfl hc i _ s5 σ5 H5 _ I5 (fpC fr5) st5 go) fun r s6 ⟨u,hr,h6⟩=>?_
   subst hr
   refine thn h6 fun _ s7 ⟨x,H7,I7,r7,y7,st7,fr7⟩=>?_
   have I7':=I7.pinned (fpC fr7) (T.obj _ _ st7)
   refine thn (hg _ _ _ _ _ _ s7 σ5 H7 x u _ I7' r7 (step x H7 y7)) fun _ s8 ⟨σ8,H8,I8,q8⟩=>?_
   refine thn (hf _ _ _ _ _ _ s8 σ8 H8 _ I8 q8) fun b s9 ⟨H9,I9,q9⟩=>?_
   have tnk:∀ {s':Shared} {σ':St} {H':Hp},Inv (cxComp X (own ++ fr) scope (cellsFrom (C + 1) scope.names cl) C fp s2 H2) ([(acc,{ cls:=.type "list",data:=.seq its.toArray en })] ++ pinsAt fp s7.heap) σ' H' s'→tn (i + 1) s'.heap∧∀ b∈fp,H' b=none:=fun {s' σ' H'} I' =>
    ⟨T.keep _ _ _ st7 fun b hb o e=>(I'.pin (b,o) (List.mem_append_right _ (List.mem_append_right _ (XaC hb e)))).1,fun b hb=>by
     obtain ⟨o,e,d⟩:=T.obj _ _ st7 b hb
     exact (I'.pin (b,o) (List.mem_append_right _ (List.mem_append_right _ (XaC hb e)))).2.1⟩
   cases b with
   | false =>
    obtain ⟨m',hm,w9⟩:=q9
    exact ⟨m',hm,i + 1,ys,its,en,σ8,H9,I9.unpinned,rv,(tnk I9).1,(tnk I9).2,w9⟩
   | true =>
    refine thn (he _ _ _ _ _ _ s9 σ8 H9 _ I9 q9) fun y s10 ⟨yv,H10,I10,r10,m',hm,w10⟩=>?_
    have pacc:=I10.pin (acc,_) (List.mem_append_right _ (List.mem_append_left _ List.mem_cons_self))
    have hlen:=rv.length
    refine wpAny_list_append_plain (items:=its.toArray) ⟨en,pacc.1⟩ (fun h11 ⟨en',hl11⟩ hs11=>?_) (by simp only [List.size_toArray];omega)
    have cA:∀ x c,(cellsFrom (C + 1) scope.names cl).lookup x=some c→c≠acc:=fun x c h=>(cellC x c h).2.1
    have Ia:Inv (cxComp X (own ++ fr) scope (cellsFrom (C + 1) scope.names cl) C fp s2 H2) [] σ8 H10 s10:=I10.pins_of fun p hp=>nomatch hp
    have Ib:Inv (cxComp X (own ++ fr) scope (cellsFrom (C + 1) scope.names cl) C fp s2 H2) [] σ8 H10 { s10 with heap:=h11 }:=Ia.turned (it:=acc) (t':=s10.toks) (fun b o hb e=>(hs11.2 b hb).trans e) pacc.2.1 hAC (.inr (by show s2.heap.objs.size≤acc;omega)) cA fun p hp=>nomatch (show p∈([]:List (Addr×Obj)) from by simpa [cxComp] using hp)
    refine ⟨m',hm,i + 1,ys ++ [yv],its ++ [y],en',σ8,H10,Ib.pins_of fun p hp=>?_,rv.append (.cons r10 .nil),T.keep _ _ _ (tnk I10).1 fun b hb o e=>(hs11.2 b (fpd b hb).2).trans e,(tnk I10).2,w10⟩
    have e:p=(acc,{ cls:=.type "list",data:=.seq (its ++ [y]).toArray en' }):=by simpa using hp
    subst e
    exact ⟨by simpa using hl11,pacc.2.1,pacc.2.2.1,pacc.2.2.2.1,fun v z=>nomatch z⟩
 exact codeAny_compStart_list loop (T.self X.A 0 _ _ _ (T.keep _ _ _ st2 fun b _ o e=>old b o e) loop)
theorem zbi (hc:X.calm=true) (S:CompSc X scope own fr js) (hi:PI X tg iter wi) (hg:∀ cells C fp s H,PG (cxComp X (own ++ fr) scope cells C fp s H) tg g) (hf:∀ cells C fp s H,PF (cxComp X (own ++ fr) scope cells C fp s H) ifs tc) (he:∀ cells C fp s H,PE (cxComp X (own ++ fr) scope cells C fp s H) elt te)
  (hs:∀ x,foldedSetIterable iter X.env x=pure x:=by intro _;rfl):PE X (.ListComp elt [⟨tg,iter,ifs,0⟩] scope pos) (tComp wi own.length js g tc te):=by
 intro pins s σ H Q I h
 obtain ⟨cl,hcl,hcl1,hcl2⟩:=yaS (scope:=scope) (env:=X.env) fun y hy hk=>I.ok.has y.1 (S.free y hy hk)
 rw [eval_ListComp]
 refine wpAny_comprehension_free (use:=none) rfl hs hcl S.kind (fun y hy hk=>by rw [← hk];exact xap S.ndn hy) (thn (hi pins s σ H _ I h) fun v s1 h1=>thn h1 fun itv s2 h2=>?_)
 obtain ⟨it,fp,tn,J,H2,e,I2,T,st2,f2,W,⟨m0,w0⟩,turn⟩:=h2
 subst e
 refine ZaS (RR:=fun acc C=>compPost (model X.prog X.w) X.A X.xe none (EP X pins σ Q) acc C) hc S hg hf he I2 T st2 f2 hcl1 hcl2 W m0 w0 turn ?_
 intro acc C H' s' v hv I' fC ⟨m,hm⟩ q
 subst hv
 obtain ⟨f0,f1,f2',f3,f4,f5⟩:=fC
 exact ⟨m,hm,fun h'' hs''=>⟨.ref acc,H',I'.turned (it:=C) (t':=s'.toks) (fun b o hb e=>(hs''.2 b hb).trans e) f0 f1 f3 f4 f5,rfl,q⟩⟩
theorem za3 {i:Nat} {x:Str} {pos' spos:Pos} (hc:X.calm=true) (hN:X.N.Nodup) (hx:X.N[i]?=some x) (hl:X.env.scope.names.lookup x=some .local) (S:CompSc X scope own fr js) (hi:PI X tg iter wi) (hg:∀ cells C fp s H,PG (cxComp X (own ++ fr) scope cells C fp s H) tg g) (hf:∀ cells C fp s H,PF (cxComp X (own ++ fr) scope cells C fp s H) ifs tc) (he:∀ cells C fp s H,PE (cxComp X (own ++ fr) scope cells C fp s H) elt te)
  (hsw:swapsWith (.ListComp elt [⟨tg,iter,ifs,0⟩] scope pos) (some (.Name x pos')) spos.line X.env=pure true:=by rfl)
  (hs:∀ x,foldedSetIterable iter X.env x=pure x:=by intro _;rfl):PS X (.Assign [.Name x pos'] (.ListComp elt [⟨tg,iter,ifs,0⟩] scope pos) spos) (tAsg (tComp wi own.length js g tc te) (gName i)):=by
 intro pins s σ H D I h
 obtain ⟨cl,hcl,hcl1,hcl2⟩:=yaS (scope:=scope) (env:=X.env) fun y hy hk=>I.ok.has y.1 (S.free y hy hk)
 rw [exec_Assign_Name_used _ _ _ _ hsw]
 refine wpAny_bind (wpAny_standAt (wpAny_bind ?_))
 show wpAny _ X.A (do let _ ← comprehension (.ListComp elt [⟨tg,iter,ifs,0⟩] scope pos) scope X.env _ (newList []) false (eval iter X.env) (some (assign (.Name x pos') X.env))) _ _ s
 refine wpAny_bind (wpAny_mono (wpAny_comprehension_free (use:=some (assign (.Name x pos') X.env)) (Q:=fun _ s'=>SP X pins D .next s') rfl hs hcl S.kind (fun y hy hk=>by rw [← hk];exact xap S.ndn hy)
  (thn (hi pins s σ H _ I h) fun v s1 h1=>thn h1 fun itv s2 h2=>?_)) (fun _ s' hq=>wpAny_pure (wpAny_pure hq)) fun _ _ e=>e)
 obtain ⟨it,fp,tn,J,H2,e,I2,T,st2,f2,W,⟨m0,w0⟩,turn⟩:=h2
 subst e
 refine ZaS (Q:=fun v H'=>gName i v σ H' D.nx) (RR:=fun acc C=>compPost (model X.prog X.w) X.A X.xe (some (assign (.Name x pos') X.env)) (fun _ s'=>SP X pins D .next s') acc C) hc S hg hf he I2 T st2 f2 hcl1 hcl2 W m0 w0 turn ?_
 intro acc C H' s' v hv I' fC ⟨m,hm⟩ q
 subst hv
 obtain ⟨f0,f1,f2',f3,f4,f5⟩:=fC
 show wpAny _ X.A (assign (.Name x pos') X.env (.ref acc)) _ _ _
 refine wpAny_assign_Name (yaX I' hN hx (.inl hl) (show RelV (.ref acc) (.ref acc) from rfl) (fun s'' I'' ⟨a,hs1,ha⟩=>?_) (.inr hl))
 have haC:a≠C:=by
  rcases ha with e | e
  ·rw [e];exact f1.symm
  ·exact f4 _ _ e
 exact ⟨m,hm.sameBut hs1 haC.symm,fun h'' hs''=>⟨_,H',I''.turned (it:=C) (t':=s''.toks) (fun b o hb e=>(hs''.2 b hb).trans e) f0 f1 f3 f4 f5,q⟩⟩
end
end L2
namespace L2
open PySem PySem.Spec PyProof.Rows
section
variable {X:Cx}
end
section
variable {prog:Program} {w:World} {A:Around} {E:Value→Shared→Prop} {s:Shared}
end
section
variable {X:Cx}
end
section
variable {K:PySem.W.Frag} {ch:List Addr} {H H':Hp}
end
end L2
namespace L2
open PySem PySem.Spec PyProof.Rows
section
variable {X:Cx} {K:PySem.W.Frag}
theorem ybi (hK:X.K=K):IxR X (rIxT K):=by subst hK;exact Zao
theorem Zbi (hK:X.K=K):OpR X (binaryOp .Add) (rCatTA K):=by subst hK;exact yav
theorem yaA (hK:X.K=K):OpR X (compareOp .NotIn) (rIn K true):=by subst hK;exact Yax
theorem yaQ (hK:X.K=K):CallR X (.type "tuple") (fun xs H Q=>∃ p ys,xs=[V.ref p]∧((SqL K H p ys∧∀ l,H l=none→Q (.ref l) (upd H l (.tup ys)))∨(SqT K H p ys∧Q (.ref p) H))):=by subst hK;exact Xah
theorem YbE {tg l:Expr} {tl:TE} (hK:X.K=K) (hl:PE X l tl):PI X tg l (iTup K tl):=by subst hK;exact zbf hl
end
end L2
namespace L2
open PySem PySem.Spec PyProof.Rows
section
variable {prog:Program} {w:World} {A:Around} {E:Value→Shared→Prop} {s:Shared}
theorem Zbb {j t:Addr} {i:Nat} {ys:Array Value} {y:Value} {Q:Value→Shared→Prop} (hj:s.heap.IsTupleIter j t i) (ht:s.heap.IsTuple t ys) (hy:ys[i]?=some y)
  (hQ:∀ h',h'.IsTupleIter j t (i + 1)→Heap.SameBut j s.heap h'→Q y { s with heap:=h' }):wpAny (model prog w) A (Builtin.SmallTypes.nextOf (.ref j)) Q E s:=by
 obtain ⟨r,hr,rc,rd⟩:=id hj
 obtain ⟨q,hq,_,nq,dq⟩:=ht
 unfold Builtin.SmallTypes.nextOf
 refine wpAny_bind (wpAny_callSpecial?_slot (name:=Str.ofString "__next__") hj.typeIs F.slot_tuple_iterator_next (wpAny_call_entry F.slot_tuple_iterator_next hj.typeIs F.entry_tuple_iterator_next ?_ (F.args_tuple_iterator_next_1 _)))
 show wpAny _ _ (PySem.field (.ref j) 0 >>= _) _ _ s
 refine wpAny_bind (wpAny_field hr rd (x:=.ref t) rfl ?_);show wpAny _ _ (if (Value.ref t == Value.none)=true then _ else _) _ _ s
 rw [if_neg (fun z:(Value.ref t == Value.none)=true=>Bool.false_ne_true z)];show wpAny _ _ (PySem.field (.ref j) 1 >>= _) _ _ s
 refine wpAny_bind (wpAny_field hr rd (x:=.int i 0) rfl ?_);show wpAny _ _ (seqItems? (.ref t) >>= _) _ _ s
 refine wpAny_bind (wpAny_seqItems hq dq ?_);simp only [Int.toNat_natCast,hy]
 refine wpAny_bind (wpAny_setField hr rd (by simp) (wpAny_pure ⟨y,rfl,wpAny_pure (hQ _ ⟨_,Heap.get?_update_self _ hr (Obj.isFreed_of_fields (Obj.data_mapFields rd _)),(Obj.cls_mapFields ..).trans rc,by rw [Obj.data_mapFields rd];simp [rawInt]⟩ (Heap.SameBut.update ..))⟩))
theorem Ybi {j t:Addr} {i:Nat} {ys:Array Value} {Q:Value→Shared→Prop} (hh:A.handled=none) (hj:s.heap.IsTupleIter j t i) (ht:s.heap.IsTuple t ys) (hy:ys[i]?=none)
  (hE:∀ h' e,Heap.ExtBut j s.heap h'→(∃ o,h'.get? e=some o∧o.cls=.type "StopIteration")→E (.ref e) { s with heap:=h' }):wpAny (model prog w) A (Builtin.SmallTypes.nextOf (.ref j)) Q E s:=by
 obtain ⟨r,hr,rc,rd⟩:=id hj
 obtain ⟨q,hq,_,nq,dq⟩:=ht
 unfold Builtin.SmallTypes.nextOf
 refine wpAny_bind (wpAny_callSpecial?_slot (name:=Str.ofString "__next__") hj.typeIs F.slot_tuple_iterator_next (wpAny_call_entry F.slot_tuple_iterator_next hj.typeIs F.entry_tuple_iterator_next ?_ (F.args_tuple_iterator_next_1 _)))
 show wpAny _ _ (PySem.field (.ref j) 0 >>= _) _ _ s
 refine wpAny_bind (wpAny_field hr rd (x:=.ref t) rfl ?_);show wpAny _ _ (if (Value.ref t == Value.none)=true then _ else _) _ _ s
 rw [if_neg (fun z:(Value.ref t == Value.none)=true=>Bool.false_ne_true z)];show wpAny _ _ (PySem.field (.ref j) 1 >>= _) _ _ s
 refine wpAny_bind (wpAny_field hr rd (x:=.int i 0) rfl ?_);show wpAny _ _ (seqItems? (.ref t) >>= _) _ _ s
 refine wpAny_bind (wpAny_seqItems hq dq ?_);simp only [Int.toNat_natCast,hy]
 refine wpAny_bind (wpAny_rule (wpAny_bind (wpAny_setField hr rd (by simp) ?_)));show wpAny _ _ (newExc (.type "StopIteration") [] >>= _) _ _ _
 refine wpAny_bind ?_;simp only [newExc,newTuple]
 refine wpAny_bind (wpAny_newObj_type ?_ (by size_fits));refine wpAny_bind (m:=firstArgMember _ _) (wpAny_of_eq (a:=Value.none) (by first | rfl | (simp only [firstArgMember];rfl)) ?_)
 refine wpAny_newObj_type ?_ (by size_fits);simp only [raiseNew]
 refine wpAny_bind (wpAny_handled ?_);first | rw [show A.in1.handled=none from hh] | rw [hh]
 exact wpAny_bind (wpAny_pure (wpAny_throw (hE _ _ (((Heap.SameBut.update ..).extBut.push _).push _) ⟨_,Heap.get?_push_size _ rfl,rfl⟩)))
end
theorem drawsT {prog:Program} {w:World} {A:Around} (hh:A.handled=none) (j t:Addr) (hne:t≠j) (ys:Array Value) :
  Draws prog w A j [j,t] ys.size (fun i v=>ys[i]?=some v) (fun i h=>h.IsTupleIter j t i∧h.IsTuple t ys) where
 live:=fun _ _ st=>let ⟨o,ho,_⟩:=st.1;⟨o,ho⟩
 frame:=fun _ _ _ st k=>⟨st.1.at fun o e=>k j (by simp) o e,let ⟨o,e,r⟩:=st.2;⟨o,k t (by simp) o e,r⟩⟩
 item:=fun i s Q E hi st hQ=>Zbb st.1 st.2 (y:=ys[i]) (by simp [hi]) fun h' a b=>hQ _ h' s.toks (by simp [hi]) ⟨a,st.2.extBut b.extBut hne⟩ b
 done:=fun s Q E st hE=>Ybi hh st.1 st.2 (by simp) hE
theorem xbi (l:Addr) (items:Array Value) (n:Nat) (dct:Option Addr) (sl:Array (Option Value)) :
  Meets (Builtin.«enumerate.__new__» ⟨[.type "enumerate",.ref l],[]⟩) (fun _ R s=>s.heap.get? l=some { cls:=.type "tuple",dict:=dct,data:=.seq items n,slots:=sl } ∧
   R (.ok (.ret (.ref (s.heap.push { cls:=.type "tuple_iterator",data:=.fields #[.ref l,.int 0 0] }).objs.size)))
    { s with heap:=(s.heap.push { cls:=.type "tuple_iterator",data:=.fields #[.ref l,.int 0 0] }).push { cls:=.type "enumerate",data:=.fields #[.none,.bool false,.ref s.heap.objs.size,rawInt 0,.none,.none] } }) :=
 .of_wp fun prog w A R s h=>by
  obtain ⟨hp,g,d,tk,os⟩:=s;obtain ⟨hl,h⟩:=h
  have hsub:=sub_enumerate
  have hL:Heap.IsTuple (Shared.heap ⟨hp,g,d,tk,os⟩) l items:=⟨_,hl,rfl,n,rfl⟩
  wp_walk using AutoSeq1.wpAny_loadPart' hl
  refine wpAny_stack_any fun st=>wpAny_pure ?_
  split
  ·rename_i c _ _ _ _ _
   cases (c == Value.type "enumerate") <;> (wp_walk using AutoSeq1.wpAny_loadPart' hl,wpAny_pyIter_tuple hL;exact ⟨_,rfl,h⟩)
  ·wp_walk using AutoSeq1.wpAny_loadPart' hl,wpAny_pyIter_tuple hL
   exact ⟨_,rfl,h⟩
section
variable {prog:Program} {w:World} {A:Around} {E:Value→Shared→Prop} {s:Shared}
theorem Ybb {l:Addr} {ys:Array Value} {Q:Value→Shared→Prop} (ht:s.heap.IsTuple l ys)
  (h:∀ h',IsEnum h' (s.heap.objs.size + 1) s.heap.objs.size 0 .none→h'.IsTupleIter s.heap.objs.size l 0→h'.objs.size=s.heap.objs.size + 2 →
   (∀ b o,s.heap.get? b=some o→h'.get? b=some o)→Q (.ref (s.heap.objs.size + 1)) { s with heap:=h' }):wpAny (model prog w) A (call (.type "enumerate") [.ref l]) Q E s:=by
 obtain ⟨⟨c,dct,dt,sl⟩,hl,hc,n,hd⟩:=ht
 cases (show c=.type "tuple" from hc)
 cases (show dt=.seq ys n from hd)
 refine callType_new F.called_enumerate (by decide) (F.typeCall_enumerate_1 _) (F.newCall_enumerate_1 _) (fun obj=>F.args_object_init_2 obj _) F.entry_enumerate_new (xbi l ys n dct sl) ⟨hl,?_⟩
 have z:(s.heap.push { cls:=.type "tuple_iterator",data:=.fields #[.ref l,.int 0 0] }).objs.size=s.heap.objs.size + 1:=Heap.size_push ..
 show _∧_;rw [z]
 have en:IsEnum ((s.heap.push { cls:=.type "tuple_iterator",data:=.fields #[.ref l,.int 0 0] }).push { cls:=.type "enumerate",data:=.fields #[.none,.bool false,.ref s.heap.objs.size,rawInt 0,.none,.none] }) (s.heap.objs.size + 1) s.heap.objs.size 0 .none:=by
  have g:=Heap.get?_push_size (s.heap.push { cls:=.type "tuple_iterator",data:=.fields #[.ref l,.int 0 0] }) (o:={ cls:=.type "enumerate",data:=.fields #[.none,.bool false,.ref s.heap.objs.size,rawInt 0,.none,.none] }) rfl
  rw [z] at g
  exact g
 exact ⟨⟨_,en,rfl⟩,h _ en ⟨_,Heap.get?_push_of_some _ (Heap.get?_push_size _ rfl),rfl,rfl⟩ (by rw [Heap.size_push,z]) fun b o e=>Heap.get?_push_of_some _ (Heap.get?_push_of_some _ e)⟩
end
section
variable {X:Cx} {pins:List (Addr×Obj)} {σ:St} {H:Hp} {s:Shared} {h':Heap}
theorem Inv.turnedL {t':Nat} {ch:List Addr} (I:Inv X pins σ H s) (k:∀ b o,b ∉ ch→s.heap.get? b=some o→h'.get? b=some o) (f:∀ b∈ch,FpOk X pins H b):Inv X pins σ H { s with heap:=h',toks:=t' }:=by
 have nit:∀ b u,H b=some u→b ∉ ch:=fun b u e z=>by rw [(f b z).1] at e;cases e
 refine I.step (g':=s.gens) (d':=s.drawn) (ch:=ch) (fun b hb=>⟨(f b hb).2.2.2.1,(f b hb).2.1,(f b hb).2.2.2.2.1,(f b hb).2.2.2.2.2⟩) (fun b o _ _ hc e _=>k b o hc e) (fun b o _ _ hc e _=>⟨o.slots,k b o hc e⟩) (fun _ _ _ _ n=>n)
  (fun b o hc e=>⟨o,k b o hc e⟩) (fun _ _ e=>e) (fun _ _ _ e=>e) (fun b ps e=>⟨#[],by rw [e];simp⟩) (fun m hm=>?_) (fun b u e=>?_) I.bare
 ·obtain ⟨o,es,ep,ho,r⟩:=hm
  exact ⟨o,es,ep,k _ o (fun z=>(f _ z).2.1 rfl) ho,r⟩
 ·refine (I.hok b u e).stay (fun c v hc q=>k c v ?_ q) (fun _ q=>q) fun _ _ q=>q
  rcases hc with z | z
  ·rw [z];exact nit b u e
  ·exact nit c _ z
end
noncomputable def Ite (K:PySem.W.Frag) (a:Addr):It :=
 ⟨fun i H=>∃ xs x,SqT K H a xs∧xs[i]?=some x,fun i H x H'=>∃ p y,x=.ref p∧H p=none∧H'=upd H p (.tup [.int i,y])∧∀ xs,SqT K H a xs→xs[i]?=some y,fun i H=>∃ xs,SqT K H a xs∧xs.length=i⟩
theorem Xbi {P:Program} {w:World} {K:PySem.W.Frag} {es:List Expr} {x1} {pos:Pos} (a e it:Addr) (hne:e≠it) :
  Turn P w K (.Tuple es x1 pos) (Ite K a) [e,it] e (fun i h=>(∃ old,IsEnum h e it i old)∧h.IsTupleIter it a i) where
 mem:=by simp
 obj:=fun i h st b hb=>by
  obtain ⟨⟨old,he⟩,o,e2,c,d⟩:=st
  rcases List.mem_cons.mp hb with rfl | hb
  ·exact ⟨_,he,fun v z=>by
    have z':Data.fields _=Data.cell v:=z
    cases z'⟩
  ·have q:b=it:=by simpa using hb
   subst q
   exact ⟨o,e2,fun v z=>by rw [d] at z;cases z⟩
 keep:=fun i h h' st k=>⟨let ⟨old,he⟩:=st.1;⟨old,k e (by simp) _ he⟩,st.2.at fun o q=>k it (by simp) o q⟩
 item:=by
  intro X hP hw hK hc i pins s σ H E I hf st hg
  subst hP hw hK
  obtain ⟨xs,x,hq,hx⟩:=hg
  obtain ⟨its,rv,p,hz⟩:=I.tuple hq
  obtain ⟨u,hu,ru⟩:=rv.get hx
  obtain ⟨⟨old,he⟩,hit⟩:=st
  have ht:s.heap.IsTuple a its.toArray:=p
  have nai:a≠it:=fun z=>by
   obtain ⟨o,e1,c1,_⟩:=hit
   obtain ⟨o2,e2,c2,_⟩:=ht
   rw [z,e1] at e2;cases e2
   exact absurd (c1.symm.trans c2) (by simp)
  have nae:e≠a:=fun z=>by
   obtain ⟨o2,e2,c2,_⟩:=ht
   rw [← z,he] at e2;cases e2
   exact absurd c2 (by simp)
  have hl:=rv.length
  have hi:i < its.toArray.size:=by
   have:=List.getElem?_eq_some_iff.mp hu
   obtain ⟨q,_⟩:=this
   simpa using q
  refine wpAny_pyNext_enum_itemD (drawsT (A:=X.A.in1) (I.ok.hd hc) it a nai its.toArray) he ⟨hit,ht⟩ hi hne (by simp [hne,nae]) fun y h1 tk hy ho hst hT hsz kk=>?_
  have ey:y=u:=by
   have:its.toArray[i]?=some u:=by simpa using hu
   exact Option.some.inj (hy.symm.trans this)
  subst ey
  refine ⟨_,rfl,wpAny_letOwnedTupleGo_enum ho fun h2 he2 sb=>?_⟩
  have hel:@LT.lt Nat _ e s.heap.objs.size:=Heap.lt_size he
  have hil:@LT.lt Nat _ it s.heap.objs.size:=by obtain ⟨o,e1,_⟩:=hit;exact Heap.lt_size e1
  have hf0:H s.heap.objs.size=none:=I.hok.fresh (Nat.le_refl _)
  have sb':Heap.SameBut e h1 h2:=sb
  have I1:Inv X pins σ (upd H s.heap.objs.size (.tup [.int i,x])) { s with heap:=s.heap.push { cls:=.type "tuple",data:=.seq #[.int i tk,y] },toks:=s.toks } :=
   I.laid (fun b u e=>Heap.get?_push_of_some _ e) (Nat.le_refl _) ⟨(by decide:2≤sizeLine),[.int i tk,y],.cons ⟨tk,rfl⟩ (.cons ru .nil),⟨_,Heap.get?_push_size _ rfl,rfl,rfl,_,rfl⟩⟩
  have nn:∀ b∈[e,it],@LT.lt Nat _ b s.heap.objs.size:=fun b hb=>by
   rcases List.mem_cons.mp hb with rfl | hb
   ·exact hel
   ·have q:b=it:=by simpa using hb
    rw [q];exact hil
  have hn:∀ b∈[e,it],upd H s.heap.objs.size (.tup [.int i,x]) b=none:=fun b hb=>by
   unfold upd
   rw [if_neg (Nat.ne_of_lt (nn b hb))]
   exact (hf b hb).1
  have I2:Inv X pins σ (upd H s.heap.objs.size (.tup [.int i,x])) { s with heap:=h2,toks:=tk + 1 }:=by
   refine Inv.turnedL (s:={ s with heap:=s.heap.push { cls:=.type "tuple",data:=.seq #[.int i tk,y] },toks:=s.toks }) (h':=h2) I1 (ch:=[e,it]) (t':=tk + 1) (fun b o hb q=>?_) fun b hb=>⟨hn b hb,(hf b hb).2⟩
   have nb:b≠e∧b≠it:=by simpa using hb
   refine (sb'.2 b nb.1).trans ?_
   rcases Heap.get?_push_cases q with ⟨rfl,rfl⟩ | q
   ·exact hT
   ·exact kk b o nb.1 nb.2 q
  refine ⟨.ref s.heap.objs.size,_,I2,rfl,⟨_,x,rfl,hf0,rfl,fun ys hy2=>by rw [I.tuple_inj hy2 hq];exact hx⟩,⟨⟨y,?_⟩,?_⟩,hn⟩
  ·have:((i + 1:Nat):Int)=(i:Int) + 1:=by omega
   rw [this];exact he2
  ·exact hst.1.extBut sb'.extBut (Ne.symm hne)
 done:=by
  intro X hP hw hK hc i pins s σ H E I hf st hg
  subst hP hw hK
  obtain ⟨xs,hq,hx⟩:=hg
  obtain ⟨its,rv,p,hz⟩:=I.tuple hq
  obtain ⟨⟨old,he⟩,hit⟩:=st
  have ht:s.heap.IsTuple a its.toArray:=p
  have nai:a≠it:=fun z=>by
   obtain ⟨o,e1,c1,_⟩:=hit
   obtain ⟨o2,e2,c2,_⟩:=ht
   rw [z,e1] at e2;cases e2
   exact absurd (c1.symm.trans c2) (by simp)
  have hl:=rv.length
  have ei:its.toArray.size=i:=by simp;omega
  refine wpAny_pyNext_enum_endD (drawsT (A:=X.A.in1) (I.ok.hd hc) it a nai its.toArray) he (by rw [ei];exact ⟨hit,ht⟩) fun h1 eb=>⟨rfl,?_⟩
  obtain ⟨f0,f1,f2,f3,f4,f5⟩:=hf it (by simp)
  exact I.turned (t':=s.toks) (fun b o hb q=>eb b o hb q) f0 f1 f3 f4 f5
 self:=fun _ _ _ _ _ st h=>let ⟨_,he⟩:=st.1;wpAny_pyIter_enum he h
noncomputable def iEnum (K:PySem.W.Frag) (ta:TA):TI:=fun σ H R=>ta σ H fun vs H1=>∃ a,vs=[.ref a]∧(∃ xs,SqT K H1 a xs)∧R (Ite K a) H1
theorem xbE {X:Cx} {es:List Expr} {x1} {p0:Pos} {l:Expr} {ta:TA} {p pos:Pos} (hg:Gl X "enumerate") (hm:X.mg "enumerate" = none) (ha:PA X [l] ta) (hs:starEach [l] X.env=[(false,eval l X.env)]:=by rfl) :
  PI X (.Tuple es x1 p0) (.Call (.Name "enumerate" p) [l] [] pos) (iEnum X.K ta):=by
 intro pins s σ H R I h
 refine Call_ (ZaR I hg hm boot_enumerate (PyProof.Rows.callWith_type1 (thn (ha pos pins s σ H _ I h) fun us s1 ⟨vs,H1,I1,r1,q1⟩=>?_) hs rfl))
 obtain ⟨a,e,⟨xs,hq⟩,q⟩:=q1
 subst e
 cases r1 with
 | cons r rr =>
  cases rr
  cases r
  obtain ⟨its,rv,p,hz⟩:=I1.tuple hq
  refine Ybb (show s1.heap.IsTuple a its.toArray from p) fun h1 he hi hsz kk=>?_
  refine wpAny_pyIter_enum he ?_
  refine ⟨s1.heap.objs.size + 1,[s1.heap.objs.size + 1,s1.heap.objs.size],_,_,H1,rfl,I1.kept (t':=s1.toks) kk,Xbi a _ _ (Nat.succ_ne_self _),⟨⟨_,he⟩,hi⟩,fun b hb=>?_,q⟩
  have hb':@LE.le Nat _ s1.heap.objs.size b:=by
   rcases List.mem_cons.mp hb with rfl | hb
   ·exact Nat.le_succ _
   ·have e:b=s1.heap.objs.size:=by simpa using hb
    rw [e];exact Nat.le_refl _
  exact I1.fpOk hb' (I1.hok.fresh hb')
end L2
namespace L2
open PySem PySem.Spec PyProof.Rows
section
open Sem (wp)
open PySem.AutoSeq1 (wpAny_loadPart')
open PySem.MeetsSeq PySem.MeetsSeq2 PySem.MeetsSeq3
end
section
variable {X:Cx} {K:PySem.W.Frag}
end
end L2
namespace L2
open PySem PySem.Spec PyProof.Rows
open Builtin.Str
section
variable {X:Cx} {K:PySem.W.Frag}
end
section
variable {X:Cx} {tg:Expr}
end
end L2
namespace L2
open PySem PySem.Spec PyProof.Rows
open Builtin.Str
section
variable {prog:Program} {w:World} {A:Around} {E:Value→Shared→Prop} {s:Shared}
structure ZApart (z TI TO i1 i2:Addr) (fp1 fp2:List Addr):Prop where
 TIz:TI≠z
 TOz:TO≠z
 i1z:i1≠z
 i2z:i2≠z
 TITO:TI≠TO
 TOi1:TO≠i1
 TOi2:TO≠i2
 i12:i1≠i2
 m1:i1∈fp1
 m2:i2∈fp2
 z1:∀ b∈fp1,b≠z∧b≠TO∧b≠i2
 z2:∀ b∈fp2,b≠z∧b≠TO∧b≠i1
theorem ZaQ {z TI TO i1 i2:Addr} {fp1 fp2:List Addr} {n1 n2 k:Nat} {P1 P2:Nat→Value→Prop} {St1 St2:Nat→Heap→Prop} {a b:Value} {Q:Value→Shared→Prop} (D:ZApart z TI TO i1 i2 fp1 fp2)
  (D1:Draws prog w A i1 fp1 n1 P1 St1) (D2:Draws prog w A i2 fp2 n2 P2 St2)
  (hz:IsZip s.heap z TI TO .none) (hTI:IsPair s.heap TI (.ref i1) (.ref i2)) (hTO:IsPair s.heap TO a b)
  (h1:St1 k s.heap) (h2:St2 k s.heap) (hk1:k < n1) (hk2:k < n2)
  (hQ:∀ x y h' tk,P1 k x→P2 k y→IsZip h' z TI TO (rawInt s.heap.objs.size)→IsPair h' TO x y→St1 (k + 1) h'→St2 (k + 1) h'→IsPair h' s.heap.objs.size x y→h'.objs.size=s.heap.objs.size + 1 →
   (∀ c o,c≠z→c≠TO→c≠i1→c≠i2→s.heap.get? c=some o→h'.get? c=some o)→Q (.ref s.heap.objs.size) { s with heap:=h',toks:=tk }) :
  wpAny (model prog w) A (Builtin.«zip.__next__» ⟨[.ref z],[]⟩) (fun fin s'=>∃ v,fin=.done (.ret v)∧Q v s') E s:=by
 show wpAny _ _ (field (.ref z) 2 >>= _) _ _ _
 refine wpAny_bind (wpAny_field hz rfl (x:=.bool false) rfl ?_)
 show wpAny _ _ (field (.ref z) 3 >>= _) _ _ _
 refine wpAny_bind (wpAny_field hz rfl (x:=.ref TI) rfl ?_)
 refine wpAny_bind (wpAny_seqItems hTI rfl ?_)
 show wpAny _ _ (Builtin.SmallTypes.ownedTupleIsFree (.ref z) >>= _) _ _ _
 refine wpAny_bind ?_
 unfold Builtin.SmallTypes.ownedTupleIsFree
 refine wpAny_bind (wpAny_field hz rfl (x:=.none) rfl (wpAny_pure ?_))
 simp only [if_true]
 refine wpAny_bind (wpAny_rule ?_)
 refine wpAny_bind (wpAny_field hz rfl (x:=.ref TO) rfl ?_)
 refine wpAny_bind (wpAny_setField_rec hz (by simp) fun h₁ hz₁ hs₁=>?_)
 replace hz₁:IsZip h₁ z TI TO .ellipsis:=hz₁
 refine wpAny_bind ?_
 simp only [List.zipIdx_cons,List.zipIdx_nil,List.forIn_cons,List.forIn_nil]
 refine wpAny_bind (wpAny_bind (wpAny_onRaise ?_))
 show wpAny _ _ (Builtin.SmallTypes.nextOf (.ref i1) >>= _) _ _ _
 refine wpAny_bind (D1.item k { s with heap:=h₁ } _ _ hk1 (D1.frame _ _ _ h1 fun c hc o e=>hs₁.extBut _ _ (D.z1 c hc).1 e) fun x h₂ tk₂ hx h1₂ hs₂=>wpAny_pure ?_)
 replace hs₂:Heap.SameBut i1 h₁ h₂:=hs₂
 have hTO₂:IsPair h₂ TO a b:=hs₂.extBut _ _ D.TOi1 (hs₁.extBut _ _ D.TOz hTO)
 refine wpAny_bind (wpAny_seqItems hTO₂ rfl ?_)
 refine wpAny_bind (wpAny_updateSeq_pair hTO₂ fun h₃ hTO₃ hs₃=>?_)
 replace hs₃:Heap.SameBut TO h₂ h₃:=hs₃
 replace hTO₃:IsPair h₃ TO x b:=hTO₃
 refine wpAny_bind (wpAny_letGo (wpAny_pure ?_))
 refine wpAny_bind (wpAny_bind (wpAny_onRaise ?_))
 show wpAny _ _ (Builtin.SmallTypes.nextOf (.ref i2) >>= _) _ _ _
 have h2₃:St2 k h₃:=D2.frame _ _ _ h2 fun c hc o e=>hs₃.extBut _ _ (D.z2 c hc).2.1 (hs₂.extBut _ _ (D.z2 c hc).2.2 (hs₁.extBut _ _ (D.z2 c hc).1 e))
 refine wpAny_bind (D2.item k { s with heap:=h₃,toks:=tk₂ } _ _ hk2 h2₃ fun y h₄ tk₄ hy h2₄ hs₄=>wpAny_pure ?_)
 replace hs₄:Heap.SameBut i2 h₃ h₄:=hs₄
 have hTO₄:IsPair h₄ TO x b:=hs₄.extBut _ _ D.TOi2 hTO₃
 refine wpAny_bind (wpAny_seqItems hTO₄ rfl ?_)
 refine wpAny_bind (wpAny_updateSeq_pair hTO₄ fun h₅ hTO₅ hs₅=>?_)
 replace hs₅:Heap.SameBut TO h₄ h₅:=hs₅
 replace hTO₅:IsPair h₅ TO x y:=hTO₅
 refine wpAny_bind (wpAny_letGo (wpAny_pure (wpAny_pure ?_)))
 refine wpAny_bind (wpAny_seqItems hTO₅ rfl ?_)
 refine wpAny_bind (wpAny_newTuple ?_)
 have hsz:h₅.objs.size=s.heap.objs.size:=by rw [hs₅.1,hs₄.1,hs₃.1,hs₂.1,hs₁.1]
 have hz₅:IsZip h₅ z TI TO .ellipsis:=hs₅.extBut _ _ D.TOz.symm (hs₄.extBut _ _ D.i2z.symm (hs₃.extBut _ _ D.TOz.symm (hs₂.extBut _ _ D.i1z.symm hz₁)))
 have hk₅:∀ c o,c≠z→c≠TO→c≠i1→c≠i2→s.heap.get? c=some o→h₅.get? c=some o:=fun c o c1 c2 c3 c4 e =>
  hs₅.extBut _ _ c2 (hs₄.extBut _ _ c4 (hs₃.extBut _ _ c2 (hs₂.extBut _ _ c3 (hs₁.extBut _ _ c1 e))))
 have h1₅:St1 (k + 1) h₅:=D1.frame _ _ _ h1₂ fun c hc o e=>hs₅.extBut _ _ (D.z1 c hc).2.1 (hs₄.extBut _ _ (D.z1 c hc).2.2 (hs₃.extBut _ _ (D.z1 c hc).2.1 e))
 have h2₅:St2 (k + 1) h₅:=D2.frame _ _ _ h2₄ fun c hc o e=>hs₅.extBut _ _ (D.z2 c hc).2.1 e
 have hzlt:z < h₅.objs.size:=Heap.lt_size hz₅
 show wpAny _ _ (Builtin.SmallTypes.ownedTupleHandOut (.ref z) (.ref h₅.objs.size) >>= _) _ _ _
 refine wpAny_bind ?_
 unfold Builtin.SmallTypes.ownedTupleHandOut
 have hz₆:IsZip (h₅.push { cls:=.type "tuple",data:=.seq #[x,y] }) z TI TO .ellipsis:=Heap.get?_push_of_some _ hz₅
 refine wpAny_bind (wpAny_setField_rec hz₆ (by simp) fun h₇ hz₇ hs₇=>?_)
 replace hz₇:IsZip h₇ z TI TO (rawInt h₅.objs.size):=hz₇
 refine wpAny_setField_rec hz₇ (by simp) fun h₈ hz₈ hs₈=>?_
 replace hz₈:IsZip h₈ z TI TO (rawInt h₅.objs.size):=hz₈
 replace hs₇:Heap.SameBut z (h₅.push { cls:=.type "tuple",data:=.seq #[x,y] }) h₇:=hs₇
 replace hs₈:Heap.SameBut z h₇ h₈:=hs₈
 have up:∀ c o,c≠z→h₅.get? c=some o→h₈.get? c=some o:=fun c o c1 e=>hs₈.extBut _ _ c1 (hs₇.extBut _ _ c1 (Heap.get?_push_of_some _ e))
 have hT₈:IsPair h₈ h₅.objs.size x y:=hs₈.extBut _ _ (Nat.ne_of_gt hzlt) (hs₇.extBut _ _ (Nat.ne_of_gt hzlt) (Heap.get?_push_size _ rfl))
 have hz8:h₈.objs.size=h₅.objs.size + 1:=by rw [hs₈.1,hs₇.1,Heap.size_push]
 rw [hsz] at hz₈ hT₈ hz8
 refine wpAny_pure ⟨_,rfl,?_⟩
 show Q (.ref h₅.objs.size) _
 rw [hsz]
 exact hQ x y h₈ tk₄ hx hy hz₈ (up _ _ D.TOz hTO₅) (D1.frame _ _ _ h1₅ fun c hc o e=>up _ o (D.z1 c hc).1 e) (D2.frame _ _ _ h2₅ fun c hc o e=>up _ o (D.z2 c hc).1 e) hT₈ hz8 fun c o c1 c2 c3 c4 e=>up c o c1 (hk₅ c o c1 c2 c3 c4 e)
theorem yaU {z TI TO i1 i2:Addr} {fp1 fp2:List Addr} {n1 n2 k:Nat} {P1 P2:Nat→Value→Prop} {St1 St2:Nat→Heap→Prop} {a b:Value} {Q:Fin→Shared→Prop} (D:ZApart z TI TO i1 i2 fp1 fp2)
  (D1:Draws prog w A i1 fp1 n1 P1 St1) (D2:Draws prog w A i2 fp2 n2 P2 St2)
  (hz:IsZip s.heap z TI TO .none) (hTI:IsPair s.heap TI (.ref i1) (.ref i2)) (hTO:IsPair s.heap TO a b)
  (h1:St1 k s.heap) (h2:St2 k s.heap) (hend:k=n1∨(k < n1∧k=n2))
  (hE:∀ h' tk e,(∀ c o,c≠z→c≠TO→c≠i1→c≠i2→s.heap.get? c=some o→h'.get? c=some o)→(∃ o,h'.get? e=some o∧o.cls=.type "StopIteration")→E (.ref e) { s with heap:=h',toks:=tk }) :
  wpAny (model prog w) A (Builtin.«zip.__next__» ⟨[.ref z],[]⟩) Q E s:=by
 show wpAny _ _ (field (.ref z) 2 >>= _) _ _ _
 refine wpAny_bind (wpAny_field hz rfl (x:=.bool false) rfl ?_)
 show wpAny _ _ (field (.ref z) 3 >>= _) _ _ _
 refine wpAny_bind (wpAny_field hz rfl (x:=.ref TI) rfl ?_)
 refine wpAny_bind (wpAny_seqItems hTI rfl ?_)
 show wpAny _ _ (Builtin.SmallTypes.ownedTupleIsFree (.ref z) >>= _) _ _ _
 refine wpAny_bind ?_
 unfold Builtin.SmallTypes.ownedTupleIsFree
 refine wpAny_bind (wpAny_field hz rfl (x:=.none) rfl (wpAny_pure ?_))
 simp only [if_true]
 refine wpAny_bind (wpAny_rule ?_)
 refine wpAny_bind (wpAny_field hz rfl (x:=.ref TO) rfl ?_)
 refine wpAny_bind (wpAny_setField_rec hz (by simp) fun h₁ hz₁ hs₁=>?_)
 replace hz₁:IsZip h₁ z TI TO .ellipsis:=hz₁
 refine wpAny_bind ?_
 simp only [List.zipIdx_cons,List.zipIdx_nil,List.forIn_cons,List.forIn_nil]
 refine wpAny_bind (wpAny_bind (wpAny_onRaise ?_))
 show wpAny _ _ (Builtin.SmallTypes.nextOf (.ref i1) >>= _) _ _ _
 have h1₁:St1 k h₁:=D1.frame _ _ _ h1 fun c hc o e=>hs₁.extBut _ _ (D.z1 c hc).1 e
 rcases hend with rfl | ⟨hk1,rfl⟩
 ·refine wpAny_bind (D1.done { s with heap:=h₁ } _ _ h1₁ fun h₂ e hs₂ he=>?_)
  obtain ⟨oe,hoe,hce⟩:=he
  replace hs₂:Heap.ExtBut i1 h₁ h₂:=hs₂
  have hz₂:IsZip h₂ z TI TO .ellipsis:=hs₂ _ _ D.i1z.symm hz₁
  have hez:e≠z:=fun x=>by subst x;rw [hz₂] at hoe;cases hoe;simp at hce
  refine wpAny_setField_rec hz₂ (by simp) fun h₃ _ hs₃=>hE h₃ s.toks e (fun c o c1 _ c3 _ x=>hs₃.extBut _ _ c1 (hs₂ _ _ c3 (hs₁.extBut _ _ c1 x))) ⟨oe,hs₃.extBut _ _ hez hoe,hce⟩
 ·refine wpAny_bind (D1.item k { s with heap:=h₁ } _ _ hk1 h1₁ fun x h₂ tk₂ hx h1₂ hs₂=>wpAny_pure ?_)
  replace hs₂:Heap.SameBut i1 h₁ h₂:=hs₂
  have hTO₂:IsPair h₂ TO a b:=hs₂.extBut _ _ D.TOi1 (hs₁.extBut _ _ D.TOz hTO)
  refine wpAny_bind (wpAny_seqItems hTO₂ rfl ?_)
  refine wpAny_bind (wpAny_updateSeq_pair hTO₂ fun h₃ hTO₃ hs₃=>?_)
  replace hs₃:Heap.SameBut TO h₂ h₃:=hs₃
  refine wpAny_bind (wpAny_letGo (wpAny_pure ?_))
  refine wpAny_bind (wpAny_bind (wpAny_onRaise ?_))
  show wpAny _ _ (Builtin.SmallTypes.nextOf (.ref i2) >>= _) _ _ _
  have h2₃:St2 k h₃:=D2.frame _ _ _ h2 fun c hc o e=>hs₃.extBut _ _ (D.z2 c hc).2.1 (hs₂.extBut _ _ (D.z2 c hc).2.2 (hs₁.extBut _ _ (D.z2 c hc).1 e))
  refine wpAny_bind (D2.done { s with heap:=h₃,toks:=tk₂ } _ _ h2₃ fun h₄ e hs₄ he=>?_)
  obtain ⟨oe,hoe,hce⟩:=he
  replace hs₄:Heap.ExtBut i2 h₃ h₄:=hs₄
  have hz₄:IsZip h₄ z TI TO .ellipsis:=hs₄ _ _ D.i2z.symm (hs₃.extBut _ _ D.TOz.symm (hs₂.extBut _ _ D.i1z.symm hz₁))
  have hez:e≠z:=fun x=>by subst x;rw [hz₄] at hoe;cases hoe;simp at hce
  refine wpAny_setField_rec hz₄ (by simp) fun h₅ _ hs₅=>hE h₅ tk₂ e (fun c o c1 c2 c3 c4 x=>hs₅.extBut _ _ c1 (hs₄ _ _ c4 (hs₃.extBut _ _ c2 (hs₂.extBut _ _ c3 (hs₁.extBut _ _ c1 x))))) ⟨oe,hs₅.extBut _ _ hez hoe,hce⟩
theorem xaB {z TI TO i1 i2:Addr} {fp1 fp2:List Addr} {n1 n2 k:Nat} {P1 P2:Nat→Value→Prop} {St1 St2:Nat→Heap→Prop} {a b:Value} {Q:Option Value→Shared→Prop} (D:ZApart z TI TO i1 i2 fp1 fp2)
  (D1:Draws prog w A.in1 i1 fp1 n1 P1 St1) (D2:Draws prog w A.in1 i2 fp2 n2 P2 St2)
  (hz:IsZip s.heap z TI TO .none) (hTI:IsPair s.heap TI (.ref i1) (.ref i2)) (hTO:IsPair s.heap TO a b)
  (h1:St1 k s.heap) (h2:St2 k s.heap) (hk1:k < n1) (hk2:k < n2)
  (hQ:∀ x y h' tk,P1 k x→P2 k y→IsZip h' z TI TO (rawInt s.heap.objs.size)→IsPair h' TO x y→St1 (k + 1) h'→St2 (k + 1) h'→IsPair h' s.heap.objs.size x y→h'.objs.size=s.heap.objs.size + 1 →
   (∀ c o,c≠z→c≠TO→c≠i1→c≠i2→s.heap.get? c=some o→h'.get? c=some o)→Q (some (.ref s.heap.objs.size)) { s with heap:=h',toks:=tk }) :
  wpAny (model prog w) A (pyNext (.ref z)) Q E s:=by
 have hT:s.TypeIs (.ref z) "zip" := ⟨_,hz,rfl⟩
 unfold pyNext
 exact wpAny_bind (wpAny_attempt (wpAny_callSpecial?_slot (name:=Str.ofString "__next__") hT F.slot_zip_next
  (wpAny_call_entry F.slot_zip_next hT F.entry_zip_next
   (ZaQ D D1 D2 hz hTI hTO h1 h2 hk1 hk2 fun x y h' tk p1 p2 a1 a2 a3 a4 a5 a6 a7=>wpAny_pure (hQ x y h' tk p1 p2 a1 a2 a3 a4 a5 a6 a7)) (F.args_zip_next_1 _))))
theorem Xal {z TI TO i1 i2:Addr} {fp1 fp2:List Addr} {n1 n2 k:Nat} {P1 P2:Nat→Value→Prop} {St1 St2:Nat→Heap→Prop} {a b:Value} {Q:Option Value→Shared→Prop} (D:ZApart z TI TO i1 i2 fp1 fp2)
  (D1:Draws prog w A.in1 i1 fp1 n1 P1 St1) (D2:Draws prog w A.in1 i2 fp2 n2 P2 St2)
  (hz:IsZip s.heap z TI TO .none) (hTI:IsPair s.heap TI (.ref i1) (.ref i2)) (hTO:IsPair s.heap TO a b)
  (h1:St1 k s.heap) (h2:St2 k s.heap) (hend:k=n1∨(k < n1∧k=n2))
  (hQ:∀ h' tk,(∀ c o,c≠z→c≠TO→c≠i1→c≠i2→s.heap.get? c=some o→h'.get? c=some o)→Q none { s with heap:=h',toks:=tk }):wpAny (model prog w) A (pyNext (.ref z)) Q E s:=by
 have hT:s.TypeIs (.ref z) "zip" := ⟨_,hz,rfl⟩
 unfold pyNext
 refine wpAny_bind (wpAny_attempt (wpAny_callSpecial?_slot (name:=Str.ofString "__next__") hT F.slot_zip_next
  (wpAny_call_entry F.slot_zip_next hT F.entry_zip_next (yaU D D1 D2 hz hTI hTO h1 h2 hend fun h' tk e hk he=>?_) (F.args_zip_next_1 _))))
 obtain ⟨o,ho,hc⟩:=he
 refine wpAny_bind (wpAny_isInstance (T:="StopIteration") (b:=true) ⟨o,ho,hc⟩ isSubtype_stop ?_)
 exact wpAny_pure (hQ _ _ hk)
end
set_option genInjectivity false in
inductive ZS where
 | tup (a:Addr) | lst (a:Addr) | str (x:Str)
noncomputable def ZS.it (j:Addr) (i:Nat) (h:Heap):ZS→Prop
 | .tup a=>h.IsTupleIter j a i
 | .lst a=>h.IsListIter j a i
 | .str x=>∃ t,h.IsStrIter j "str_ascii_iterator" x t i∨h.IsStrIter j "str_iterator" x t i
noncomputable def ZS.has (K:PySem.W.Frag) (H:Hp) (i:Nat) (v:V):ZS→Prop
 | .tup a=>∃ xs,SqT K H a xs∧xs[i]?=some v
 | .lst a=>∃ xs,SqL K H a xs∧xs[i]?=some v
 | .str x=>∃ c,x.cps[i]?=some c∧v=.str ⟨#[c]⟩
noncomputable def ZS.fin (K:PySem.W.Frag) (H:Hp) (i:Nat):ZS→Prop
 | .tup a=>∃ xs,SqT K H a xs∧xs.length=i
 | .lst a=>∃ xs,SqL K H a xs∧xs.length=i
 | .str x=>x.cps.size=i
theorem ZS.it.at {j:Addr} {i:Nat} {h h':Heap} {src:ZS} (t:src.it j i h) (k:∀ o,h.get? j=some o→h'.get? j=some o):src.it j i h':=by
 cases src with
 | tup a=>exact Heap.IsTupleIter.at t k
 | lst a=>exact Heap.IsListIter.at t k
 | str x =>
  obtain ⟨tk,t⟩:=t
  refine ⟨tk,?_⟩
  rcases t with ⟨o,ho,r⟩ | ⟨o,ho,r⟩
  ·exact .inl ⟨o,k o ho,r⟩
  ·exact .inr ⟨o,k o ho,r⟩
theorem ZS.it.obj {j:Addr} {i:Nat} {h:Heap} {src:ZS} (t:src.it j i h):∃ o,h.get? j=some o∧(∀ v,o.data≠.cell v)∧(∃ n,o.cls=.type n∧n≠"tuple" ∧ n≠"list" ∧ n≠"zip"):=by
 cases src with
 | tup a=>obtain ⟨o,e,c,d⟩:=t;exact ⟨o,e,(fun v z=>by rw [d] at z;cases z),_,c,by decide,by decide,by decide⟩
 | lst a=>obtain ⟨o,e,c,d⟩:=t;exact ⟨o,e,(fun v z=>by rw [d] at z;cases z),_,c,by decide,by decide,by decide⟩
 | str x =>
  obtain ⟨tk,t⟩:=t
  rcases t with ⟨o,e,c,d⟩ | ⟨o,e,c,d⟩
  ·exact ⟨o,e,(fun v z=>by rw [d] at z;cases z),_,c,by decide,by decide,by decide⟩
  ·exact ⟨o,e,(fun v z=>by rw [d] at z;cases z),_,c,by decide,by decide,by decide⟩
structure ZS.Dr (P:Program) (w:World) (A:Around) (s:Shared) (j:Addr) (i:Nat) (src:ZS) (fp:List Addr) (n:Nat) (R:Value→Prop):Prop where
 ex:∃ (Pv:Nat→Value→Prop) (St:Nat→Heap→Prop),Draws P w A j fp n Pv St∧St i s.heap∧(∀ u,Pv i u→R u)∧∀ h,St (i + 1) h→src.it j (i + 1) h
 mem:j∈fp
section
variable {X:Cx} {pins:List (Addr×Obj)} {σ:St} {H:Hp} {s:Shared}
theorem Inv.sqT_ne {a b:Addr} {xs:List V} (I:Inv X pins σ H s) (h:SqT X.K H a xs) (f:FpOk X pins H b):a≠b:=by
 intro z
 subst z
 rcases h with (h | ⟨o,h⟩) | ⟨o,its,n,hk,_⟩
 ·rw [f.1] at h;cases h
 ·rw [f.1] at h;cases h
 ·have hb:=I.ok.mod.kin a o hk
  rcases f.2.2.2.1 with he | he
  ·exact I.ok.noex a o hb he
  ·have:=Heap.lt_size hb
   have:=I.ok.bsz
   exact absurd (Nat.lt_of_lt_of_le (Nat.lt_of_lt_of_le ‹a < X.base.objs.size› this) he) (Nat.lt_irrefl _)
theorem Inv.sqL_ne {a b:Addr} {xs:List V} (I:Inv X pins σ H s) (h:SqL X.K H a xs) (f:FpOk X pins H b):a≠b:=by
 intro z
 subst z
 rcases h with (h | ⟨o,h⟩) | ⟨o,its,n,hk,_⟩
 ·rw [f.1] at h;cases h
 ·rw [f.1] at h;cases h
 ·have hb:=I.ok.mod.kin a o hk
  rcases f.2.2.2.1 with he | he
  ·exact I.ok.noex a o hb he
  ·have:=Heap.lt_size hb
   have:=I.ok.bsz
   exact absurd (Nat.lt_of_lt_of_le (Nat.lt_of_lt_of_le ‹a < X.base.objs.size› this) he) (Nat.lt_irrefl _)
theorem ZS.drawn {j:Addr} {i:Nat} {src:ZS} {v:V} (I:Inv X pins σ H s) (hc:X.calm=true) (t:src.it j i s.heap) (fj:FpOk X pins H j) (h:src.has X.K H i v):∃ fp n,i < n∧ZS.Dr X.prog X.w X.A.in1 s j i src fp n (RelV v)∧∀ b,FpOk X pins H b→b≠j→b ∉ fp:=by
 cases src with
 | tup a =>
  obtain ⟨xs,hq,hx⟩:=h
  obtain ⟨its,rv,p,hz⟩:=I.tuple hq
  obtain ⟨u,hu,ru⟩:=rv.get hx
  have ht:s.heap.IsTuple a its.toArray:=p
  have hi:i < its.toArray.size:=by
   obtain ⟨q,_⟩:=List.getElem?_eq_some_iff.mp hu
   simpa using q
  refine ⟨[j,a],its.toArray.size,hi,⟨⟨_,_,drawsT (A:=X.A.in1) (I.ok.hd hc) j a (I.sqT_ne hq fj) its.toArray,⟨t,ht⟩,fun u' h'=>?_,fun h hst=>hst.1⟩,by simp⟩,fun b fb hb=>?_⟩
  ·have:its.toArray[i]?=some u:=by simpa using hu
   rw [this] at h'
   cases h'
   exact ru
  ·have:=I.sqT_ne hq fb
   simp only [List.mem_cons,List.not_mem_nil,or_false,not_or]
   exact ⟨hb,fun z=>this z.symm⟩
 | lst a =>
  obtain ⟨xs,hq,hx⟩:=h
  obtain ⟨its,rv,p,hz⟩:=I.list hq
  obtain ⟨u,hu,ru⟩:=rv.get hx
  have ht:s.heap.IsList a its.toArray:=p.isList
  have hi:i < its.toArray.size:=by
   obtain ⟨q,_⟩:=List.getElem?_eq_some_iff.mp hu
   simpa using q
  refine ⟨[j,a],its.toArray.size,hi,⟨⟨_,_,Draws.list (A:=X.A.in1) (I.ok.hd hc) j a (I.sqL_ne hq fj) its.toArray,⟨t,ht⟩,fun u' h'=>?_,fun h hst=>hst.1⟩,by simp⟩,fun b fb hb=>?_⟩
  ·have:its.toArray[i]?=some u:=by simpa using hu
   rw [this] at h'
   cases h'
   exact ru
  ·have:=I.sqL_ne hq fb
   simp only [List.mem_cons,List.not_mem_nil,or_false,not_or]
   exact ⟨hb,fun z=>this z.symm⟩
 | str x =>
  obtain ⟨c,hx,rfl⟩:=h
  have hi:i < x.cps.size:=(Array.getElem?_eq_some_iff.mp hx).1
  obtain ⟨tk,t⟩:=t
  have hR:∀ u,SignAt x i u→RelV (.str ⟨#[c]⟩) u:=fun u hu=>by
   obtain ⟨c',u',h1,rfl⟩:=hu
   rw [hx] at h1
   cases h1
   exact ⟨_,rfl⟩
  rcases t with t | t
  ·exact ⟨[j],x.cps.size,hi,⟨⟨_,_,Draws.strAscii (A:=X.A.in1) (I.ok.hd hc) j x tk,t,hR,fun h hst=>⟨tk,.inl hst⟩⟩,by simp⟩,fun b fb hb=>by simpa using hb⟩
  ·exact ⟨[j],x.cps.size,hi,⟨⟨_,_,Draws.strWide (A:=X.A.in1) (I.ok.hd hc) j x tk,t,hR,fun h hst=>⟨tk,.inr hst⟩⟩,by simp⟩,fun b fb hb=>by simpa using hb⟩
theorem ZS.ended {j:Addr} {i:Nat} {src:ZS} (I:Inv X pins σ H s) (hc:X.calm=true) (t:src.it j i s.heap) (fj:FpOk X pins H j) (h:src.fin X.K H i):∃ fp,ZS.Dr X.prog X.w X.A.in1 s j i src fp i (fun _=>True)∧∀ b,FpOk X pins H b→b≠j→b ∉ fp:=by
 cases src with
 | tup a =>
  obtain ⟨xs,hq,hx⟩:=h
  obtain ⟨its,rv,p,hz⟩:=I.tuple hq
  have ht:s.heap.IsTuple a its.toArray:=p
  have hl:=rv.length
  have ei:its.toArray.size=i:=by simp;omega
  subst ei
  refine ⟨[j,a],⟨⟨_,_,drawsT (A:=X.A.in1) (I.ok.hd hc) j a (I.sqT_ne hq fj) its.toArray,⟨t,ht⟩,fun _ _=>trivial,fun h hst=>hst.1⟩,by simp⟩,fun b fb hb=>?_⟩
  have:=I.sqT_ne hq fb
  simp only [List.mem_cons,List.not_mem_nil,or_false,not_or]
  exact ⟨hb,fun z=>this z.symm⟩
 | lst a =>
  obtain ⟨xs,hq,hx⟩:=h
  obtain ⟨its,rv,p,hz⟩:=I.list hq
  have ht:s.heap.IsList a its.toArray:=p.isList
  have hl:=rv.length
  have ei:its.toArray.size=i:=by simp;omega
  subst ei
  refine ⟨[j,a],⟨⟨_,_,Draws.list (A:=X.A.in1) (I.ok.hd hc) j a (I.sqL_ne hq fj) its.toArray,⟨t,ht⟩,fun _ _=>trivial,fun h hst=>hst.1⟩,by simp⟩,fun b fb hb=>?_⟩
  have:=I.sqL_ne hq fb
  simp only [List.mem_cons,List.not_mem_nil,or_false,not_or]
  exact ⟨hb,fun z=>this z.symm⟩
 | str x =>
  have h:x.cps.size=i:=h
  subst h
  obtain ⟨tk,t⟩:=t
  rcases t with t | t
  ·exact ⟨[j],⟨⟨_,_,Draws.strAscii (A:=X.A.in1) (I.ok.hd hc) j x tk,t,fun _ _=>trivial,fun h hst=>⟨tk,.inl hst⟩⟩,by simp⟩,fun b fb hb=>by simpa using hb⟩
  ·exact ⟨[j],⟨⟨_,_,Draws.strWide (A:=X.A.in1) (I.ok.hd hc) j x tk,t,fun _ _=>trivial,fun h hst=>⟨tk,.inr hst⟩⟩,by simp⟩,fun b fb hb=>by simpa using hb⟩
end
noncomputable def Itz (K:PySem.W.Frag) (s1 s2:ZS):It :=
 ⟨fun i H=>∃ x y,s1.has K H i x∧s2.has K H i y,fun i H v H'=>∃ p x y,v=.ref p∧H p=none∧H'=upd H p (.tup [x,y])∧(∀ z,s1.has K H i z→z=x)∧∀ z,s2.has K H i z→z=y,fun i H=>(s1.fin K H i∧(s2.fin K H i∨∃ y,s2.has K H i y))∨((∃ x,s1.has K H i x)∧s2.fin K H i)⟩
theorem ZS.has_inj {X:Cx} {pins:List (Addr×Obj)} {σ:St} {H:Hp} {s:Shared} {src:ZS} {i:Nat} {x y:V} (I:Inv X pins σ H s) (a:src.has X.K H i x) (b:src.has X.K H i y):y=x:=by
 cases src with
 | tup p =>
  obtain ⟨xs,h1,e1⟩:=a
  obtain ⟨ys,h2,e2⟩:=b
  rw [I.tuple_inj h2 h1] at e2
  rw [e1] at e2
  exact (Option.some.inj e2).symm
 | lst p =>
  obtain ⟨xs,h1,e1⟩:=a
  obtain ⟨ys,h2,e2⟩:=b
  rw [I.list_inj h2 h1] at e2
  rw [e1] at e2
  exact (Option.some.inj e2).symm
 | str z =>
  obtain ⟨c,h1,rfl⟩:=a
  obtain ⟨d,h2,rfl⟩:=b
  rw [h1] at h2
  cases h2
  rfl
theorem xbs {P:Program} {w:World} {K:PySem.W.Frag} {es:List Expr} {x1} {pos:Pos} (s1 s2:ZS) (z TI TO i1 i2:Addr) (hd:TI≠z∧TO≠z∧i1≠z∧i2≠z∧TI≠TO∧TO≠i1∧TO≠i2∧i1≠i2∧TI≠i1∧TI≠i2) :
  Turn P w K (.Tuple es x1 pos) (Itz K s1 s2) [z,TI,TO,i1,i2] z (fun i h=>IsZip h z TI TO .none∧IsPair h TI (.ref i1) (.ref i2)∧(∃ a b,IsPair h TO a b)∧s1.it i1 i h∧s2.it i2 i h) where
 mem:=by simp
 obj:=fun i h st b hb=>by
  obtain ⟨hz,hTI,⟨a,c,hTO⟩,h1,h2⟩:=st
  have cl:∀ {o:Obj} {vs:Array Value},o.data=.fields vs→∀ v,o.data≠.cell v:=fun d v z=>by rw [d] at z;cases z
  have cs:∀ {o:Obj} {vs:Array Value} {n:Nat},o.data=.seq vs n→∀ v,o.data≠.cell v:=fun d v z=>by rw [d] at z;cases z
  simp only [List.mem_cons,List.not_mem_nil,or_false] at hb
  rcases hb with rfl | rfl | rfl | rfl | rfl
  ·exact ⟨_,hz,cl rfl⟩
  ·exact ⟨_,hTI,cs rfl⟩
  ·exact ⟨_,hTO,cs rfl⟩
  ·obtain ⟨o,e,n,_⟩:=h1.obj;exact ⟨o,e,n⟩
  ·obtain ⟨o,e,n,_⟩:=h2.obj;exact ⟨o,e,n⟩
 keep:=fun i h h' st k=>⟨k z (by simp) _ st.1,k TI (by simp) _ st.2.1,let ⟨a,b,e⟩:=st.2.2.1;⟨a,b,k TO (by simp) _ e⟩,st.2.2.2.1.at fun o q=>k i1 (by simp) o q,st.2.2.2.2.at fun o q=>k i2 (by simp) o q⟩
 item:=by
  intro X hP hw hK hc i pins s σ H E I hf st hg
  subst hP hw hK
  obtain ⟨x,y,hx,hy⟩:=hg
  obtain ⟨hz,hTI,⟨a,b,hTO⟩,h1,h2⟩:=st
  have fz:=hf z (by simp)
  have fTO:=hf TO (by simp)
  have f1:=hf i1 (by simp)
  have f2:=hf i2 (by simp)
  obtain ⟨fp1,n1,k1,⟨⟨P1,S1,D1,st1,r1,nx1⟩,mm1⟩,out1⟩:=ZS.drawn I hc h1 f1 hx
  obtain ⟨fp2,n2,k2,⟨⟨P2,S2,D2,st2,r2,nx2⟩,mm2⟩,out2⟩:=ZS.drawn I hc h2 f2 hy
  obtain ⟨d1,d2,d3,d4,d5,d6,d7,d8,d9,d10⟩:=hd
  have ap:ZApart z TI TO i1 i2 fp1 fp2:=⟨d1,d2,d3,d4,d5,d6,d7,d8,mm1,mm2,
   fun c hcm=>⟨fun e=>out1 z fz (Ne.symm d3) (e ▸ hcm),fun e=>out1 TO fTO d6 (e ▸ hcm),fun e=>out1 i2 f2 (Ne.symm d8) (e ▸ hcm)⟩,
   fun c hcm=>⟨fun e=>out2 z fz (Ne.symm d4) (e ▸ hcm),fun e=>out2 TO fTO d7 (e ▸ hcm),fun e=>out2 i1 f1 d8 (e ▸ hcm)⟩⟩
  refine xaB ap D1 D2 hz hTI hTO st1 st2 k1 k2 fun u v h1' tk p1 p2 hz' hTO' g1 g2 hT hsz kk=>?_
  refine ⟨_,rfl,wpAny_letOwnedTupleGo_zip hz' fun h2' hz2 sb=>?_⟩
  replace sb:Heap.SameBut z h1' h2':=sb
  have hf0:H s.heap.objs.size=none:=I.hok.fresh (Nat.le_refl _)
  have ru:=r1 u p1
  have rv:=r2 v p2
  have I1:Inv X pins σ (upd H s.heap.objs.size (.tup [x,y])) { s with heap:=s.heap.push { cls:=.type "tuple",data:=.seq #[u,v] },toks:=s.toks } :=
   I.laid (fun b u e=>Heap.get?_push_of_some _ e) (Nat.le_refl _) ⟨(by decide:2≤sizeLine),[u,v],.cons ru (.cons rv .nil),⟨_,Heap.get?_push_size _ rfl,rfl,rfl,_,rfl⟩⟩
  have hlt:∀ c∈[z,TI,TO,i1,i2],@LT.lt Nat _ c s.heap.objs.size:=fun c hcm=>by
   simp only [List.mem_cons,List.not_mem_nil,or_false] at hcm
   rcases hcm with rfl | rfl | rfl | rfl | rfl
   ·exact Heap.lt_size hz
   ·exact Heap.lt_size hTI
   ·exact Heap.lt_size hTO
   ·obtain ⟨o,e,_⟩:=h1.obj;exact Heap.lt_size e
   ·obtain ⟨o,e,_⟩:=h2.obj;exact Heap.lt_size e
  have hn:∀ c∈[z,TI,TO,i1,i2],upd H s.heap.objs.size (.tup [x,y]) c=none:=fun c hcm=>by
   unfold upd
   rw [if_neg (Nat.ne_of_lt (hlt c hcm))]
   exact (hf c hcm).1
  have I2:Inv X pins σ (upd H s.heap.objs.size (.tup [x,y])) { s with heap:=h2',toks:=tk }:=by
   refine Inv.turnedL (s:={ s with heap:=s.heap.push { cls:=.type "tuple",data:=.seq #[u,v] },toks:=s.toks }) (h':=h2') I1 (ch:=[z,TI,TO,i1,i2]) (t':=tk) (fun c o hcm q=>?_) fun c hcm=>⟨hn c hcm,(hf c hcm).2⟩
   simp only [List.mem_cons,List.not_mem_nil,or_false,not_or] at hcm
   obtain ⟨n1',n2',n3',n4',n5'⟩:=hcm
   refine (sb.2 c n1').trans ?_
   rcases Heap.get?_push_cases q with ⟨rfl,rfl⟩ | q
   ·exact hT
   ·exact kk c o n1' n3' n4' n5' q
  have up:∀ c o,c≠z→h1'.get? c=some o→h2'.get? c=some o:=fun c o n e=>(sb.2 c n).trans e
  refine ⟨.ref s.heap.objs.size,_,I2,rfl,⟨_,x,y,rfl,hf0,rfl,fun w hw=>ZS.has_inj I hx hw,fun w hw=>ZS.has_inj I hy hw⟩,⟨hz2,?_,⟨u,v,up _ _ d2 hTO'⟩,(nx1 _ g1).at fun o q=>up _ o d3 q,(nx2 _ g2).at fun o q=>up _ o d4 q⟩,hn⟩
  exact up _ _ d1 (kk _ _ d1 d5 d9 d10 hTI)
 done:=by
  intro X hP hw hK hc i pins s σ H E I hf st hg
  subst hP hw hK
  obtain ⟨hz,hTI,⟨a,b,hTO⟩,h1,h2⟩:=st
  have fz:=hf z (by simp)
  have fTO:=hf TO (by simp)
  have f1:=hf i1 (by simp)
  have f2:=hf i2 (by simp)
  obtain ⟨d1,d2,d3,d4,d5,d6,d7,d8,d9,d10⟩:=hd
  have fin:∀ h' tk,(∀ c o,c≠z→c≠TO→c≠i1→c≠i2→s.heap.get? c=some o→h'.get? c=some o)→Inv X pins σ H { s with heap:=h',toks:=tk }:=fun h' tk kk=>by
   refine Inv.turnedL I (ch:=[z,TO,i1,i2]) (t':=tk) (fun c o hcm q=>?_) fun c hcm=>hf c ?_
   ·simp only [List.mem_cons,List.not_mem_nil,or_false,not_or] at hcm
    exact kk c o hcm.1 hcm.2.1 hcm.2.2.1 hcm.2.2.2 q
   ·simp only [List.mem_cons,List.not_mem_nil,or_false] at hcm ⊢
    rcases hcm with rfl | rfl | rfl | rfl <;> simp
  have mkap:∀ {fp1 fp2:List Addr},i1∈fp1→i2∈fp2→(∀ b,FpOk X pins H b→b≠i1→b ∉ fp1)→(∀ b,FpOk X pins H b→b≠i2→b ∉ fp2)→ZApart z TI TO i1 i2 fp1 fp2:=fun mm1 mm2 out1 out2=>⟨d1,d2,d3,d4,d5,d6,d7,d8,mm1,mm2,
   fun c hcm=>⟨fun e=>out1 z fz (Ne.symm d3) (e ▸ hcm),fun e=>out1 TO fTO d6 (e ▸ hcm),fun e=>out1 i2 f2 (Ne.symm d8) (e ▸ hcm)⟩,
   fun c hcm=>⟨fun e=>out2 z fz (Ne.symm d4) (e ▸ hcm),fun e=>out2 TO fTO d7 (e ▸ hcm),fun e=>out2 i1 f1 d8 (e ▸ hcm)⟩⟩
  rcases hg with ⟨hx,hy⟩ | ⟨⟨x,hx⟩,hy⟩
  ·obtain ⟨fp1,⟨⟨P1,S1,D1,st1,_,_⟩,mm1⟩,out1⟩:=ZS.ended I hc h1 f1 hx
   rcases hy with hy | ⟨y,hy⟩
   ·obtain ⟨fp2,⟨⟨P2,S2,D2,st2,_,_⟩,mm2⟩,out2⟩:=ZS.ended I hc h2 f2 hy
    exact Xal (mkap mm1 mm2 out1 out2) D1 D2 hz hTI hTO st1 st2 (.inl rfl) fun h' tk kk=>⟨rfl,fin h' tk kk⟩
   ·obtain ⟨fp2,n2,k2,⟨⟨P2,S2,D2,st2,_,_⟩,mm2⟩,out2⟩:=ZS.drawn I hc h2 f2 hy
    exact Xal (mkap mm1 mm2 out1 out2) D1 D2 hz hTI hTO st1 st2 (.inl rfl) fun h' tk kk=>⟨rfl,fin h' tk kk⟩
  ·obtain ⟨fp1,n1,k1,⟨⟨P1,S1,D1,st1,_,_⟩,mm1⟩,out1⟩:=ZS.drawn I hc h1 f1 hx
   obtain ⟨fp2,⟨⟨P2,S2,D2,st2,_,_⟩,mm2⟩,out2⟩:=ZS.ended I hc h2 f2 hy
   exact Xal (mkap mm1 mm2 out1 out2) D1 D2 hz hTI hTO st1 st2 (.inr ⟨k1,rfl⟩) fun h' tk kk=>⟨rfl,fin h' tk kk⟩
 self:=fun _ _ _ _ _ st h=>wpAny_pyIter_zip st.1 h
noncomputable def ZS.val (K:PySem.W.Frag) (H:Hp) (x:V):ZS→Prop
 | .tup a=>x=.ref a∧∃ xs,SqT K H a xs
 | .lst a=>x=.ref a∧∃ xs,SqL K H a xs
 | .str z=>x=.str z
theorem ZS.iter {X:Cx} {pins:List (Addr×Obj)} {σ:St} {H:Hp} {s s':Shared} {src:ZS} {x:V} {u:Value} (I:Inv X pins σ H s) (r:RelV x u) (hv:src.val X.K H x) (up:∀ c o,s.heap.get? c=some o→s'.heap.get? c=some o) :
  ∃ o,src.it s'.heap.objs.size 0 (s'.heap.push o)∧∀ (prog:Program) (w:World) (A:Around) (E:Value→Shared→Prop) (Q:Value→Shared→Prop),Q (.ref s'.heap.objs.size) { s' with heap:=s'.heap.push o }→wpAny (model prog w) A (pyIter u) Q E s':=by
 cases src with
 | tup a =>
  obtain ⟨rfl,xs,hq⟩:=hv
  cases r
  obtain ⟨its,rv,p,hz⟩:=I.tuple hq
  obtain ⟨o,e,c,n,d⟩:=(show s.heap.IsTuple a its.toArray from p)
  exact ⟨_,⟨_,Heap.get?_push_size _ rfl,rfl,rfl⟩,fun prog w A E Q h=>wpAny_pyIter_tuple ⟨o,up _ _ e,c,n,d⟩ h⟩
 | lst a =>
  obtain ⟨rfl,xs,hq⟩:=hv
  cases r
  obtain ⟨its,rv,p,hz⟩:=I.list hq
  obtain ⟨o,e,c,n,d⟩:=p.isList
  exact ⟨_,⟨_,Heap.get?_push_size _ rfl,rfl,rfl⟩,fun prog w A E Q h=>wpAny_pyIter_list ⟨o,up _ _ e,c,n,d⟩ h⟩
 | str z =>
  cases hv
  obtain ⟨t,rfl⟩:=r
  cases ha:z.cps.all (· < 128)
  ·exact ⟨_,⟨t,.inr ⟨_,Heap.get?_push_size _ rfl,rfl,rfl⟩⟩,fun prog w A E Q h=>wpAny_pyIter_wide ha h⟩
  ·exact ⟨_,⟨t,.inl ⟨_,Heap.get?_push_size _ rfl,rfl,rfl⟩⟩,fun prog w A E Q h=>wpAny_pyIter_ascii ha h⟩
abbrev zG3 (h:Heap) (o1 o2:Obj):Heap:=((h.push o1).push o2).push { cls:=.type "tuple",data:=.seq #[.ref h.objs.size,.ref (h.push o1).objs.size] }
abbrev zG4 (h:Heap) (o1 o2:Obj):Heap:=(zG3 h o1 o2).push { cls:=.type "tuple",data:=.seq #[.none,.none] }
abbrev zG5 (h:Heap) (o1 o2:Obj):Heap:=(zG4 h o1 o2).push { cls:=.type "zip",data:=.fields #[.none,.bool false,.bool false,.ref ((h.push o1).push o2).objs.size,.ref (zG3 h o1 o2).objs.size] }
theorem Xbs (u1 u2:Value) (o1 o2:Obj) :
  Meets (Builtin.«zip.__new__» ⟨[.type "zip",u1,u2],[]⟩) (fun _ R s =>
   (∀ (prog:Program) (w:World) (A:Around) (E:Value→Shared→Prop) (Q:Value→Shared→Prop),Q (.ref s.heap.objs.size) { s with heap:=s.heap.push o1 }→wpAny (model prog w) A (pyIter u1) Q E s) ∧
   (∀ (prog:Program) (w:World) (A:Around) (E:Value→Shared→Prop) (Q:Value→Shared→Prop),Q (.ref (s.heap.push o1).objs.size) { s with heap:=(s.heap.push o1).push o2 }→wpAny (model prog w) A (pyIter u2) Q E { s with heap:=s.heap.push o1 }) ∧
   R (.ok (.ret (.ref (zG4 s.heap o1 o2).objs.size))) { s with heap:=zG5 s.heap o1 o2 }) :=
 .of_wp fun prog w A R s h=>by
  obtain ⟨hp,g,d,tk,os⟩:=s;obtain ⟨h1,h2,h⟩:=h
  have hsub:=sub_zip
  have hL1:∀ {A:Around} {E:Value→Shared→Prop} {Q:Value→Shared→Prop},Q (.ref hp.objs.size) ⟨hp.push o1,g,d,tk,os⟩→wpAny (model prog w) A (pyIter u1) Q E ⟨hp,g,d,tk,os⟩:=fun q=>h1 prog w _ _ _ q
  have hL2:∀ {A:Around} {E:Value→Shared→Prop} {Q:Value→Shared→Prop},Q (.ref (hp.push o1).objs.size) ⟨(hp.push o1).push o2,g,d,tk,os⟩→wpAny (model prog w) A (pyIter u2) Q E ⟨hp.push o1,g,d,tk,os⟩:=fun q=>h2 prog w _ _ _ q
  wp_walk using hL1,hL2
  exact ⟨_,rfl,h⟩
noncomputable def iZip (K:PySem.W.Frag) (ta:TA):TI:=fun σ H R=>ta σ H fun vs H1=>∃ (x y:V) (s1 s2:ZS),vs=[x,y]∧s1.val K H1 x∧s2.val K H1 y∧R (Itz K s1 s2) H1
theorem pi_zip {X:Cx} {es:List Expr} {x1} {p0:Pos} {l l':Expr} {ta:TA} {p pos:Pos} (hg:Gl X "zip") (hm:X.mg "zip" = none) (ha:PA X [l,l'] ta) (hs:starEach [l,l'] X.env=[(false,eval l X.env),(false,eval l' X.env)]:=by rfl) (hs2:starEach [l'] X.env=[(false,eval l' X.env)]:=by rfl) :
  PI X (.Tuple es x1 p0) (.Call (.Name "zip" p) [l,l'] [] pos) (iZip X.K ta):=by
 intro pins s σ H R I h
 refine Call_ (ZaR I hg hm bt_zip (PyProof.Rows.callWith_type1 (thn (ha pos pins s σ H _ I h) fun us s1 ⟨vs,H1,I1,r1,q1⟩=>?_) (by rw [hs,hs2]) (by rw [hs2];rfl)))
 obtain ⟨x,y,z1,z2,e,hv1,hv2,q⟩:=q1
 subst e
 cases r1 with
 | cons ru rr =>
  cases rr with
  | cons rv rr =>
   cases rr
   obtain ⟨o1,t1,it1⟩:=ZS.iter (s':=s1) I1 ru hv1 fun _ _ e=>e
   obtain ⟨o2,t2,it2⟩:=ZS.iter (s':={ s1 with heap:=s1.heap.push o1 }) I1 rv hv2 fun _ _ e=>Heap.get?_push_of_some _ e
   refine callType_new F.called_zip (by decide) (F.typeCall_zip_2 _ _) (F.newCall_zip_2 _ _) (fun obj=>F.args_object_init_3 obj _ _) F.entry_zip_new (Xbs _ _ o1 o2) ⟨it1,it2,?_⟩
   have w1:(s1.heap.push o1).objs.size=s1.heap.objs.size + 1:=Heap.size_push ..
   have w2:((s1.heap.push o1).push o2).objs.size=s1.heap.objs.size + 2:=by rw [Heap.size_push,w1]
   have w3:(zG3 s1.heap o1 o2).objs.size=s1.heap.objs.size + 3:=by rw [Heap.size_push,w2]
   have w4:(zG4 s1.heap o1 o2).objs.size=s1.heap.objs.size + 4:=by rw [Heap.size_push,w3]
   have up5:∀ c o,s1.heap.get? c=some o→(zG5 s1.heap o1 o2).get? c=some o:=fun c o e=>Heap.get?_push_of_some _ (Heap.get?_push_of_some _ (Heap.get?_push_of_some _ (Heap.get?_push_of_some _ (Heap.get?_push_of_some _ e))))
   have g5:IsZip (zG5 s1.heap o1 o2) (zG4 s1.heap o1 o2).objs.size ((s1.heap.push o1).push o2).objs.size (zG3 s1.heap o1 o2).objs.size .none:=Heap.get?_push_size _ rfl
   have g4:IsPair (zG5 s1.heap o1 o2) (zG3 s1.heap o1 o2).objs.size .none .none:=Heap.get?_push_of_some _ (Heap.get?_push_size _ rfl)
   have g3:IsPair (zG5 s1.heap o1 o2) ((s1.heap.push o1).push o2).objs.size (.ref s1.heap.objs.size) (.ref (s1.heap.push o1).objs.size):=Heap.get?_push_of_some _ (Heap.get?_push_of_some _ (Heap.get?_push_size _ rfl))
   have g2:z2.it (s1.heap.push o1).objs.size 0 (zG5 s1.heap o1 o2):=t2.at fun o e=>Heap.get?_push_of_some _ (Heap.get?_push_of_some _ (Heap.get?_push_of_some _ e))
   have g1:z1.it s1.heap.objs.size 0 (zG5 s1.heap o1 o2):=t1.at fun o e=>Heap.get?_push_of_some _ (Heap.get?_push_of_some _ (Heap.get?_push_of_some _ (Heap.get?_push_of_some _ e)))
   refine ⟨⟨_,g5,rfl⟩,?_⟩
   refine wpAny_pyIter_zip g5 ?_
   rw [w1] at g2 g3
   rw [w2] at g3 g5
   rw [w3] at g4 g5
   rw [w4] at g5
   have tz:Turn X.prog X.w X.K (.Tuple es x1 p0) (Itz X.K z1 z2) [s1.heap.objs.size + 4,s1.heap.objs.size + 2,s1.heap.objs.size + 3,s1.heap.objs.size,s1.heap.objs.size + 1] (s1.heap.objs.size + 4) (fun i h=>IsZip h (s1.heap.objs.size + 4) (s1.heap.objs.size + 2) (s1.heap.objs.size + 3) .none∧IsPair h (s1.heap.objs.size + 2) (.ref s1.heap.objs.size) (.ref (s1.heap.objs.size + 1))∧(∃ a b,IsPair h (s1.heap.objs.size + 3) a b)∧z1.it s1.heap.objs.size i h∧z2.it (s1.heap.objs.size + 1) i h):=by
    refine xbs z1 z2 _ _ _ _ _ ?_
    have ne:∀ {m n:Nat},m≠n→∀ {a:Nat},a + m≠a + n:=fun h a z=>h (Nat.add_left_cancel z)
    exact ⟨ne (m:=2) (n:=4) (by decide),ne (m:=3) (n:=4) (by decide),ne (m:=0) (n:=4) (by decide),ne (m:=1) (n:=4) (by decide),ne (m:=2) (n:=3) (by decide),ne (m:=3) (n:=0) (by decide),ne (m:=3) (n:=1) (by decide),ne (m:=0) (n:=1) (by decide),ne (m:=2) (n:=0) (by decide),ne (m:=2) (n:=1) (by decide)⟩
   refine ⟨_,_,_,_,H1,by rw [w4],I1.kept (t':=s1.toks) up5,tz,⟨g5,g3,⟨_,_,g4⟩,g1,g2⟩,fun b hb=>?_,q⟩
   have hb':@LE.le Nat _ s1.heap.objs.size b:=by
    simp only [List.mem_cons,List.not_mem_nil,or_false] at hb
    rcases hb with rfl | rfl | rfl | rfl | rfl
    ·exact Nat.le_add_right _ _
    ·exact Nat.le_add_right _ _
    ·exact Nat.le_add_right _ _
    ·exact Nat.le_refl _
    ·exact Nat.le_add_right _ _
   exact I1.fpOk hb' (I1.hok.fresh hb')
end L2
namespace L2
open PySem PySem.Spec PyProof.Rows
section
variable {X:Cx} {K:PySem.W.Frag}
end
end L2
namespace L2
open PySem PySem.Spec PyProof.Rows
open Builtin.Str
section
variable {prog:Program} {w:World} {A:Around} {E:Value→Shared→Prop} {s:Shared}
end
end L2
namespace L2
open PySem PySem.Spec PyProof.Rows
open Builtin
section
variable {X:Cx}
end
end L2
namespace L2
open PySem PySem.Spec PyProof.Rows
section
variable {prog:Program} {w:World} {A:Around} {E:Value→Shared→Prop} {s:Shared}
end
section
variable {X:Cx} {pos:Pos}
end
end L2
namespace L2
open PySem PySem.Spec PyProof.Rows
section
variable {prog:Program} {w:World} {A:Around} {E:Value→Shared→Prop} {s:Shared}
end
end L2
namespace L2
open PySem PySem.Spec PyProof.Rows
section
variable {prog:Program} {w:World} {A:Around} {E:Value→Shared→Prop} {s:Shared}
end
end L2
namespace L2
open PySem PySem.Spec PyProof.Rows
end L2
namespace L2
open PySem PySem.Spec PyProof.Rows
section
variable {X:Cx} {pos:Pos}
end
end L2
namespace L2
open PySem PySem.Spec PyProof.Rows
noncomputable def DU (a:Addr) (xs:List (List Int×Addr×Value)):HO:=.ext fun h=>(a == sysModules)=false∧xs.length≤sizeLine∧∃ o es ep,h.get? a=some o∧o.ExactDict∧o.data=.dict es ep ∧
 (∃ (P:Program) (w:World),es.toList=xs.map (entryOfKey (tupleKind (intKind P w))))∧(xs.map (·.1)).Nodup
section
variable {X:Cx} {pins:List (Addr×Obj)} {σ:St} {H:Hp} {s:Shared} {a b:Addr} {k:List Int} {xs:List (List Int×Addr×Value)}
end
section
variable {X:Cx} {o i e value:Expr} {pos pos' tpos:Pos} {td ty tv:TE}
end
end L2
namespace L2
open PySem PySem.Spec PyProof.Rows PySem.SeqAt PySem.MeetsSeq
section
variable {prog:Program} {w:World} {A:Around} {R:Result→Shared→Prop} {I:Addr} {fp wr:List Addr} {n:Nat} {P:Nat→Value→Prop} {St:Nat→Heap→Prop}
end
section
variable {prog:Program} {w:World} {A:Around} {E:Value→Shared→Prop} {s:Shared}
end
section
variable {X:Cx}
end
end L2
namespace L2
open PySem PySem.Spec PyProof.Rows PySem.W
section
variable {lt:Nat→Nat→Bool} {n0:Nat} {cmp:Nat→Nat→(Bool→Shared→Prop)→Shared→Prop} {s:Shared}
structure Ord (lt:Nat→Nat→Bool):Prop where
 tr:∀ a b c,lt b a=false→lt c b=false→lt c a=false
 as:∀ a b,lt a b=true→lt b a=false
noncomputable def P (p:Array Nat) (i:Nat):Nat:=p.getD i 0
variable (o:Ord lt) (hn:0 < n0) (hc:∀ i j (C:Bool→Shared→Prop),i < n0→j < n0→C (lt i j) s→cmp i j C s)
include o hn hc
end
section
variable {prog:Program} {w:World} {A:Around} {E:Value→Shared→Prop} {s:Shared}
end
section
variable {prog:Program} {w:World} {A:Around} {E:Value→Shared→Prop} {s:Shared} {lt:Nat→Nat→Bool}
end
section
variable {X:Cx}
end
end L2
namespace L2
open PySem PySem.Spec PyProof.Rows
section
variable {X:Cx} {o e f:Expr} {apos cpos:Pos} {td ty tx:TE}
end
end L2
namespace L2
open PySem PySem.Spec PyProof.Rows PySem.W
section
variable {X:Cx} {o e:Expr} {t t' td:TE} {apos cpos pos p:Pos}
end
end L2
namespace L2
open PySem PySem.Spec PyProof.Rows
section
variable {X:Cx} {body:List Stmt} {h₀:ExceptHandler} {hs:List ExceptHandler} {pos:Pos} {t:TS}
end
end L2
namespace L2
open PySem PySem.Spec PyProof.Rows
section
variable {X:Cx} {K:PySem.W.Frag}
end
end L2
namespace L2
open PySem PySem.Spec PyProof.Rows
open Builtin
end L2
namespace L2
open PySem PySem.Spec PyProof.Rows
section
variable {X:Cx} {K:PySem.W.Frag}
end
end L2
namespace L2
open PySem PySem.Spec PyProof.Rows PySem.W
section
variable {prog:Program} {w:World} {A:Around} {E:Value→Shared→Prop} {s:Shared}
end
end L2
namespace L2
open PySem PySem.Spec PyProof.Rows PySem.W
end L2
namespace L2
open PySem PySem.Spec PyProof.Rows
structure Noted (fs:List Addr) (e:Addr) (oe:Obj) (vs:Array Value) (T:Addr) (h h':Heap):Prop where
 exc:∃ o ws,h'.get? e=some o∧o.cls=oe.cls∧o.dict=oe.dict∧o.data=.fields ws∧ws.size=vs.size∧ws[1]?=some (.ref T)
 new:h.objs.size≤T
 head:∃ o ts,h'.get? T=some o∧o.data=.fields ts∧ts[3]?=some .none
 keep:∀ b o,h.get? b=some o→b≠e→vs[1]?≠some (.ref b)→b ∉ fs→h'.get? b=some o
 slot:∀ b o,h.get? b=some o→b≠e→vs[1]?≠some (.ref b)→∃ sl,h'.get? b=some { o with slots:=sl }
 old:∀ b,b≠e→vs[1]?=some (.ref b)→∃ o ts,h'.get? b=some o∧o.data=.fields ts∧ts[3]?=some .none
section
variable {M:Model} {A:Around} {E:Value→Shared→Prop} {s:Shared}
theorem zaZ {base:Heap} {env:Env} {outer:List Env} {L e:Addr} {oe:Obj} {vs:Array Value} {hd0:Value} {hn:Bool} {Q:Unit→Shared→Prop} (hfr:A.frames=some (env :: outer)) (hl:s.heap.FunFrames base (env :: outer))
  (hf:env.frame=some L) (he:s.heap.get? e=some oe) (hd:oe.data=.fields vs) (hs:1 < vs.size)
  (h:∀ h' T,(∃ o ws,h'.get? e=some o∧o.cls=oe.cls∧o.dict=oe.dict∧o.data=.fields ws∧ws.size=vs.size∧ws[1]?=some (.ref T))→s.heap.objs.size≤T→(∃ o ts,h'.get? T=some o∧o.data=.fields ts∧ts[3]?=some .none) →
   (∀ b o,s.heap.get? b=some o→b≠e→b ∉ frs (env :: outer)→h'.get? b=some o)→(∀ b o,s.heap.get? b=some o→b≠e→∃ sl,h'.get? b=some { o with slots:=sl })→Q () { s with heap:=h' }) :
  wpAny M A (do let a ← frameOf env;let pl ← entryPlaceOf L hn;let b ← EntryCells.newEntry hd0 a .none (rawInt L) .none pl;setField (.ref e) 1 b) (fun _ s'=>wpAny M A (setFlight (.ref e) none) Q E s') E s:=by
 have ne:e ∉ frs (env :: outer):=fun z=>by
  obtain ⟨_,o,q,nf⟩:=hl.mem z
  rw [he] at q;cases q;exact nf vs hd
 refine wpAny_bind (wpAny_frameOf_fun hfr hl hf fun h1 so=>wpAny_bind (wpAny_entryPlaceOf fun pl ip=>?_))
 obtain ⟨sz1,kp1,sl1⟩:=so
 have e1:h1.get? e=some oe:=by rw [kp1 e ne];exact he
 unfold EntryCells.newEntry newFields
 refine wpAny_bind (wpAny_newObj_type ?_ (ip.sizeOk5 _ _ _ _ _))
 generalize htd:([hd0,Value.ref L,Value.none,rawInt L,Value.none] ++ (if pl.isEmpty then List.replicate 6 Value.none else pl)).toArray=td
 have t3:3 < td.size:=by
  rw [← htd]
  simp only [List.size_toArray,List.length_append,List.length_cons,List.length_nil]
  omega
 generalize hob:({ cls:=.type "traceback",dict:=none,data:=.fields td }:Obj)=ob
 have obd:ob.data=.fields td:=by rw [← hob]
 have obf:ob.isFreed=false:=by rw [← hob];rfl
 have e2:=Heap.get?_push_of_some ob e1
 refine wpAny_setField e2 hd hs ?_
 have nT:h1.objs.size≠e:=Nat.ne_of_gt (Heap.lt_size e1)
 have d3:=Obj.data_mapFields hd (·.setIfInBounds 1 (Value.ref h1.objs.size))
 have e3:=Heap.get?_update_self (Obj.mapFields (·.setIfInBounds 1 (Value.ref h1.objs.size))) e2 (Obj.isFreed_of_fields d3)
 have T3:((h1.push ob).update e (Obj.mapFields (·.setIfInBounds 1 (Value.ref h1.objs.size)))).get? h1.objs.size=some ob:=by
  rw [Heap.get?_update_other _ _ (Ne.symm nT)];exact Heap.get?_push_size h1 obf
 unfold setFlight
 refine wpAny_bind (wpAny_field e3 d3 (x:=.ref h1.objs.size) (by simp [hs]) ?_)
 rw [if_pos (by simp)]
 have d4:=Obj.data_mapFields obd (·.setIfInBounds 3 ((none:Option Addr).elim Value.none fun f=>rawInt f))
 refine wpAny_setField T3 obd t3 (h _ h1.objs.size ⟨_,_,?_,Obj.cls_mapFields _ _,?_,d3,by simp,by simp [hs]⟩ ?_ ⟨_,_,Heap.get?_update_self _ T3 (Obj.isFreed_of_fields d4),d4,?_⟩ (fun b o q n1 n2=>?_) fun b o q n1=>?_)
 ·rw [Heap.get?_update_other _ _ nT];exact e3
 ·obtain ⟨c0,d0,dt0,s0⟩:=oe
  cases dt0 <;> first | rfl | cases hd
 ·rw [sz1];exact Nat.le_refl _
 ·simp [t3]
 ·have q1:h1.get? b=some o:=by rw [kp1 b n2];exact q
  rw [Heap.get?_update_other _ _ (Nat.ne_of_gt (Heap.lt_size q1)),Heap.get?_update_other _ _ (Ne.symm n1)]
  exact Heap.get?_push_of_some _ q1
 ·obtain ⟨sl,q1⟩:=sl1 b o q
  refine ⟨sl,?_⟩
  rw [Heap.get?_update_other _ _ (Nat.ne_of_gt (Heap.lt_size q1)),Heap.get?_update_other _ _ (Ne.symm n1)]
  exact Heap.get?_push_of_some _ q1
theorem noted {base:Heap} {env:Env} {outer:List Env} {L e:Addr} {oe:Obj} {vs:Array Value} {Q:Unit→Shared→Prop} (hfr:A.frames=some (env :: outer)) (hl:s.heap.FunFrames base (env :: outer)) (hf:env.frame=some L)
  (he:s.heap.get? e=some oe) (hd:oe.data=.fields vs) (ht:vs[1]?=some .none∨∃ T oT ts,vs[1]?=some (.ref T)∧T≠e∧s.heap.get? T=some oT∧oT.data=.fields ts∧ts[3]?=some .none)
  (h:∀ h' T,Noted (frs (env :: outer)) e oe vs T s.heap h'→Q () { s with heap:=h' }):wpAny M A (noteFrame (.ref e) env) (fun _ s'=>wpAny M A (setFlight (.ref e) none) Q E s') E s:=by
 unfold noteFrame
 simp only [hf]
 rcases ht with h1 | ⟨T0,oT,ts,h1,nT,hT,dT,h3⟩
 ·refine wpAny_bind (wpAny_field he hd h1 ?_)
  rw [if_neg (by decide)]
  refine zaZ hfr hl hf he hd (Array.getElem?_eq_some_iff.mp h1).1 fun h' T a1 a2 a3 a4 a5=>h h' T ⟨a1,a2,a3,fun b o q n1 _ n3=>a4 b o q n1 n3,fun b o q n1 _=>a5 b o q n1,fun b _ z=>by rw [h1] at z;cases z⟩
 ·refine wpAny_bind (wpAny_field he hd h1 ?_)
  rw [if_pos (by simp)]
  refine wpAny_bind (wpAny_field hT dT h3 ?_)
  rw [if_neg (by simp [rawInt])]
  refine wpAny_bind (wpAny_setField hT dT (Array.getElem?_eq_some_iff.mp h3).1 ?_)
  have d2:=Obj.data_mapFields dT (·.setIfInBounds 3 Value.none)
  have T2:=Heap.get?_update_self (Obj.mapFields (·.setIfInBounds 3 Value.none)) hT (Obj.isFreed_of_fields d2)
  have oth:∀ b,b≠T0→(s.heap.update T0 (Obj.mapFields (·.setIfInBounds 3 Value.none))).get? b=s.heap.get? b:=fun b n=>Heap.get?_update_other _ _ (Ne.symm n)
  have rec':∀ b o,s.heap.get? b=some o→(∀ ws,o.data≠.fields ws)→b≠T0:=fun b o q n z=>by rw [z,hT] at q;cases q;exact n ts dT
  have ts3:(ts.setIfInBounds 3 Value.none)[3]?=some .none:=by simp [(Array.getElem?_eq_some_iff.mp h3).1]
  have inT:T0 ∉ frs (env :: outer):=fun z=>by
   obtain ⟨_,o,q,nf⟩:=hl.mem z
   rw [hT] at q;cases q;exact nf ts dT
  refine zaZ hfr (hl.of_keeps fun b o q n=>⟨o,by rw [oth b (rec' b o q n)];exact q,rfl⟩) hf (by rw [oth e (Ne.symm nT)];exact he) hd (Array.getElem?_eq_some_iff.mp h1).1 fun h' T a1 a2 a3 a4 a5=>h h' T ⟨a1,?_,a3,fun b o q n1 n2 n3=>?_,fun b o q n1 n2=>?_,fun b n1 z=>?_⟩
  ·have z:=a2
   dsimp only at z
   rw [Heap.size_after_update] at z
   exact z
  ·have nb:b≠T0:=fun z=>n2 (by rw [z];exact h1)
   exact a4 b o (by dsimp only;rw [oth b nb];exact q) n1 n3
  ·have nb:b≠T0:=fun z=>n2 (by rw [z];exact h1)
   exact a5 b o (by dsimp only;rw [oth b nb];exact q) n1
  ·rw [h1] at z;cases z
   exact ⟨_,_,a4 T0 _ T2 n1 inT,d2,ts3⟩
end
noncomputable def trV:Option Addr→Value
 | none=>.none
 | some T=>.ref T
noncomputable def XO (a C:Addr) (dx tr:Option Addr):HO:=.ext fun h=>∃ o vs,h.get? a=some o∧o.cls=.ref C∧o.dict=dx∧o.data=.fields vs∧vs[1]?=some (trV tr)
noncomputable def XT (T:Addr):HO:=.ext fun h=>∃ o ts,h.get? T=some o∧o.data=.fields ts∧ts[3]?=some .none
noncomputable def Exc (H:Hp) (a C:Addr) (dx:Option Addr):Prop:=∃ tr,H a=some (XO a C dx tr)∧∀ T,tr=some T→T≠a∧H T=some (XT T)
noncomputable def XS (a:Addr) (H H':Hp):Prop:=(∃ C dx tr tr',H a=some (XO a C dx tr)∧H' a=some (XO a C dx tr'))∧∀ b,b≠a→∀ o,H b=some o→H' b=some o
section
variable {P:Program} {w:World} {H H' H2:Hp} {h h':Heap} {a C T:Addr} {dx tr:Option Addr} {o:HO}
theorem XO.ok (e:∃ o vs,h.get? a=some o∧o.cls=.ref C∧o.dict=dx∧o.data=.fields vs∧vs[1]?=some (trV tr)):ObjOk P w H h a (XO a C dx tr) :=
 ⟨e,let ⟨o,_,q,_⟩:=e;⟨o,q⟩,fun h1 h2 ⟨o,vs,q,r⟩ k=>⟨o,vs,k o q,r⟩⟩
theorem XT.ok (e:∃ o ts,h.get? T=some o∧o.data=.fields ts∧ts[3]?=some .none):ObjOk P w H h T (XT T) :=
 ⟨e,let ⟨o,_,q,_⟩:=e;⟨o,q⟩,fun h1 h2 ⟨o,vs,q,r⟩ k=>⟨o,vs,k o q,r⟩⟩
theorem XO.of (ok:HOk P w H h) (e:H a=some (XO a C dx tr)):∃ o vs,h.get? a=some o∧o.cls=.ref C∧o.dict=dx∧o.data=.fields vs∧vs[1]?=some (trV tr):=(ok a _ e).1
theorem XT.of (ok:HOk P w H h) (e:H T=some (XT T)):∃ o ts,h.get? T=some o∧o.data=.fields ts∧ts[3]?=some .none:=(ok T _ e).1
theorem ObjOk.there (x:ObjOk P w H h a o):∃ ob,h.get? a=some ob:=by
 cases o with
 | lst xs=>obtain ⟨_,_,_,_,e⟩:=x;exact ⟨_,e⟩
 | tup xs=>obtain ⟨_,_,_,_,e,_⟩:=x;exact ⟨_,e⟩
 | dK kvs=>obtain ⟨_,_,_,_,o,_,_,e,_⟩:=x;exact ⟨_,e⟩
 | dT kvs=>obtain ⟨_,_,_,_,o,_,_,e,_⟩:=x;exact ⟨_,e⟩
 | set S n=>obtain ⟨o,_,_,_,e,_⟩:=x;exact ⟨_,e⟩
 | ins C dx fs=>obtain ⟨_,_,_,e,_⟩:=x;exact ⟨_,e⟩
 | own y=>obtain ⟨_,e⟩:=x;exact ⟨_,e⟩
 | xd fs=>obtain ⟨_,⟨_,_,_,e,_⟩,_⟩:=x;exact ⟨_,e⟩
 | rng lo hi=>obtain ⟨_,_,_,e⟩:=x;exact ⟨_,e⟩
 | frz ob u=>obtain ⟨e,_⟩:=x;exact ⟨_,e⟩
 | tbl ps=>exact ⟨_,(show h.get? a=some _ from x)⟩
 | met f y=>exact ⟨_,(show h.get? a=some _ from x)⟩
 | ext φ=>obtain ⟨_,e,_⟩:=x;exact e
theorem HOk.none_of (ok:HOk P w H h) (e:h.get? a=none):H a=none:=by
 cases q:H a with
 | none=>rfl
 | some o=>obtain ⟨ob,z⟩:=(ok a o q).there;rw [e] at z;cases z
theorem XO.inj {C':Addr} {dx' tr':Option Addr} (e:XO a C dx tr=XO a C' dx' tr'):C=C'∧dx=dx':=by
 have q:(fun h:Heap=>∃ o vs,h.get? a=some o∧o.cls=.ref C∧o.dict=dx∧o.data=.fields vs∧vs[1]?=some (trV tr))=(fun h:Heap=>∃ o vs,h.get? a=some o∧o.cls=.ref C'∧o.dict=dx'∧o.data=.fields vs∧vs[1]?=some (trV tr')):=by
  unfold XO at e;injection e
 let ob:Obj:={ cls:=.ref C,dict:=dx,data:=.fields #[.none,trV tr] }
 let h0:Heap:={ objs:=Array.replicate (a + 1) ob }
 have e0:h0.get? a=some ob:=by
  refine Heap.get?_some_iff.mpr ⟨?_,rfl⟩
  simp [h0]
 have z:=(congrFun q h0).mp ⟨ob,_,e0,rfl,rfl,rfl,rfl⟩
 obtain ⟨o',vs,e1,e2,e3,_⟩:=z
 rw [e0] at e1;cases e1
 exact ⟨Value.ref.inj e2,e3⟩
theorem XS.trans (x:XS a H H') (y:XS a H' H2):XS a H H2:=by
 obtain ⟨⟨C,dx,tr,tr1,e1,e2⟩,k⟩:=x
 obtain ⟨⟨C',dx',tr2,tr3,e3,e4⟩,k'⟩:=y
 rw [e2] at e3
 obtain ⟨rfl,rfl⟩:=XO.inj (Option.some.inj e3)
 exact ⟨⟨C,dx,tr,tr3,e1,e4⟩,fun b n o q=>k' b n o (k b n o q)⟩
end
section
variable {X:Cx} {pins:List (Addr×Obj)} {σ:St} {H:Hp} {s:Shared} {a C:Addr} {dx:Option Addr}
theorem Inv.noted {A:Around} {E:Value→Shared→Prop} {Q:Unit→Shared→Prop} (I:Inv X pins σ H s) (hst:X.stack=X.env :: X.outer) (hf:X.env.frame=some X.env.locals) (hA:A.frames=some X.stack) (x:Exc H a C dx)
  (h:∀ h' H',XS a H H'→Exc H' a C dx→Inv X pins σ H' { s with heap:=h' }→Q () { s with heap:=h' }) :
  wpAny (model X.prog X.w) A (noteFrame (.ref a) X.env) (fun _ s'=>wpAny (model X.prog X.w) A (setFlight (.ref a) none) Q E s') E s:=by
 obtain ⟨tr,ea,et⟩:=x
 obtain ⟨oe,vs,he,hc,hdx,hd,h1⟩:=XO.of I.hok ea
 have notT:∀ b,H b=none→vs[1]?≠some (.ref b):=fun b nb z=>by
  rw [h1] at z
  cases tr with
  | none=>cases z
  | some T=>cases z;rw [(et _ rfl).2] at nb;cases nb
 have notA:∀ b,H b=none→b≠a:=fun b nb z=>by rw [z,ea] at nb;cases nb
 refine L2.noted (by rw [hA,hst]) (hst ▸ I.stack) hf he hd ?_ fun h' T N=>?_
 ·cases tr with
  | none=>exact .inl h1
  | some T=>obtain ⟨oT,ts,q1,q2,q3⟩:=XT.of I.hok (et T rfl).2;exact .inr ⟨T,oT,ts,h1,(et T rfl).1,q1,q2,q3⟩
 have HT:H T=none:=I.hok.fresh N.new
 have Ta:T≠a:=notA T HT
 have gT:∀ b o,s.heap.get? b=some o→b≠T:=fun b o q=>Nat.ne_of_lt (Nat.lt_of_lt_of_le (Heap.lt_size q) N.new)
 let H':Hp:=upd (upd H a (XO a C dx (some T))) T (XT T)
 have Hb:∀ b,b≠a→∀ o,H b=some o→H' b=some o:=fun b n o q=>by
  show upd (upd H a _) T _ b=_
  rw [Yae (fun z=>by rw [z,HT] at q;cases q),Yae n];exact q
 have Ha:H' a=some (XO a C dx (some T)):=by
  show upd (upd H a _) T _ a=_
  rw [Yae (Ne.symm Ta),yag]
 have HTT:H' T=some (XT T):=yag
 have Hn:∀ b o,s.heap.get? b=some o→H b=none→H' b=none:=fun b o q n=>by
  show upd (upd H a _) T _ b=_
  rw [Yae (gT b o q),Yae (notA b n)];exact n
 have xs:XS a H H':=⟨⟨C,dx,tr,some T,ea,Ha⟩,Hb⟩
 have tne:∀ b u,H b=some u→(∀ φ,u≠.ext φ)→b≠a:=fun b u q n z=>by rw [z,ea] at q;cases q;exact n _ rfl
 have un:Un (frs X.stack) [] H H' s.heap h':=by
  rw [hst]
  refine ⟨fun b o q n1 n2 _=>N.keep b o q (notA b n1) (notT b n1) n2,fun b o q n1 _ _=>N.slot b o q (notA b n1) (notT b n1),fun b o q n _=>Hn b o q n,fun b o q _=>?_,
   fun b xs q=>Hb b (tne b _ q fun φ z=>nomatch z) _ q,fun b o u q=>Hb b (tne b _ q fun φ z=>nomatch z) _ q,fun b ps q=>⟨#[],by rw [Array.append_empty];exact Hb b (tne b _ q fun φ z=>nomatch z) _ q⟩⟩
  by_cases n1:b=a
  ·subst n1;obtain ⟨o',_,q',_⟩:=N.exc;exact ⟨o',q'⟩
  ·by_cases n2:vs[1]?=some (.ref b)
   ·obtain ⟨o',_,q',_⟩:=N.old b n1 n2;exact ⟨o',q'⟩
   ·obtain ⟨sl,q'⟩:=N.slot b o q n1 n2;exact ⟨_,q'⟩
 have hok:HOk X.prog X.w H' h':=fun b u q=>by
  by_cases n0:b=T
  ·subst n0;rw [HTT] at q;cases q;exact XT.ok N.head
  by_cases n1:b=a
  ·subst n1;rw [Ha] at q;cases q
   obtain ⟨o',ws,p1,p2,p3,p4,p5,p6⟩:=N.exc
   exact XO.ok ⟨o',ws,p1,by rw [p2];exact hc,by rw [p3];exact hdx,p4,p6⟩
  have qb:H b=some u:=by
   have z:upd (upd H a (XO a C dx (some T))) T (XT T) b=some u:=q
   rw [Yae n0,Yae n1] at z;exact z
  by_cases n2:vs[1]?=some (.ref b)
  ·rw [h1] at n2
   cases tr with
   | none=>cases n2
   | some T0 =>
    cases n2
    rw [(et b rfl).2] at qb;cases qb
    exact XT.ok (N.old b n1 h1)
  ·have nfr:∀ c v,H c=some v→c ∉ frs X.stack:=fun c v z y=>by rw [I.stkFree c y] at z;cases z
   refine (I.hok b u qb).stay (fun c v hc' r=>?_) (fun c r=>Hb c (tne c _ r fun φ z=>nomatch z) _ r) fun c xs r=>Hb c (tne c _ r fun φ z=>nomatch z) _ r
   rcases hc' with rfl | hc'
   ·exact N.keep c v r n1 n2 (hst ▸ nfr c u qb)
   ·refine N.keep c v r (tne c _ hc' fun φ z=>nomatch z) (fun z=>?_) (hst ▸ nfr c _ hc')
    rw [h1] at z
    cases tr with
    | none=>cases z
    | some T0=>cases z;rw [(et c rfl).2] at hc';cases hc'
 exact h h' H' xs ⟨some T,Ha,fun T' e=>by cases e;exact ⟨Ta,HTT⟩⟩ (I.call (ch:=[]) un hok I.bare fun b z=>absurd z (by simp))
noncomputable def CXE (P:Program) (w:World):CXT:=fun outer H s E e s'=>∃ a C dx H',e=.ref a∧s'.os=s.os∧AllBare s'.gens∧Un (frs outer) [] H H' s.heap s'.heap∧HOk P w H' s'.heap∧Exc H' a C dx∧∀ H'',XS a H' H''→E (.ref a) none H''
end
section
variable {P:Program} {w:World} {K:PySem.W.Frag} {mg:Str→Option Value} {base:Heap} {N:List Str} {qual:Str} {scope:Scope} {f:Addr} {cd:Value} {A:Around} {outer:List Env} {s0:Shared} {H0:Hp} {E:XK}
theorem leave {pins:List (Addr×Obj)} {σ:St} {H:Hp} {s:Shared} {a C:Addr} {dx:Option Addr} (I:Inv (cxOf (CXE P w) P w K mg base N qual scope f cd A outer s0 H0 E) pins σ H s) (x:Exc H a C dx) (h:∀ H'',XS a H H''→E (.ref a) none H'') :
  (cxOf (CXE P w) P w K mg base N qual scope f cd A outer s0 H0 E).xe (.ref a) s:=by
 show wpAny _ _ («leaving» _ (.ref a)) _ _ s
 unfold «leaving»
 refine wpAny_bind (Inv.noted I rfl rfl I.ok.frames x fun h' H' xs x' I'=>?_)
 exact ⟨a,C,dx,H',rfl,I'.os,I'.bare,I'.base,I'.hok,x',fun H'' y=>h H'' (xs.trans y)⟩
theorem zbj:Passes (CXE P w) (cxOf (CXE P w) P w K mg base N qual scope f cd A outer s0 H0 E) E:=by
 rintro pins σ H s e s' I ⟨a,C,dx,H',rfl,os,bare,un,hok,x,h⟩
 exact leave (I.call' os un hok bare fun b z=>absurd z (by simp)) x h
end
structure ExC (K:PySem.W.Frag) (mg:Str→Option Value) (x:Str) (C:Addr) (bmB:List Value) (newId:String):Prop where
 m:mg x=some (.ref C)
 k:PySem.W.excIn K C bmB newId=true
section
open PySem.W
theorem XbE {K:Frag} {h:Heap} {C:Addr} {bmB:List Value} {newId:String} (X:K.In h) (q:excIn K C bmB newId=true) :
  ∃ bm N nm qn bs hdct sn sub ab col dd k0 k1 k2 k3 k5 mN,h.get? C=some (excClassObj nm qn C N bs bm hdct sn sub ab col dd k0 k1 k2 k3 k5 newId)∧h.Ns N mN∧mN "__init__" = none∧OwnTail h bmB bm:=by
 unfold excIn at q
 split at q
 ·next dd cd sl ho =>
  split at q
  ·next C' bm k0 k1 k2 k3 n k5 hm hs =>
   simp only [Bool.and_eq_true,beq_iff_eq,Bool.not_eq_true'] at q
   obtain ⟨⟨⟨⟨⟨e1,e2⟩,e3⟩,e4⟩,e5⟩,e6⟩:=q
   subst e1 e2
   obtain ⟨nm,bs,mro,ns,qn,hd,sn,sub,ab,col,del⟩:=cd
   obtain ⟨l⟩:=sl
   dsimp only at hm hs e3 e5 e6
   subst hm e3 hs
   exact ⟨bm,ns,nm,qn,bs,hd,sn,sub,ab,col,dd,k0,k1,k2,k3,k5,_,X _ _ ho,.of_isNs (isNs_of_in X e5),nsMap_none_of_in X e5 e6,tail_of_in X e4⟩
  ·cases q
 ·cases q
end
section
variable {X:Cx} {pins:List (Addr×Obj)} {σ:St} {H:Hp} {s:Shared} {a C:Addr} {dx:Option Addr}
theorem Inv.lay1 {h':Heap} {o:HO} (I:Inv X pins σ H s) (kp:∀ b u,s.heap.get? b=some u→h'.get? b=some u) (hn:s.heap.get? a=none) (new:ObjOk X.prog X.w (upd H a o) h' a o):Inv X pins σ (upd H a o) { s with heap:=h' }:=by
 have Ha:H a=none:=I.hok.none_of hn
 have ne:∀ b u,H b=some u→b≠a:=fun b u q=>yas q Ha
 have up:∀ b u,H b=some u→upd H a o b=some u:=fun b u q=>by rw [Yae (ne b u q)];exact q
 have hok:HOk X.prog X.w (upd H a o) h':=fun b u q=>by
  by_cases hb:b=a
  ·subst hb;rw [yag] at q;cases q;exact new
  ·rw [Yae hb] at q
   exact (I.hok b u q).stay (fun c v _ r=>kp c v r) (fun c r=>up c _ r) fun c xs r=>up c _ r
 have un:Un (frs X.stack) [] H (upd H a o) s.heap h' :=
  ⟨fun b u q _ _ _=>kp b u q,fun b u q _ _ _=>⟨u.slots,kp b u q⟩,fun b u q n _=>by rw [Yae (fun z=>by rw [z,hn] at q;cases q)];exact n,fun b u q _=>⟨u,kp b u q⟩,fun b xs q=>up b _ q,fun b x y q=>up b _ q,fun b ps q=>⟨#[],by rw [Array.append_empty];exact up b _ q⟩⟩
 exact I.call (ch:=[]) un hok I.bare fun b z=>absurd z (by simp)
theorem Inv.flight {M:Model} {A:Around} {E:Value→Shared→Prop} {Q:Unit→Shared→Prop} (I:Inv X pins σ H s) (x:Exc H a C dx) (h:∀ h',Inv X pins σ H { s with heap:=h' }→Q () { s with heap:=h' }):wpAny M A (setFlight (.ref a) none) Q E s:=by
 obtain ⟨tr,ea,et⟩:=x
 obtain ⟨oe,vs,he,hc,hdx,hd,h1⟩:=XO.of I.hok ea
 cases tr with
 | none =>
  unfold setFlight
  refine wpAny_bind (wpAny_field he hd h1 ?_)
  exact wpAny_pure (h s.heap I)
 | some T =>
  obtain ⟨Ta,eT⟩:=et T rfl
  obtain ⟨oT,ts,q1,q2,q3⟩:=XT.of I.hok eT
  have lt:3 < ts.size:=(Array.getElem?_eq_some_iff.mp q3).1
  have d2:=Obj.data_mapFields q2 (·.setIfInBounds 3 Value.none)
  have T2:=Heap.get?_update_self (Obj.mapFields (·.setIfInBounds 3 Value.none)) q1 (Obj.isFreed_of_fields d2)
  have oth:∀ b u,b≠T→s.heap.get? b=some u→(s.heap.update T (Obj.mapFields (·.setIfInBounds 3 Value.none))).get? b=some u:=fun b u n q=>by rw [Heap.get?_update_other _ _ (Ne.symm n)];exact q
  have nT:∀ b,H b=none→b≠T:=fun b n z=>by rw [z,eT] at n;cases n
  refine wpAny_setFlight_none he hd h1 q1 q2 lt (h _ (I.call (ch:=[]) ⟨fun b u q n _ _=>oth b u (nT b n) q,fun b u q n _ _=>⟨u.slots,oth b u (nT b n) q⟩,fun b u q n _=>n,fun b u q _=>?_,fun _ _ q=>q,fun _ _ _ q=>q,fun b ps q=>⟨#[],by rw [Array.append_empty];exact q⟩⟩ ?_ I.bare fun b z=>absurd z (by simp)))
  ·by_cases z:b=T
   ·subst z;exact ⟨_,T2⟩
   ·exact ⟨u,oth b u z q⟩
  ·intro b u q
   by_cases z:b=T
   ·subst z;rw [eT] at q;cases q;exact XT.ok ⟨_,_,T2,d2,by simp [lt]⟩
   ·refine (I.hok b u q).stay (fun c v hc' r=>oth c v ?_ r) (fun c r=>r) fun c xs r=>r
    rcases hc' with rfl | hc'
    ·exact z
    ·rintro rfl;rw [eT] at hc';cases hc'
end
section
variable {P:Program} {w:World} {K:PySem.W.Frag} {mg:Str→Option Value} {base:Heap} {N:List Str} {qual:Str} {scope:Scope} {f:Addr} {cd:Value} {A:Around} {outer:List Env} {s0:Shared} {H0:Hp} {E:XK}
end
end L2
namespace L2
open PySem PySem.Spec PyProof.Rows
theorem exm {M:Model} {A:Around} {E:Value→Shared→Prop} {s:Shared} {K:PySem.W.Frag} {a C F:Addr} {oe:Obj} {bmB:List Value} {newId:String} {Q:Bool→Shared→Prop} (X:K.In s.heap) (he:s.heap.get? a=some oe) (hc:oe.cls=.ref C)
  (hF:PySem.W.excIn K F bmB newId=true) (hb:bmB.contains (.type "BaseException")=true) (hm:PySem.W.mroIn K C (.ref F)=some true) (hq:Q true s):wpAny M A (excMatches (.ref a) (.ref F)) Q E s:=by
 obtain ⟨bm,NN,nm,qn,bs,hdct,sn,sub,ab,col,dd,k0,k1,k2,k3,k5,mN,hC,hN,hni,T⟩:=XbE X hF
 have L:=PySem.W.looks_mroIn (M:=M) X hm
 obtain ⟨h,g,d,t,os⟩:=s
 have hcB:(Value.ref F :: bm).contains (.type "BaseException")=true:=by rw [List.contains_cons,T.hasType hb,Bool.or_true]
 have f:=tc_notTuple
 unfold excMatches
 repeat (first | (with_reducible refine wpAny_loadPart_at he ?_;rw [hc]) | with_reducible refine wpAny_loadPart_at hC ?_ | (with_reducible refine wpAny_isSubtype_exc hC ?_;rw [hcB]) | wp_step)
 refine L.at ?_
 rw [if_pos rfl]
 wp_walk
 exact hq
abbrev Cx.tr (X:Cx) (pins:List (Addr×Obj)) (W:St→Addr→Hp→Prop):Cx :=
 { X with pn:=X.pn ++ pins,xe:=fun e s=>∃ σ H a C dx,e=.ref a∧Inv X pins σ H s∧Exc H a C dx∧∀ H2,XS a H H2→W σ a H2 }
abbrev Cx.held (X:Cx) (a:Addr):Cx:={ X with A:=X.A.mark (some (.ref a)),calm:=false,xe:=fun _ _=>False }
section
variable {X:Cx} {pins:List (Addr×Obj)} {σ:St} {H:Hp} {s:Shared} {W:St→Addr→Hp→Prop} {a:Addr}
theorem Cx.Ok.tr (ok:X.Ok):(X.tr pins W).Ok:=⟨ok.mod,ok.kind,ok.glob,ok.blt,ok.above,ok.inj,ok.has,ok.cab,ok.hd,ok.frames,ok.stk,ok.exf,ok.bs,ok.bsz,ok.noex,ok.exfs,ok.funs,ok.frf⟩
theorem Cx.Ok.untr (ok:(X.tr pins W).Ok):X.Ok:=⟨ok.mod,ok.kind,ok.glob,ok.blt,ok.above,ok.inj,ok.has,ok.cab,ok.hd,ok.frames,ok.stk,ok.exf,ok.bs,ok.bsz,ok.noex,ok.exfs,ok.funs,ok.frf⟩
theorem Inv.tr (I:Inv X pins σ H s):Inv (X.tr pins W) [] σ H s:=⟨I.ok.tr,I.os,I.bare,I.base,I.loc,I.cell,I.free,I.freeC,fun p hp=>I.pin p (by rw [List.append_nil] at hp;exact hp),I.hok,I.len⟩
theorem Inv.untr {pins':List (Addr×Obj)} (I:Inv (X.tr pins W) pins' σ H s):Inv X pins σ H s:=⟨I.ok.untr,I.os,I.bare,I.base,I.loc,I.cell,I.free,I.freeC,fun p hp=>I.pin p (List.mem_append_left _ hp),I.hok,I.len⟩
theorem SP.untr {pins':List (Addr×Obj)} {D:Ends} {f:Flow} {s':Shared} (h:SP (X.tr pins W) pins' D f s'):SP X pins D f s':=by
 cases f with
 | next=>obtain ⟨σ',H',I,q⟩:=h;exact ⟨σ',H',I.untr,q⟩
 | brk=>obtain ⟨σ',H',I,q⟩:=h;exact ⟨σ',H',I.untr,q⟩
 | cont=>obtain ⟨σ',H',I,q⟩:=h;exact ⟨σ',H',I.untr,q⟩
 | ret u=>obtain ⟨v,σ',H',I,r,q⟩:=h;exact ⟨v,σ',H',I.untr,r,q⟩
theorem Cx.Ok.held (ok:X.Ok):(X.held a).Ok:=⟨ok.mod,ok.kind,ok.glob,ok.blt,ok.above,ok.inj,ok.has,ok.cab,fun z=>(by cases z),ok.frames,ok.stk,ok.exf,ok.bs,ok.bsz,ok.noex,ok.exfs,ok.funs,ok.frf⟩
theorem Inv.held (I:Inv X pins σ H s):Inv (X.held a) pins σ H s:=⟨I.ok.held,I.os,I.bare,I.base,I.loc,I.cell,I.free,I.freeC,I.pin,I.hok,I.len⟩
theorem Inv.unheld (ok:X.Ok) (I:Inv (X.held a) pins σ H s):Inv X pins σ H s:=⟨ok,I.os,I.bare,I.base,I.loc,I.cell,I.free,I.freeC,I.pin,I.hok,I.len⟩
theorem Inv.unbind {M:Model} {A:Around} {E:Value→Shared→Prop} {i:Nat} {n:Str} {pos:Pos} {Q:Unit→Shared→Prop} (I:Inv X pins σ H s) (hN:X.N.Nodup) (hi:X.N[i]?=some n) (hk:X.env.scope.names.lookup n=some .local)
  (h:∀ s',Inv X pins (σ.set i none) H s'→Q () s'):wpAny M A (do bindName X.env n .none;unbindBehindTheSuite X.env n pos) Q E s:=by
 obtain ⟨m,hn,hl⟩:=id I.loc
 have hcls:(X.env.scope.kind == .class || (X.env.scope.kind == .module && X.env.locals != X.env.globals))=false:=by rw [I.ok.kind];rfl
 have cne:=I.cne
 refine wpAny_nameGoes_keeps hk hn hcls fun h' v hn' hs=>h _ ?_
 have low:∀ b o,X.s₀.heap.get? b=some o→b≠X.env.locals:=fun b o e=>Nat.ne_of_lt (Nat.lt_of_lt_of_le (Heap.lt_size e) I.ok.above)
 have up:∀ b o,b≠X.env.locals→s.heap.get? b=some o→h'.get? b=some o:=fun b o n q=>(hs.2 b n).trans q
 refine ⟨I.ok,I.os,I.bare,⟨fun b o e n hb hx=>up b o (low b o e) (I.base.keep b o e n hb hx),fun b o e n hb hx=>?_,I.base.free,fun b o e hx=>?_,I.base.tups,I.base.frzs,I.base.tbls⟩,⟨_,hn',fun j y v' e1 e2 e3=>?_⟩,fun y c e=>?_,I.free,I.freeC,fun p hp=>?_,fun b ob e=>?_,by simpa using I.len⟩
 ·obtain ⟨sl,e1⟩:=I.base.slot b o e n hb hx
  exact ⟨sl,up b _ (low b o e) e1⟩
 ·obtain ⟨o',e1⟩:=I.base.there b o e hx
  exact ⟨o',up b _ (low b o e) e1⟩
 ·have hj:j≠i:=fun z=>by
   subst z
   by_cases hl':j < σ.length
   ·rw [List.getElem?_set_self hl'] at e2;cases e2
   ·rw [List.getElem?_eq_none (by rw [List.length_set];omega)] at e2;cases e2
  rw [List.getElem?_set_ne (Ne.symm hj)] at e2
  obtain ⟨u',r',q⟩:=hl j y v' e1 e2 e3
  refine ⟨u',r',?_⟩
  have yn:y≠n:=fun z=>hj (ZaT hN e1 (z ▸ hi))
  rcases q with ⟨k,e⟩ | ⟨k,c,e,z⟩
  ·exact .inl ⟨k,by simp [yn,e]⟩
  ·exact .inr ⟨k,c,e,z.sameBut hs (cne y c e)⟩
 ·obtain ⟨w',z⟩:=I.cell y c e
  exact ⟨w',z.sameBut hs (cne y c e)⟩
 ·obtain ⟨e,n',ne,nf,d⟩:=I.pin p hp
  exact ⟨up _ _ ne e,n',ne,nf,d⟩
 ·refine (I.hok b ob e).stay (fun c w' hc q=>up c w' ?_ q) (fun _ q=>q) fun _ _ q=>q
  rintro rfl
  rcases hc with rfl | hc
  ·rw [I.free] at e;cases e
  ·rw [I.free] at hc;cases hc
end
noncomputable def tTry (K:PySem.W.Frag) (tb:(St→Addr→Hp→Prop)→TS) (F:Addr) (i:Nat) (ts:TS):TS:=fun D σ H =>
 tb (fun σ1 a H1=>∃ C dx tr,H1 a=some (XO a C dx tr)∧PySem.W.mroIn K C (.ref F)=some true ∧
  ts { nx:=fun σ2 H2=>D.nx (σ2.set i none) H2,bk:=fun σ2 H2=>D.bk (σ2.set i none) H2,ct:=fun σ2 H2=>D.ct (σ2.set i none) H2,rt:=D.rt } (σ1.set i (some (.ref a))) H1) D σ H
section
variable {X:Cx} {i:Nat} {x n:Str} {F:Addr} {bmB:List Value} {newId:String} {tb:(St→Addr→Hp→Prop)→TS} {ts:TS} {body suite:List Stmt} {b0:Stmt} {np hpos pos:Pos}
theorem ps_try (ec:ExC X.K X.mg x F bmB newId) (hbB:bmB.contains (.type "BaseException")=true) (hg:Gl X x) (hN:X.N.Nodup) (hi:X.N[i]?=some n) (hk:X.env.scope.names.lookup n=some .local) (hb:∀ pins W,PSs (X.tr pins W) body (tb W)) (hsu:∀ a,PSs (X.held a) (b0 :: suite) ts)
  (hst:X.stack=X.env :: X.outer:=by rfl) (hf:X.env.frame=some X.env.locals:=by rfl) (hdb:(x == ("__debug__" : Str))=false:=by decide) :
  PS X (.Try body [.ExceptHandler (some (.Name x np)) (some n) (b0 :: suite) hpos] [] [] pos) (tTry X.K tb F i ts):=by
 intro pins s σ H D I h
 refine wpAny_Try_except (wpAny_mono (hb pins _ [] s σ H D I.tr h) (fun f s1 q=>?_) fun e s1 q=>?_)
 ·cases f with
  | next=>exact wpAny_pure q.untr
  | brk=>exact q.untr
  | cont=>exact q.untr
  | ret u=>exact q.untr
 ·obtain ⟨σ1,H1,a,C,dx,rfl,I1,x1,w1⟩:=q
  refine Inv.noted I1 hst hf I1.ok.frames x1 fun h2 H2 xs x2 I2=>?_
  obtain ⟨C',dx',tr,e2,hm,q2⟩:=w1 H2 xs
  obtain ⟨oe,vs,he,hc,_⟩:=XO.of I2.hok e2
  refine wpAny_handleBy_cons (codeAny_handlers_test (YaK (X:=X.held a) I2.held hg ec.m ?_ hdb)) (by intro z;cases z)
  refine exm I2.kIn he hc ec.k hbB hm ?_
  refine codeAny_handlers_suite_as (Inv.flight I2 x2 fun h3 I3=>ZaF (X:=X.held a) (v:=.ref a) I3.held hN hi (.inl hk) rfl (fun s4 I4=>?_) (.inr hk))
  refine wpAny_mono (hsu a pins s4 _ H2 _ I4 q2) (fun f s5 q5=>?_) fun _ _ z=>z.elim
  cases f with
  | next=>obtain ⟨σ6,H6,I6,q6⟩:=q5;exact Inv.unbind (I6.unheld I.ok) hN hi hk fun s7 I7=>⟨_,H6,I7,q6⟩
  | brk=>obtain ⟨σ6,H6,I6,q6⟩:=q5;exact Inv.unbind (I6.unheld I.ok) hN hi hk fun s7 I7=>⟨_,H6,I7,q6⟩
  | cont=>obtain ⟨σ6,H6,I6,q6⟩:=q5;exact Inv.unbind (I6.unheld I.ok) hN hi hk fun s7 I7=>⟨_,H6,I7,q6⟩
  | ret u=>obtain ⟨v,σ6,H6,I6,r6,q6⟩:=q5;exact Inv.unbind (I6.unheld I.ok) hN hi hk fun s7 I7=>⟨v,_,H6,I7,r6,q6⟩
end
noncomputable def tCallX (sp:Sp) (W:St→Addr→Hp→Prop) (t:TA):TE:=fun σ H Q=>t σ H fun vs H1=>sp vs H1 Q fun u _ H2=>∃ a,u=.ref a∧W σ a H2
section
variable {X:Cx} {k:Nat} {f:Addr} {fd:FuncData} {ps:List Str} {sp:Sp} {x:Str} {p pos:Pos} {e:Expr} {es:List Expr} {t:TA} {pins:List (Addr×Obj)} {W:St→Addr→Hp→Prop}
theorem zbt (F:FnOk X.prog X.w X.K X.mg X.base (CXE X.prog X.w) k f fd ps sp) (hr:Room k X.A) (hg:Gl X x) (hm:X.mg x=some (.ref f)) (hk:PySem.W.keepIn X.K (.ref f)=true) (hb:Binds X.K fd ps [])
  (ha:PA (X.tr pins W) (e :: es) t) (hdb:(x == ("__debug__" : Str))=false:=by decide) (he:starEach (e :: es) X.env=(false,eval e X.env) :: starEach es X.env:=by rfl) (hpl:(backTo pos (starEach es X.env)).any (·.1)=false:=by rfl) :
  PE (X.tr pins W) (.Call (.Name x p) (e :: es) [] pos) (tCallX sp W t):=by
 intro pins' s σ H Q I h
 refine wpAny_Call_Name_kw (YaK I hg hm ?_ hdb)
 refine PySem.W.callWith_K (h₀:=X.base) I.ok.mod.kin hk (thn (ha pos pins' s σ H _ I h) fun us s1 ⟨vs,H1,I1,r,q⟩=>⟨I1.kIn,?_⟩) he hpl
 have hl:us.length=ps.length:=by rw [← r.length];exact F.len _ _ _ _ q
 have hbd:=hb s1 us I1.kIn (by rw [List.append_nil];exact hl)
 rw [List.append_nil] at hbd
 refine wpAny_call (codeAny_mono (F.run X.A X.stack s1 H1 ⟨us,[]⟩ us vs Q _ hr I1.env0 hbd r q) fun r s' hq=>?_)
 cases r with
 | error e =>
  obtain ⟨a,C,dx,H',rfl,os,bare,un,hok,x,hw⟩:=hq
  refine ⟨σ,H',a,C,dx,rfl,(I1.call' os un hok bare fun b z=>absurd z (by simp)).untr,x,fun H2 y=>?_⟩
  obtain ⟨a',ea,w⟩:=hw H2 y
  cases ea
  exact w
 | ok fl =>
  cases fl with
  | ret u=>exact I1.after hq
  | next=>exact False.elim hq
  | brk=>exact False.elim hq
  | cont=>exact False.elim hq
end
end L2
namespace L2
open PySem PySem.Spec PyProof.Rows PySem.W
structure ExI (K:Frag) (C:Addr):Prop where
 ga:findIn K (.ref C) "__getattribute__" = some (some (.builtin "BaseException.__getattribute__"))
 gt:findIn K (.ref C) "__getattr__" = some none
 hd:hasDictIn K C=true
 bx:mroIn K C (.type "BaseException")=some true
 ob:mroIn K C (.type "object")=some true
 cl:findIn K (.ref C) "__class__" = some (some (.builtin "object.__class__"))
 gs:specialIn K (.builtin "object.__class__") "__get__" = some (some (.builtin "getset_descriptor.__get__"))
 tk:takesIn K (.builtin "object.__class__")=some true
section
variable {prog:Program} {w:World} {A:Around} {E:Value→Shared→Prop} {s:Shared} {K:Frag} {a C:Addr} {ox:Obj} {odo:Option Obj} {name:Str}
theorem ybj {M:Model} {nv:Value} {Q:Unit→Shared→Prop} (X:K.In s.heap) (I:InstAt s.heap a ox C odo) (e:ExI K C) (hq:Q () s):wpAny M A (checkBuiltinCall "BaseException.__getattribute__" ⟨[.ref a,nv],[]⟩) Q E s:=by
 have hk:builtinKind "BaseException.__getattribute__" = some .slot:=by decide +kernel
 have hsplit:splitId "BaseException.__getattribute__" = some ("BaseException","__getattribute__"):=by decide +kernel
 have ha:=F.args_bexc_ga (.ref a) nv
 have LT:=I.type (M:=M)
 have LB:=looks_mroIn (M:=M) X e.bx
 obtain ⟨h,g,d,t,os⟩:=s
 simp only [checkBuiltinCall,hk,hsplit]
 refine wpAny_bind ?_
 unfold isInstance
 refine wpAny_bind (LT.at (LB.at ?_))
 repeat (first | assumption | wp_step)
theorem ZbB {tk:Tok} {fill expr:Bool} {Q:Value→Shared→Prop} (X:K.In s.heap) (I:InstAt s.heap a ox C odo) (e:ExI K C)
  (h:∀ A' (R:Fin→Shared→Prop) E',(∀ v s',handedOut v=pure v→Q v s'→R (.done (.ret v)) s')→wpAny (model prog w) A' (Builtin.«object.__getattribute__» ⟨[.ref a,.str name tk],[]⟩) R E' s) :
  wpAny (model prog w) A (getAttrBy (.ref a) (.str name tk) fill expr) Q E s:=by
 have f3:=F.attrBase_ValueError.ga.bind (.ref a)
 have LT:=I.type (M:=model prog w)
 have L1:=looks_findIn (M:=model prog w) X e.ga
 have L2:=looks_findIn (M:=model prog w) X e.gt
 have hx0:(expr && onTheHeap (Value.builtin "BaseException.__getattribute__"))=false:=by cases expr <;> rfl
 have hx2:(Value.builtin "BaseException.__getattribute__" == Value.builtin "object.__getattribute__")=false:=by decide +kernel
 have hx1:(onTheHeap (Value.ref C) && Value.builtin "BaseException.__getattribute__" == Value.builtin "object.__getattribute__")=false:=by rw [hx2];rfl
 obtain ⟨hh,g,d,t,os⟩:=s
 unfold getAttrBy
 repeat (any_goals (first | assumption | with_reducible refine LT.at ?_ | with_reducible refine L1.at ?_ | with_reducible refine L2.at ?_ | wp_step))
 refine codeAny_call_builtin F.attrBase_ValueError.ga.plain F.entry_bexc_ga (ybj X I e ?_)
 refine h _ _ _ fun v s' hv q=>?_
 dsimp only
 rw [hv]
 exact wpAny_pure q
theorem Zbj {tk:Tok} {v:Value} {R:Fin→Shared→Prop} (X:K.In s.heap) (I:InstAt s.heap a ox C odo) (hf:findObj K C odo name=some (.value v)) (h:R (.done (.ret v)) s) :
  wpAny (model prog w) A (Builtin.«object.__getattribute__» ⟨[.ref a,.str name tk],[]⟩) R E s:=by
 have LT:=I.type (M:=model prog w)
 have LF:=looks_find (M:=model prog w) X I hf
 obtain ⟨hh,g,d,t,os⟩:=s
 repeat (any_goals (first | assumption | with_reducible refine LT.at ?_ | with_reducible refine LF.at ?_ | wp_step))
theorem ybt {v:Value} {expr:Bool} {Q:Value→Shared→Prop} (X:K.In s.heap) (I:InstAt s.heap a ox C odo) (e:ExI K C) (hf:findObj K C odo name=some (.value v)) (hv:handedOut v=pure v) (h:Q v { s with toks:=s.toks + 1 }) :
  wpAny (model prog w) A (getAttr (.ref a) name expr) Q E s:=by
 obtain ⟨hh,g,d,t,os⟩:=s
 unfold getAttr
 repeat (any_goals (first | assumption | with_reducible refine ZbB (s:=⟨hh,g,d,t + 1,os⟩) X I e (fun A' R E' k=>Zbj (s:=⟨hh,g,d,t + 1,os⟩) X I hf (k _ _ hv ?_)) | wp_step))
theorem xbb {tk:Tok} {R:Fin→Shared→Prop} (X:K.In s.heap) (I:InstAt s.heap a ox C odo) (e:ExI K C) (h:R (.done (.ret (.ref C))) s) :
  wpAny (model prog w) A (Builtin.«object.__getattribute__» ⟨[.ref a,.str "__class__" tk],[]⟩) R E s:=by
 have LT:=I.type (M:=model prog w)
 have hf:findObj K C odo "__class__" = some (.bind (.builtin "getset_descriptor.__get__") (.builtin "object.__class__")):=by
  obtain ⟨cd,hc,_⟩:=any_some e.hd
  unfold findObj
  rw [hc,Option.bind_some,e.cl,Option.bind_some]
  simp [e.gs,e.tk]
 have LF:=looks_find (M:=model prog w) X I hf
 obtain ⟨hh,g,d,t,os⟩:=s
 repeat (any_goals (first | assumption | with_reducible refine LT.at ?_ | with_reducible refine LF.at ?_ | wp_step))
 exact class_get (s:=⟨hh,g,d,t,os⟩) X I e.ob (wpAny_pure h)
theorem Ybj {Q:Option Value→Shared→Prop} (X:K.In s.heap) (I:InstAt s.heap a ox C odo) (e:ExI K C) (h:Q (some (.ref C)) { s with toks:=s.toks + 1 }):wpAny (model prog w) A (getAttr? (.ref a) "__class__") Q E s:=by
 obtain ⟨hh,g,d,t,os⟩:=s
 unfold getAttr? getAttrBy?
 repeat (any_goals (first | assumption | with_reducible refine ZbB (s:=⟨hh,g,d,t + 1,os⟩) X I e (fun A' R E' k=>xbb (s:=⟨hh,g,d,t + 1,os⟩) X I e (k _ _ rfl ?_)) | wp_step))
theorem xbj (e:ExI K C):KitX K (.ref a) (.ref C) (fun h=>∃ ox odo,InstAt h a ox C odo) where
 ty:=fun _ _ _ ⟨_,_,I⟩=>I.type
 it:=fun _ _ X _=>by
  obtain ⟨cd,hc,_⟩:=any_some e.hd
  unfold clsIn at hc
  split at hc
  ·next c' d' cd' sl' ho =>
   intro A' Q' E' s' k q
   unfold isType loadHead
   exact wpAny_bind (wpAny_loadPart (k _ _ (X _ _ ho)) (wpAny_pure q))
  ·cases hc
 ne:=fun h tp dd its n sl X htp=>by
  obtain ⟨cd,hc,_⟩:=any_some e.hd
  refine Bool.eq_false_iff.mpr fun q=>?_
  have z:C=tp:=Value.ref.inj (beq_iff_eq.mp q)
  subst z
  unfold clsIn at hc
  split at hc
  ·next c' d' cd' sl' ho =>
   have z:=(X _ _ ho).symm.trans htp
   cases z
  ·cases hc
 ca:=fun X ⟨_,_,I⟩ k=>Ybj X I e k
end
theorem Zbt {P:Program} {w:World} {H:Hp} {h:Heap} {a C:Addr} {dx tr:Option Addr} (ok:HOk P w H h) (ea:H a=some (XO a C dx tr)) (hd:∀ d,dx=some d→∃ fs,H d=some (.xd fs)):∃ ox odo,InstAt h a ox C odo:=by
 obtain ⟨o,vs,he,hc,hdx,hdt,_⟩:=XO.of ok ea
 have nc:notCls o=true:=by unfold notCls;rw [hdt]
 cases dx with
 | none=>exact ⟨o,none,he,hc,nc,by rw [hdx];trivial⟩
 | some d =>
  obtain ⟨fs,ed⟩:=hd d rfl
  obtain ⟨mA,⟨od,es,ep,e1,_⟩,_⟩:=(show ObjOk P w H h d (.xd fs) from ok d _ ed)
  exact ⟨o,some od,he,hc,nc,by rw [hdx];exact e1⟩
inductive ClsN (K:Frag) (mg:Str→Option Value):Str→Value→V→Prop where
 | own {x:Str} {C:Addr}:mg x=some (.ref C)→ClsN K mg x (.ref C) (.ref C)
 | blt {x:Str} {n:String}:mg x=none→bootBuiltins x=some (.type n)→x≠"__name__" → ClsN K mg x (.type n) (.ty n)
section
variable {X:Cx} {x:Str} {c:Value} {v:V} {p pos:Pos} {e:Expr} {te:TE} {b:Bool}
theorem zaJ (h:ClsN X.K X.mg x c v) (hg:Gl X x) (hdb:(x == ("__debug__" : Str))=false:=by decide):PE X (.Name x p) (tC v):=by
 cases h with
 | own m=>exact ybe hg m rfl hdb
 | blt m b n=>exact ZbD hg m b rfl n hdb
end
noncomputable def clsV:V→Option Value
 | .ref a=>some (.ref a)
 | .ty n=>some (.type n)
 | _=>none
noncomputable def clsVs:List V→Option (List Value)
 | []=>some []
 | v :: r=>match clsV v,clsVs r with
  | some c,some cs=>some (c :: cs)
  | _,_=>none
theorem Za6 {v:V} {c u:Value} (h:clsV v=some c) (r:RelV v u):u=c:=by
 cases v <;> first | (cases h;exact r) | cases h
theorem yaZ:∀ {vs:List V} {cs us:List Value},clsVs vs=some cs→Vals vs us→us=cs
 | _,_,_,h,.nil=>by cases h;rfl
 | v :: r,cs,_,h,.cons a b=>by
  unfold clsVs at h
  split at h
  ·next c cs' e1 e2=>cases h;rw [Za6 e1 a,yaZ e2 b]
  ·cases h
noncomputable def rIsX (K:Frag):List V→Hp→VK→Prop:=fun xs H Q=>∃ a C dx tr v b,xs=[.ref a,v]∧H a=some (XO a C dx tr)∧(∀ d,dx=some d→∃ fs,H d=some (.xd fs))∧ExI K C ∧
 ((∃ c,clsV v=some c∧kitOne K (.ref C) c=some b)∨∃ p vs cs,v=.ref p∧H p=some (.tup vs)∧clsVs vs=some cs∧kitAny K (.ref C) cs=some b)∧Q (.bl b) H
theorem ZaU {X:Cx}:CallR X (.builtin "isinstance") (rIsX X.K):=by
 intro pins s σ H xs us Q I r h
 obtain ⟨a,C,dx,tr,v,b,rfl,ea,hd,ei,hc,q⟩:=h
 obtain ⟨u,u',rfl,ru,ru'⟩:=vals2 r
 cases (show u=Value.ref a from ru)
 have J:=Zbt I.hok ea hd
 rcases hc with ⟨c,e1,e2⟩ | ⟨p,vs,cs,rfl,hp,e1,e2⟩
 ·rw [Za6 e1 ru']
  exact kia_one (xbj ei) I.kIn J e2 (fun z=>nomatch z) fun tk=>⟨.bl b,H,I.tok tk,rfl,q⟩
 ·cases (show u'=Value.ref p from ru')
  obtain ⟨_,its,rv,o,h1,h2,h3,n,h4⟩:=(show ObjOk X.prog X.w H s.heap p (.tup vs) from I.hok p _ hp)
  have ec:=yaZ e1 rv
  subst ec
  obtain ⟨oc,od,odt,osl⟩:=o
  cases h2
  cases h4
  exact kia_tup (xbj ei) I.kIn J h1 e2 (fun z=>nomatch z) fun tk=>⟨.bl b,H,I.tok tk,rfl,q⟩
theorem Fun.okX {P:Program} {w:World} {K:Frag} {mg:Str→Option Value} {base:Heap} {x qual:Str} {st:Stmt} {f:Addr} {fd:FuncData} {N ps:List Str} {k:Nat} {sp:Sp} (F:Fun K x qual st f fd) (S:FnScope N ps (defScope st)) (len:∀ vs H Q E,sp vs H Q E→vs.length=ps.length)
  (hbody:∀ (cdv:Value) (A:Around) (outer:List Env) (s:Shared) (H:Hp) (vs:List V) (Q:VK) (E:XK),Room k (A.deeper (envOfC qual (defScope st) s.heap.objs.size f cdv))→sp vs H Q E →
   ∃ t,PSs (cxOf (CXE P w) P w K mg base N qual (defScope st) f cdv A outer s H E) (defBody st) t∧t { nx:=fun _ H'=>Q .non H',rt:=Q } (start N vs) H):FnOk P w K mg base (CXE P w) (k + 1) f fd ps sp:=by
 obtain ⟨oc,od,kV,doc,pm,an,cdv,ct,osl,rfl,lk,hcd⟩:=F.ex
 exact fn_of lk hcd S len fun A outer s H vs Q E hr hsp=>hbody cdv A outer s H vs Q E hr hsp
end L2
namespace L2
open PySem PySem.Spec PyProof.Rows
section
variable {X:Cx}
end
end L2
namespace L2
open PySem PySem.Spec PyProof.Rows PySem.W PySem.Builtin PySem.Builtin.ObjectAttr
noncomputable def bmW:List Value:=[.type "ValueError",.type "Exception",.type "BaseException",.type "object"]
noncomputable def overV:List Value→Bool
 | []=>false
 | v :: r=>(v :: r) == bmW || (match v with | .ref _=>overV r | _=>false)
theorem Ya6 (self:Value):∀ {l:List Value},overV l=true→refuseLoop self "__setattr__" l=pure ()∧l.contains (.type "object")=true
 | [],e=>by cases e
 | v :: r,e=>by
  unfold overV at e
  rcases Bool.or_eq_true_iff.mp e with e | e
  ·rw [beq_iff_eq.mp e];exact ⟨PySem.F.store_ValueError.passes self,by decide +kernel⟩
  ·split at e
   ·next c =>
    obtain ⟨h1,h2⟩:=Ya6 self (l:=r) e
    exact ⟨by rw [refuseLoop_ref];exact h1,by rw [List.contains_cons,h2,Bool.or_true]⟩
   ·cases e
structure ExS (K:Frag) (C:Addr):Prop where
 sa:findIn K (.ref C) "__setattr__" = some (some (.builtin "object.__setattr__"))
 hd:hasDictIn K C=true
 po:(clsIn K C).any (fun cd=>overV cd.mro)=true
section
variable {prog:Program} {w:World} {A:Around} {E:Value→Shared→Prop} {s:Shared} {K:Frag} {a C:Addr} {ox:Obj} {odo:Option Obj} {name:Str} {v:Value}
theorem Xbj {R:Result→Shared→Prop} {tk:Tok} (X:K.In s.heap) (I:InstAt s.heap a ox C odo) (e:ExS K C) (ht:takerIn K C name=some none)
  (h:∀ b,wpAny (model prog w) A.in1 (storeInOwnDict (.ref a) (.ref C) (.str name tk) name v b)
   (fun fin s'=>match fin with | .done f=>R (.ok f) s' | .again c'=>c'.quiet=true∧codeAny (model prog w) A c' R s') (fun e s'=>R (.error e) s') s) :
  codeAny (model prog w) A (.call (.builtin "object.__setattr__") ⟨[.ref a,.str name tk,v],[]⟩) R s:=by
 have SF:=PySem.F.store_object
 obtain ⟨cd,hc,ho⟩:=any_some e.po
 obtain ⟨o1,o2⟩:=Ya6 (.ref a) ho
 have ne:cd.mro.isEmpty=false:=by
  cases q:cd.mro with
  | nil=>rw [q] at ho;cases ho
  | cons _ _=>rfl
 have sub:Looks (model prog w) s.heap (isInstance (.ref a) (.type "object")) true:=I.type.andThen (looks_mroIn X (by unfold mroIn;rw [hc,Option.bind_some,if_neg (by rw [ne];decide),o2]))
 refine codeAny_call_builtin SF.slot.plain SF.entry (@check_slot (model prog w) _ _ s "object.__setattr__" "object" "__setattr__" (.ref a) [.str name tk,v] [] _ SF.kind SF.split sub (SF.args (.ref a) (.str name tk) v) ?_)
 obtain ⟨attr,ha,hr⟩:=Option.bind_eq_some_iff.mp ht
 have LM:Looks (model prog w) s.heap (mroOf (.ref C)) cd.mro:=(looks_clsIn X hc).andThen .now
 have LT:Looks (model prog w) s.heap (storeTaker? attr) none:=by
  cases attr with
  | none=>exact .now
  | some u =>
   obtain ⟨b,hb,hn⟩:=Option.map_eq_some_iff.mp hr
   cases b with
   | true=>cases hn
   | false=>exact (looks_takesIn X hb).andThen .now
 rw [osa_eq,refuse_eq]
 refine wpAny_bind (wpAny_bind (I.type.here (wpAny_bind (LM.here ?_))))
 rw [o1]
 exact wpAny_pure (wpAny_bind (I.type.here (wpAny_bind ((looks_findIn X ha).here (wpAny_bind (LT.here (h _)))))))
theorem Ybt {Q:Unit→Shared→Prop} (X:K.In s.heap) (hx:s.heap.get? a=some ox) (hc:ox.cls=.ref C) (hdx:ox.dict=none) {vs:Array Value} (hdt:ox.data=.fields vs) (e:ExS K C) (ht:takerIn K C name=some none)
  (h:∀ h' d tk,s.heap.objs.size≤d→h'.get? a=some { ox with dict:=some d }→h'.Ns1 d (fun y=>if y=name then some v else none)→(∀ b o,b≠a→s.heap.get? b=some o→h'.get? b=some o)→Q () { s with heap:=h',toks:=tk }) :
  wpAny (model prog w) A (setAttr (.ref a) name v) Q E s:=by
 obtain ⟨oc,od,odt,osl⟩:=ox
 dsimp only at hc hdx hdt
 subst hc hdx hdt
 have J:InstAt s.heap a ⟨.ref C,none,.fields vs,osl⟩ C none:=⟨hx,rfl,rfl,trivial⟩
 refine set_plain X J e.sa (Xbj (s:={ s with toks:=s.toks + 1 }) X J e ht fun b=>?_)
 obtain ⟨cd,hcd,hd'⟩:=any_some e.hd
 refine wpAny_bind (wpAny_pure (wpAny_bind (wpAny_bind (wpAny_loadPart hx (wpAny_bind (Looks.here (s:={ s with toks:=s.toks + 1 }) (looks_clsIn X hcd) ?_))))))
 rw [hd',if_neg (by decide)]
 dsimp only
 rw [if_neg (by simp [typeHasDict])]
 have x1:(s.heap.push { cls:=.type "dict",data:=.dict #[] }).get? a=some ⟨.ref C,none,.fields vs,osl⟩:=Heap.get?_push_of_some _ hx
 have ns:a≠s.heap.objs.size:=Nat.ne_of_lt (Heap.lt_size hx)
 refine wpAny_bind (wpAny_alloc' (wpAny_bind (wpAny_update' x1 (wpAny_pure ?_))))
 have gd:((s.heap.push { cls:=.type "dict",data:=.dict #[] }).update a fun o=>{ cls:=o.cls,dict:=some s.heap.objs.size,data:=o.data,slots:=o.slots }).get? s.heap.objs.size=some { cls:=.type "dict",data:=.dict #[] } :=
  (Heap.get?_update_ne _ _ _ _ ns.symm).trans (Heap.get?_push_at rfl rfl)
 have nd:((s.heap.push { cls:=.type "dict",data:=.dict #[] }).update a fun o=>{ cls:=o.cls,dict:=some s.heap.objs.size,data:=o.data,slots:=o.slots }).Ns s.heap.objs.size (fun _=>none) :=
  ⟨_,#[],_,gd,rfl,fun e he=>absurd he (by simp),fun _=>rfl⟩
 show wpAny _ _ (storeInDict s.heap.objs.size (.str name s.toks) name v) _ _ _
 unfold storeInDict newKeyGuard
 refine wpAny_bind (wpAny_pure (wpAny_bind (wpAny_nsSet1 (Heap.Ns1.of_empty nd) fun h' hn hs=>?_)))
 obtain ⟨oD,esD,epD,hoD,hdD,hcD⟩:=hn.count (Within.cons name v Within.nil)
 refine wpAny_bind (wpAny_lookBehind hoD (by rw [hdD];exact pastItsLine_dict (Nat.le_trans hcD (by rw [List.length_cons,List.length_nil,sizeLine_eq];omega))) ?_)
 refine wpAny_pure (h h' s.heap.objs.size _ (Nat.le_refl _) ((hs.2 a ns).trans (Heap.get?_update_self _ x1 rfl)) hn fun b o nb q=>?_)
 exact (hs.2 b (Nat.ne_of_lt (Heap.lt_size q))).trans ((Heap.get?_update_ne _ _ _ _ nb).trans (Heap.get?_push_of_some _ q))
theorem xbt {Q:Unit→Shared→Prop} {d:Addr} {mA:Str→Option Value} {nms:List Str} (X:K.In s.heap) (hx:s.heap.get? a=some ox) (hc:ox.cls=.ref C) (hdx:ox.dict=some d) {vs:Array Value} (hdt:ox.data=.fields vs) (hn:s.heap.Ns1 d mA) (e:ExS K C) (ht:takerIn K C name=some none)
  (hw:Within mA nms) (hsz:nms.length + 1≤sizeLine) (h:∀ h' tk,Heap.SameBut d s.heap h'→h'.Ns1 d (fun y=>if y=name then some v else mA y)→Q () { s with heap:=h',toks:=tk }) :
  wpAny (model prog w) A (setAttr (.ref a) name v) Q E s:=by
 obtain ⟨oc,od,odt,osl⟩:=ox
 dsimp only at hc hdx hdt
 subst hc hdx hdt
 obtain ⟨odd,es,ep,e1,_⟩:=id hn
 have J:InstAt s.heap a ⟨.ref C,some d,.fields vs,osl⟩ C (some odd):=⟨hx,rfl,rfl,e1⟩
 refine set_plain X J e.sa (Xbj (s:={ s with toks:=s.toks + 1 }) X J e ht fun b=>?_)
 obtain ⟨cd,hcd,hd'⟩:=any_some e.hd
 refine wpAny_bind (wpAny_pure (wpAny_bind (wpAny_bind (wpAny_loadPart hx (wpAny_bind (Looks.here (s:={ s with toks:=s.toks + 1 }) (looks_clsIn X hcd) ?_))))))
 rw [hd',if_neg (by decide)]
 refine wpAny_pure ?_
 show wpAny _ _ (storeInDict d (.str name s.toks) name v) _ _ _
 unfold storeInDict newKeyGuard
 refine wpAny_bind (wpAny_pure (wpAny_bind (wpAny_nsSet1 (s:={ s with toks:=s.toks + 1 }) hn fun h' hn2 hs2=>?_)))
 obtain ⟨oD,esD,epD,hoD,hdD,hcD⟩:=hn2.count (Within.cons name v hw)
 refine wpAny_bind (wpAny_lookBehind hoD (by rw [hdD];exact pastItsLine_dict (Nat.le_trans hcD (by rw [List.length_cons];omega))) ?_)
 exact wpAny_pure (h h' _ hs2 hn2)
end
noncomputable def sXf (K:Frag) (ta tv:TE) (f:Str):TS:=fun D σ H=>tv σ H fun y H1=>ta σ H1 fun x H2=>∃ a C tr,x=.ref a∧ExS K C∧takerIn K C f=some none ∧
 ((H2 a=some (XO a C none tr)∧∀ d,H2 d=none→d≠a→D.nx σ (upd (upd H2 a (XO a C (some d) tr)) d (.xd [(f,y)]))) ∨
   ∃ d fs,H2 a=some (XO a C (some d) tr)∧H2 d=some (.xd fs)∧fs.length≤10∧D.nx σ (upd H2 d (.xd ((f,y) :: fs))))
section
variable {X:Cx} {pins:List (Addr×Obj)} {σ:St} {H:Hp} {s:Shared} {a C:Addr} {tr:Option Addr} {f:Str} {y:V} {u:Value}
theorem xa6 {fs:List (Str×V)} {mA:Str→Option Value} (r:∀ g,RelO (fs.lookup g) (mA g)) (ry:RelV y u):∀ g,RelO (((f,y) :: fs).lookup g) (if g=f then some u else mA g):=fun g=>by
 rw [List.lookup_cons]
 by_cases e:g=f
 ·subst e;rw [if_pos rfl,beq_self_eq_true];exact ry
 ·rw [if_neg e,show (g == f)=false from by simpa using e];exact r g
theorem Inv.xset0 {A:Around} {E:Value→Shared→Prop} {Q:Unit→Shared→Prop} (I:Inv X pins σ H s) (ea:H a=some (XO a C none tr)) (e:ExS X.K C) (ht:takerIn X.K C f=some none) (ry:RelV y u)
  (h:∀ s' d,H d=none→d≠a→Inv X pins σ (upd (upd H a (XO a C (some d) tr)) d (.xd [(f,y)])) s'→Q () s'):wpAny (model X.prog X.w) A (setAttr (.ref a) f u) Q E s:=by
 obtain ⟨ox,vs,hx,hc,hdx,hdt,h1⟩:=XO.of I.hok ea
 refine Ybt I.kIn hx hc hdx hdt e ht fun h' d tk hd g1 g2 kp=>?_
 have Hd:H d=none:=I.hok.fresh hd
 have da:d≠a:=fun z=>by rw [z,ea] at Hd;cases Hd
 refine h _ d Hd da ?_
 have Hb:∀ b o,b≠a→H b=some o→upd (upd H a (XO a C (some d) tr)) d (.xd [(f,y)]) b=some o:=fun b o n q=>by rw [Yae (fun z=>by rw [z,Hd] at q;cases q),Yae n];exact q
 have tne:∀ b o,H b=some o→(∀ φ,o≠.ext φ)→b≠a:=fun b o q n z=>by rw [z,ea] at q;cases q;exact n _ rfl
 have low:∀ b o,s.heap.get? b=some o→b≠d:=fun b o q=>Nat.ne_of_lt (Nat.lt_of_lt_of_le (Heap.lt_size q) hd)
 refine I.call (ch:=[]) ⟨fun b o q n _ _=>kp b o (fun z=>by rw [z,ea] at n;cases n) q,fun b o q n _ _=>⟨o.slots,kp b o (fun z=>by rw [z,ea] at n;cases n) q⟩,fun b o q n _=>?_,fun b o q _=>?_,
  fun b xs q=>Hb b _ (tne b _ q fun φ z=>by cases z) q,fun b o v q=>Hb b _ (tne b _ q fun φ z=>by cases z) q,fun b ps q=>⟨#[],by rw [Array.append_empty];exact Hb b _ (tne b _ q fun φ z=>by cases z) q⟩⟩ ?_ I.bare fun b z=>absurd z (by simp)
 ·rw [Yae (low b o q),Yae (fun z=>by rw [z,ea] at n;cases n)];exact n
 ·by_cases z:b=a
  ·subst z;exact ⟨_,g1⟩
  ·exact ⟨o,kp b o z q⟩
 ·intro b o q
  by_cases z:b=d
  ·subst z;rw [yag] at q;cases q
   exact ⟨_,g2,xa6 (fs:=[]) (fun g=>trivial) ry⟩
  ·rw [Yae z] at q
   by_cases z2:b=a
   ·subst z2;rw [yag] at q;cases q
    exact XO.ok ⟨_,vs,g1,hc,rfl,hdt,h1⟩
   ·rw [Yae z2] at q
    refine (I.hok b o q).stay (fun c w' hc' r=>kp c w' ?_ r) (fun c r=>Hb c _ (tne c _ r fun φ z=>by cases z) r) fun c xs r=>Hb c _ (tne c _ r fun φ z=>by cases z) r
    rcases hc' with rfl | hc'
    ·exact z2
    ·exact tne c _ hc' fun φ z=>by cases z
theorem Inv.xset1 {A:Around} {E:Value→Shared→Prop} {Q:Unit→Shared→Prop} {d:Addr} {fs:List (Str×V)} (I:Inv X pins σ H s) (ea:H a=some (XO a C (some d) tr)) (ed:H d=some (.xd fs)) (hl:fs.length≤10) (e:ExS X.K C) (ht:takerIn X.K C f=some none) (ry:RelV y u)
  (h:∀ s',Inv X pins σ (upd H d (.xd ((f,y) :: fs))) s'→Q () s'):wpAny (model X.prog X.w) A (setAttr (.ref a) f u) Q E s:=by
 obtain ⟨ox,vs,hx,hc,hdx,hdt,h1⟩:=XO.of I.hok ea
 obtain ⟨mA,hn,rf⟩:=(show ObjOk X.prog X.w H s.heap d (.xd fs) from I.hok d _ ed)
 have wi:Within mA (fs.map (·.1)):=fun g hg=>by
  cases q:fs.lookup g with
  | some v =>
   have:=PySem.mem_of_lookup q
   exact List.mem_map.mpr ⟨(g,v),this,rfl⟩
  | none =>
   have z:=rf g
   rw [q] at z
   cases m:mA g with
   | none=>exact absurd m hg
   | some w=>rw [m] at z;exact z.elim
 refine xbt I.kIn hx hc hdx hdt hn e ht wi (by rw [List.length_map,sizeLine_eq];omega) fun h' tk sb hn2=>h _ ?_
 have kp:∀ b o,b≠d→s.heap.get? b=some o→h'.get? b=some o:=fun b o n q=>(sb.2 b n).trans q
 have nd:∀ b o,H b=some o→(∀ ws,o≠.xd ws)→b≠d:=fun b o q n z=>by rw [z,ed] at q;cases q;exact n _ rfl
 have Hb:∀ b o,H b=some o→(∀ ws,o≠.xd ws)→upd H d (.xd ((f,y) :: fs)) b=some o:=fun b o q n=>by rw [Yae (nd b o q n)];exact q
 obtain ⟨od,es,ep,gd,_⟩:=id hn2
 refine I.call (ch:=[]) ⟨fun b o q n _ _=>kp b o (fun z=>by rw [z,ed] at n;cases n) q,fun b o q n _ _=>⟨o.slots,kp b o (fun z=>by rw [z,ed] at n;cases n) q⟩,fun b o q n _=>by rw [Yae (fun z=>by rw [z,ed] at n;cases n)];exact n,fun b o q _=>?_,
  fun b xs q=>Hb b _ q (fun ws z=>by cases z),fun b o v q=>Hb b _ q (fun ws z=>by cases z),fun b ps q=>⟨#[],by rw [Array.append_empty];exact Hb b _ q (fun ws z=>by cases z)⟩⟩ ?_ I.bare fun b z=>absurd z (by simp)
 ·by_cases z:b=d
  ·subst z;exact ⟨_,gd⟩
  ·exact ⟨o,kp b o z q⟩
 ·intro b o q
  by_cases z:b=d
  ·subst z;rw [yag] at q;cases q
   exact ⟨_,hn2,xa6 rf ry⟩
  ·rw [Yae z] at q
   refine (I.hok b o q).stay (fun c w' hc' r=>kp c w' ?_ r) (fun c r=>Hb c _ r fun ws z=>by cases z) fun c xs r=>Hb c _ r fun ws z=>by cases z
   rcases hc' with rfl | hc'
   ·exact z
   ·exact nd c _ hc' fun ws z=>by cases z
variable {o value:Expr} {ta tv:TE} {pos pos':Pos}
theorem zbk (ha:PE X o ta) (hv:PE X value tv) (hs:swapsWith value (some (.Attribute o f pos')) pos.line X.env=pure false):PS X (.Assign [.Attribute o f pos'] value pos) (sXf X.K ta tv f):=by
 intro pins s σ H D I h
 refine plainObj_wpAny_Assign_Attribute (thn (hv pins s σ H _ I h) fun u s1 ⟨y,H1,I1,ry,q⟩=>thn (ha pins s1 σ H1 _ I1 q) fun ov s2 ⟨x,H2,I2,rx,a,C,tr,ex,e,ht,q2⟩=>?_) hs
 subst ex
 obtain rfl:ov=Value.ref a:=rx
 rcases q2 with ⟨ea,q2⟩ | ⟨d,fs,ea,ed,hl,q2⟩
 ·exact I2.xset0 ea e ht ry fun s3 d h1 h2 I3=>⟨σ,_,I3,q2 d h1 h2⟩
 ·exact I2.xset1 ea ed hl e ht ry fun s3 I3=>⟨σ,_,I3,q2⟩
end
end L2
namespace L2
open PySem PySem.Spec PyProof.Rows PySem.W
noncomputable def excInI (K:Frag) (C:Addr) (bmB:List Value) (newId:String) (f:Addr):Bool:=match K.lookup C with
 | some ⟨.type "type",_,.cls cd,sl⟩=>(match cd.mro,sl.toList with
  | .ref C' :: bm,[_,_,_,_,some (.builtin n),_]=>C' == C && n == newId && !cd.hasDel && tailIn K bmB bm && nsOkIn K cd.ns && nsIn K cd.ns "__init__" == some (some (.ref f))
  | _,_=>false)
 | _=>false
theorem zbF {K:Frag} {h:Heap} {N:Addr} {mN:Str→Option Value} {n:Str} {v:Value} (X:K.In h) (G:h.Ns N mN) (e:nsIn K N n=some (some v)):mN n=some v:=by
 obtain ⟨o,es,ep,ho,hd,_,hf⟩:=G
 unfold nsIn at e
 split at e
 ·next c d es' n' sl q =>
  have z:=X _ _ q
  rw [ho] at z
  cases z
  cases hd
  split at e
  ·next en he =>
   cases e
   rw [← hf]
   unfold nsFind findBy
   rw [← Array.find?_toList,he]
   rfl
  ·split at e <;> cases e
 ·cases e
theorem Xbt {K:Frag} {h:Heap} {C f:Addr} {bmB:List Value} {newId:String} (X:K.In h) (q:excInI K C bmB newId f=true) :
  ∃ bm N nm qn bs hdct sn sub ab col dd k0 k1 k2 k3 k5 mN,h.get? C=some (excClassObj nm qn C N bs bm hdct sn sub ab col dd k0 k1 k2 k3 k5 newId)∧h.Ns N mN∧mN "__init__" = some (.ref f)∧OwnTail h bmB bm:=by
 unfold excInI at q
 split at q
 ·next dd cd sl ho =>
  split at q
  ·next C' bm k0 k1 k2 k3 n k5 hm hs =>
   simp only [Bool.and_eq_true,beq_iff_eq,Bool.not_eq_true'] at q
   obtain ⟨⟨⟨⟨⟨e1,e2⟩,e3⟩,e4⟩,e5⟩,e6⟩:=q
   subst e1 e2
   obtain ⟨nm,bs,mro,ns,qn,hd,sn,sub,ab,col,del⟩:=cd
   obtain ⟨l⟩:=sl
   dsimp only at hm hs e3 e5 e6
   subst hm e3 hs
   have G:h.Ns ns (h.nsMap ns):=.of_isNs (isNs_of_in X e5)
   exact ⟨bm,ns,nm,qn,bs,hd,sn,sub,ab,col,dd,k0,k1,k2,k3,k5,_,X _ _ ho,G,zbF X G e6,tail_of_in X e4⟩
  ·cases q
 ·cases q
section
variable {prog:Program} {w:World} {A:Around} {E:Value→Shared→Prop} {h:Heap} {g:Array GenState} {d:Drawn} {t:Nat} {os:OsState}
variable {nm q:Str} {C N:Addr} {bs bm bmB:List Value} {hdct:Bool} {sn:List Str} {sub:List Value} {ab:Bool} {col:Option Bool} {dd:Option Addr} {k0 k1 k2 k3 k5:Option Value} {B newId initId:String}
theorem ybk (F:ExcBaseFacts B newId initId bmB) (T:OwnTail h bmB bm) {mN:Str→Option Value} {rest:List Value} {f:Addr} {oI:Obj} {Q:PySem.Fin→Shared→Prop}
  (hC:h.get? C=some (excClassObj nm q C N bs bm hdct sn sub ab col dd k0 k1 k2 k3 k5 newId)) (hn:h.Ns N mN) (hi:mN "__init__" = some (.ref f)) (hf:h.get? f=some oI) (hfc:oI.cls=.type "function")
  (hq:∀ h' e,Heap.MadeExcOf h h' e (.ref C) rest→wpAny (model prog w) A (call (.ref f) (.ref e :: rest)) (fun r s'=>r=.none∧Q (.done (.ret (.ref e))) s') E ⟨h',g,d,t,os⟩) (hrest:rest.length≤sizeLine) :
  wpAny (model prog w) A (Builtin.«type.__call__» ⟨.ref C :: rest,[]⟩) Q E ⟨h,g,d,t,os⟩:=by
 repeat (first | with_reducible refine wpAny_loadPart_at hC ?_ | with_reducible refine wpAny_madeBy_exc hC ?_ | wp_step)
 refine codeAny_call_builtin_code (Code.quiet_builtin _ F.quiet) (wpAny_check_new_subT F T hC (codeAny_exc_new_subT F T hC ?_ hrest))
 show wpAny _ _ _ _ _ _
 generalize e1:({ cls:=.type "tuple",data:=.seq rest.toArray }:Obj)=o1
 generalize e2:({ cls:=.ref C,data:=.fields #[.ref h.objs.size,.none,.none,.none,.bool false,.none] }:Obj)=o2
 have f1:o1.isFreed=false:=by rw [← e1];rfl
 have f2:o2.isFreed=false:=by rw [← e2];rfl
 have kp:∀ b o,h.get? b=some o→((h.push o1).push o2).get? b=some o:=fun b o z=>Heap.get?_push_of_some _ (Heap.get?_push_of_some _ z)
 have gE:((h.push o1).push o2).get? (h.objs.size + 1)=some o2:=Heap.get?_push_at (by simp only [Heap.size_push]) f2
 have gE':((h.push o1).push o2).get? (h.objs.size + 1)=some { cls:=.ref C,data:=.fields #[.ref h.objs.size,.none,.none,.none,.bool false,.none] }:=by rw [gE,← e2]
 have cC:(Value.ref C :: bm).contains (.ref C)=true:=by simp
 have hC1:=kp _ _ hC
 have hn1:((h.push o1).push o2).Ns N mN:=hn.keeps kp
 have T1:=T.keeps kp
 unfold isInstance
 repeat (first | with_reducible refine wpAny_loadPart_at gE' ?_ | (with_reducible refine wpAny_isSubtype_exc hC1 ?_;rw [cC]) | wp_step)
 show wpAny _ _ (typeLookup (.ref C) _) _ _ _
 refine wpAny_typeLookup_tail hC1 hn1 T1 F.mroIs F.init.lookup ?_
 rw [hi]
 refine wpAny_holding (wpAny_bind ?_)
 unfold bindSpecial
 refine wpAny_bind (wpAny_typeOf (T:="function") ⟨_,kp _ _ hf,hfc⟩ ?_)
 rw [if_pos (by decide)]
 refine wpAny_pure (wpAny_bind (wpAny_mono (hq _ (h.objs.size + 1) ⟨kp,Heap.get?_none_of_le (Nat.le_succ _),h.objs.size,gE',Heap.get?_none_of_le (Nat.le_refl _),?_⟩) (fun r s' hr=>?_) fun _ _ x=>x))
 ·rw [Heap.get?_push_of_some o2 (Heap.get?_push_at rfl f1),e1]
 ·obtain ⟨rfl,hQ⟩:=hr
  wp_walk
  exact hQ
theorem zbu (F:ExcBaseFacts B newId initId bmB) (T:OwnTail h bmB bm) {mN:Str→Option Value} {rest:List Value} {f:Addr} {oI:Obj} {Q:Value→Shared→Prop}
  (hC:h.get? C=some (excClassObj nm q C N bs bm hdct sn sub ab col dd k0 k1 k2 k3 k5 newId)) (hn:h.Ns N mN) (hi:mN "__init__" = some (.ref f)) (hf:h.get? f=some oI) (hfc:oI.cls=.type "function")
  (hq:∀ h' e,Heap.MadeExcOf h h' e (.ref C) rest→wpAny (model prog w) (A.under (.builtin "type.__call__" ⟨.ref C :: rest,[]⟩)) (call (.ref f) (.ref e :: rest)) (fun r s'=>r=.none∧Q (.ref e) s') E ⟨h',g,d,t,os⟩) (hrest:rest.length≤sizeLine) :
  wpAny (model prog w) A (call (.ref C) rest) Q E ⟨h,g,d,t,os⟩:=by
 have f1:=tc_lookup
 have f2:=tc_bind (.ref C)
 have hT:(⟨h,g,d,t,os⟩:Shared).TypeIs (.ref C) "type" := ⟨_,hC,rfl⟩
 refine wpAny_call (codeAny_of_tree ?_)
 show wpAny _ _ (callAny (.ref C) _) _ _ _
 repeat (any_goals (first | assumption | with_reducible refine wpAny_loadPart_at hC ?_ | wp_step))
 refine ⟨rfl,?_⟩
 exact codeAny_call_builtin_at (Code.quiet_builtin _ (by decide +kernel)) entry_typeCall (wpAny_check_type_call_sub hC (ybk F T hC hn hi hf hfc (fun h' e hm=>hq h' e hm) hrest))
end
theorem ZaZ {M:Model} {A:Around} {E:Value→Shared→Prop} {env:Env} {s:Shared} {x:Sem Value} {K:Frag} {Q:Flow→Shared→Prop} (hh:A.handled=none)
  (h:wpAny M A x (fun v s1=>∃ e C dx vs sl,v=.ref e∧K.In s1.heap∧s1.heap.get? e=some ⟨.ref C,dx,.fields vs,sl⟩∧vs[1]?=some .none∧mroIn K C (.type "BaseException")=some true∧typeIn K (.ref C)=some (.type "type")∧E (.ref e) s1) E s) :
  wpAny M A (raiseStmt env (some x) none) Q E s:=by
 unfold raiseStmt
 refine wpAny_bind (wpAny_mono h (fun v s1 h1=>?_) fun _ _ z=>z)
 obtain ⟨e,C,dx,vs,sl,rfl,X,he,h1,hm,ht,hE⟩:=h1
 obtain ⟨oC,lC,cC⟩:=Option.map_eq_some_iff.mp (show (K.lookup C).map (·.cls)=some (.type "type") from ht)
 have gC:=X _ _ lC
 have LB:=looks_mroIn (M:=M) X hm
 obtain ⟨hp,g,d,tk,os⟩:=s1
 repeat (first | with_reducible refine wpAny_loadPart_at he ?_ | (with_reducible refine wpAny_loadPart_at gC ?_;rw [cC]) | with_reducible refine LB.at ?_ | with_reducible refine wpAny_field he rfl h1 ?_ | wp_step)
 exact wpAny_raiseNew_none hh hE
structure ExM (K:Frag) (mg:Str→Option Value) (x:Str) (C f:Addr) (bmB:List Value) (newId:String):Prop where
 m:mg x=some (.ref C)
 k:excInI K C bmB newId f=true
 fn:isFn K (.ref f)=true
 kp:keepIn K (.ref C)=true
noncomputable def tXMake (C:Addr) (sp:Sp) (t:TA):TE:=fun σ H Q=>t σ H fun vs H1=>vs.length≤10∧∀ a,H1 a=none→sp (.ref a :: vs) (upd H1 a (XO a C none none)) (fun v H2=>v=.non∧Q (.ref a) H2) E0
section
variable {X:Cx} {k:Nat} {f C:Addr} {fd:FuncData} {ps:List Str} {sp:Sp} {x:Str} {p pos:Pos} {e:Expr} {es:List Expr} {t:TA} {B newId initId:String} {bmB:List Value}
theorem Zbk {pins:List (Addr×Obj)} {σ:St} {H:Hp} {s:Shared} {Q:VK} {us:List Value} {vs:List V} (FB:ExcBaseFacts B newId initId bmB) (M:ExM X.K X.mg x C f bmB newId) (F:FnOk X.prog X.w X.K X.mg X.base CX0 k f fd ps sp) (hr:Room (k + 1) X.A) (hb:Binds X.K fd ps [])
  (I:Inv X pins σ H s) (r:Vals vs us) (hl:vs.length≤10) (h:∀ a,H a=none→sp (.ref a :: vs) (upd H a (XO a C none none)) (fun v H2=>v=.non∧Q (.ref a) H2) E0) :
  wpAny (model X.prog X.w) X.A (call (.ref C) us) (EP X pins σ Q) X.xe s:=by
 obtain ⟨bm,NN,nm,qn,bs,hdct,sn,sub,ab,col,dd,k0,k1,k2,k3,k5,mN,hC,hN,hni,T⟩:=Xbt I.kIn M.k
 obtain ⟨oI,lI,cI⟩:=Option.map_eq_some_iff.mp (show (X.K.lookup f).map (·.cls)=some (.type "function") from beq_iff_eq.mp M.fn)
 obtain ⟨hp,g,d,tk,os⟩:=s
 refine zbu FB T hC hN hni (I.kIn _ _ lI) cI (fun h' a hm=>?_) (by rw [← r.length,sizeLine_eq];omega)
 obtain ⟨t0,ht,_,_⟩:=hm.there
 have I2:=I.lay1 (o:=XO a C none none) hm.keeps hm.new (XO.ok ⟨_,_,ht,rfl,rfl,rfl,rfl⟩)
 have hq:=h a (I.hok.none_of hm.new)
 have r2:Vals (V.ref a :: vs) (Value.ref a :: us):=.cons rfl r
 have hl2:(Value.ref a :: us).length=ps.length:=by rw [← r2.length];exact F.len _ _ _ _ hq
 have hbd:=hb _ (Value.ref a :: us) I2.kIn (by rw [List.append_nil];exact hl2)
 rw [List.append_nil] at hbd
 refine wpAny_call (codeAny_mono (F.run _ X.stack _ _ ⟨Value.ref a :: us,[]⟩ (Value.ref a :: us) _ _ E0 (hr.make C us []) (I2.env0.make C us []) hbd r2 hq) fun r s' hq'=>?_)
 cases r with
 | error e=>exact hq'.elim
 | ok fl =>
  cases fl with
  | ret u =>
   obtain ⟨v,H',I3,rv,ev,q3⟩:=I2.after hq'
   subst ev
   exact ⟨rv,V.ref a,H',I3,rfl,q3⟩
  | next=>exact False.elim hq'
  | brk=>exact False.elim hq'
  | cont=>exact False.elim hq'
theorem YaU (FB:ExcBaseFacts B newId initId bmB) (M:ExM X.K X.mg x C f bmB newId) (F:FnOk X.prog X.w X.K X.mg X.base CX0 k f fd ps sp) (hr:Room (k + 1) X.A) (hg:Gl X x) (hb:Binds X.K fd ps [])
  (ha:PA X (e :: es) t) (hdb:(x == ("__debug__" : Str))=false:=by decide) (he:starEach (e :: es) X.env=(false,eval e X.env) :: starEach es X.env:=by rfl) (hpl:(backTo pos (starEach es X.env)).any (·.1)=false:=by rfl) :
  PE X (.Call (.Name x p) (e :: es) [] pos) (tXMake C sp t):=by
 intro pins s σ H Q I h
 refine wpAny_Call_Name_kw (YaK I hg M.m ?_ hdb)
 refine callWith_K (h₀:=X.base) I.ok.mod.kin M.kp (thn (ha pos pins s σ H _ I h) fun us s1 ⟨vs,H1,I1,r,hl,q⟩=>⟨I1.kIn,?_⟩) he hpl
 exact Zbk FB M F hr hb I1 r hl q
end
noncomputable def tRaiseE (K:Frag) (te:TE) (E:XK):TS:=fun _ σ H=>te σ H fun v H1=>∃ a C dx,v=.ref a∧H1 a=some (XO a C dx none)∧mroIn K C (.type "BaseException")=some true∧typeIn K (.ref C)=some (.type "type")∧∀ H2,XS a H1 H2→E (.ref a) none H2
section
variable {P:Program} {w:World} {K:Frag} {mg:Str→Option Value} {base:Heap} {N:List Str} {qual:Str} {scope:Scope} {f:Addr} {cd:Value} {A:Around} {outer:List Env} {s0:Shared} {H0:Hp} {E:XK}
theorem ZaM {ex:Expr} {te:TE} {pos:Pos} (he:PE (cxOf (CXE P w) P w K mg base N qual scope f cd A outer s0 H0 E) ex te) :
  PS (cxOf (CXE P w) P w K mg base N qual scope f cd A outer s0 H0 E) (.Raise (some ex) none pos) (tRaiseE K te E):=by
 intro pins s σ H D I h
 rw [arm_exec_Raise]
 first
  | refine wpAny_bind (wpAny_standAt (ZaZ (K:=K) (I.ok.hd rfl) (wpAny_bind (wpAny_mono (he pins s σ H _ I h) (fun v s3 h3=>wpAny_bind (wpAny_standAt (wpAny_pure ?_))) fun _ _ x=>x))))
  | (simp only [evalOpt,Option.map];refine wpAny_bind (wpAny_standAt (ZaZ (K:=K) (I.ok.hd rfl) (wpAny_bind (wpAny_mono (he pins s σ H _ I h) (fun v s3 h3=>wpAny_bind (wpAny_standAt (wpAny_pure ?_))) fun _ _ x=>x)))))
 obtain ⟨y,H1,I1,ry,a,C,dx,rfl,ea,hm,ht,q⟩:=h3
 obtain rfl:v=Value.ref a:=ry
 obtain ⟨oe,vs,g1,g2,g3,g4,g5⟩:=XO.of I1.hok ea
 obtain ⟨c0,d0,dt0,sl0⟩:=oe
 dsimp only at g2 g3 g4
 subst g2 g3 g4
 exact ⟨a,C,d0,vs,sl0,rfl,I1.kIn,g1,g5,hm,ht,leave I1 ⟨none,ea,fun T z=>by cases z⟩ q⟩
end
end L2
namespace L2
open PySem PySem.Spec PyProof.Rows PySem.W
noncomputable def tXg (K:Frag) (te:TE) (f:Str):TE:=fun σ H Q=>te σ H fun x H1=>∃ a C d tr fs v,x=.ref a∧H1 a=some (XO a C (some d) tr)∧H1 d=some (.xd fs)∧fs.lookup f=some v∧ExI K C∧findIn K (.ref C) f=some none∧Q v H1
section
variable {X:Cx} {e:Expr} {te:TE} {f:Str} {pos:Pos}
theorem Ybk (he:PE X e te) (hb:attributeBase e f X.env (eval e X.env)=eval e X.env):PE X (.Attribute e f pos) (tXg X.K te f):=by
 intro pins s σ H Q I h
 refine XbD hb (thn (he pins s σ H _ I h) fun u s1 ⟨x,H1,I1,rx,a,C,d,tr,fs,v,ex,ea,ed,l,ei,n,q⟩=>?_)
 subst ex
 obtain rfl:u=Value.ref a:=rx
 obtain ⟨ox,vs,hx,hc,hdx,hdt,_⟩:=XO.of I1.hok ea
 obtain ⟨mA,hn,rf⟩:=(show ObjOk X.prog X.w H1 s1.heap d (.xd fs) from I1.hok d _ ed)
 obtain ⟨w',hw,rw'⟩:=RelO.some_of (v:=v) (o:=mA f) (by rw [← l];exact rf f)
 obtain ⟨od,ho,hl⟩:=Ybg hn
 have J:InstAt s1.heap a ox C (some od):=⟨hx,hc,by unfold notCls;rw [hdt],by rw [hdx];exact ho⟩
 exact ybt I1.kIn J ei (findObj_own ei.hd n rfl (by rw [hl,hw])) (handedOut_of (xbg rw')) ⟨v,H1,I1.tok _,rw',q⟩
end
noncomputable def spI2 (K:Frag) (f1 f2:Str):Sp:=fun vs H Q _=>∃ a C tr v1 v2,vs=[.ref a,v1,v2]∧H a=some (XO a C none tr)∧ExS K C∧takerIn K C f1=some none∧takerIn K C f2=some none ∧
 ∀ d,H d=none→d≠a→Q .non (upd (upd H a (XO a C (some d) tr)) d (.xd [(f2,v2),(f1,v1)]))
theorem ybu {K:Frag} {f1 f2:Str} {vs:List V} {H:Hp} {Q:VK} {E:XK} (h:spI2 K f1 f2 vs H Q E):vs.length=3:=by obtain ⟨_,_,_,_,_,rfl,_⟩:=h;rfl
theorem Xbb {K:Frag} {f1 f2 p0 p1 p2:Str} {vs:List V} {H:Hp} {Q:VK} {E:XK} (h:spI2 K f1 f2 vs H Q E) :
  tSeq (sXf K (tVar 0) (tVar 1) f1) (sXf K (tVar 0) (tVar 2) f2) { nx:=fun _ H'=>Q .non H',rt:=Q } (start [p0,p1,p2] vs) H:=by
 obtain ⟨a,C,tr,v1,v2,rfl,ea,es,t1,t2,q⟩:=h
 refine ⟨v1,rfl,.ref a,rfl,a,C,tr,rfl,es,t1,.inl ⟨ea,fun d hd da=>?_⟩⟩
 refine ⟨v2,rfl,.ref a,rfl,a,C,tr,rfl,es,t2,.inr ⟨d,[(f1,v1)],by rw [Yae (Ne.symm da),yag],yag,(show 1≤10 by decide),?_⟩⟩
 show Q .non _
 rw [Xbd]
 exact q d hd da
theorem ybF {K:Frag} {x qual:Str} {st:Stmt} {ps:List Str} {f:Addr} {oc:Value} {od an:Option Addr} {osl:Array (Option Value)} {kV doc pm cdv ct:Value}
  (hb:∀ (kV doc pm:Value) (an:Option Addr) (cdv ct:Value) (us:List Value),us.length=ps.length→bindArgs (fnOf x qual (defArgs st) (defBody st) (defScope st) .none kV doc pm an cdv ct) ⟨us,[]⟩=pure (ps.zip us))
  (l:K.lookup f=some ⟨oc,od,.func (fnOf x qual (defArgs st) (defBody st) (defScope st) .none kV doc pm an cdv ct),osl⟩) (c:codeIn K cdv qual=true) (k:keepIn K (.ref f)=true):∃ fd,Fun K x qual st f fd∧Binds K fd ps [] :=
 ⟨_,XbA l c k,.all (hb kV doc pm an cdv ct)⟩
end L2
namespace Mth
noncomputable def upto (n:Nat):List Int:=(List.range n).map fun (k:Nat)=>(k:Int)
theorem zao (n:Nat):(upto n).length=n:=by simp [upto]
theorem XaF {n:Nat} {x:Int}:x∈upto n↔0≤x∧x < (n:Int):=by
 simp only [upto,List.mem_map,List.mem_range]
 constructor
 ·rintro ⟨k,hk,rfl⟩;omega
 ·rintro ⟨h1,h2⟩;exact ⟨x.toNat,by omega,by omega⟩
theorem xaU (n:Nat):(upto n).Pairwise (· < ·):=by
 unfold upto
 rw [List.pairwise_map]
 exact (List.pairwise_lt_range).imp fun h=>by omega
theorem zbc (n:Nat):(upto n).Nodup:=(xaU n).imp fun h=>by omega
theorem YaM:∀ {xs ys:List Int},xs.Nodup→(∀ x∈xs,x∈ys)→ys.length≤xs.length→xs.Perm ys
 | [],ys,_,_,h=>by
  have:ys=[]:=List.eq_nil_of_length_eq_zero (by simpa using h)
  subst this;exact List.Perm.refl _
 | x :: xs,ys,hn,hs,hl=>by
  obtain ⟨h1,h2⟩:=List.nodup_cons.mp hn
  have hx:x∈ys:=hs x List.mem_cons_self
  have hp:=List.perm_cons_erase hx
  have hlen:(ys.erase x).length + 1=ys.length:=by have:=hp.length_eq;simpa using this.symm
  refine List.Perm.trans (List.Perm.cons x (YaM (ys:=ys.erase x) h2 (fun y hy=>?_) ?_)) hp.symm
  ·have hne:y≠x:=fun e=>h1 (e ▸ hy)
   exact (List.mem_erase_of_ne hne).mpr (hs y (List.mem_cons_of_mem _ hy))
  ·simp at hl;omega
theorem YaZ {xs:List Int} (hn:xs.Nodup) (hb:∀ x∈xs,0≤x∧x < (xs.length:Int)):xs.Perm (upto xs.length):=by
 exact YaM hn (fun x hx=>XaF.mpr (hb x hx)) (by rw [zao];exact Nat.le_refl _)
end Mth
namespace Mth
noncomputable def app (xs:List Int) (i:Int):Int:=xs.getD i.toNat 0
noncomputable def itr (xs:List Int) (i:Int):Nat→Int
 | 0=>i
 | j + 1=>app xs (itr xs i j)
noncomputable def Tn (n:Nat) (xs:List Int):Prop:=xs.Perm (upto n)
theorem Tn.length {n:Nat} {xs:List Int} (h:Tn n xs):xs.length=n:=by rw [h.length_eq,zao]
theorem Tn.nodup {n:Nat} {xs:List Int} (h:Tn n xs):xs.Nodup:=h.nodup_iff.mpr (zbc n)
theorem Tn.bound {n:Nat} {xs:List Int} (h:Tn n xs) {x:Int} (hx:x∈xs):0≤x∧x < (n:Int):=XaF.mp (h.subset hx)
theorem ZaA {xs:List Int} {i:Int} (h0:0≤i) (h1:i < (xs.length:Int)):xs[i.toNat]?=some (app xs i):=by
 have:i.toNat < xs.length:=by omega
 unfold app
 rw [List.getD_eq_getElem?_getD,List.getElem?_eq_getElem this];rfl
theorem ZbF {xs:List Int} {i:Int} (h0:0≤i) (h1:i < (xs.length:Int)):app xs i∈xs:=List.mem_of_getElem? (ZaA h0 h1)
theorem Tn.app {n:Nat} {xs:List Int} (h:Tn n xs) {i:Int} (h0:0≤i) (h1:i < (n:Int)):0≤app xs i∧app xs i < (n:Int):=h.bound (ZbF h0 (by rw [h.length];exact h1))
theorem Tn.inj {n:Nat} {xs:List Int} (h:Tn n xs) {i j:Int} (i0:0≤i) (i1:i < (n:Int)) (j0:0≤j) (j1:j < (n:Int)) (e:Mth.app xs i=Mth.app xs j):i=j:=by
 have hl:=h.length
 have a:=ZaA i0 (by rw [hl];exact i1)
 have b:=ZaA j0 (by rw [hl];exact j1)
 rw [e] at a
 obtain ⟨ha,ea⟩:=List.getElem?_eq_some_iff.mp a
 obtain ⟨hb,eb⟩:=List.getElem?_eq_some_iff.mp b
 have:=(List.getElem_inj h.nodup).mp (ea.trans eb.symm)
 omega
theorem Tn.itr {n:Nat} {xs:List Int} (h:Tn n xs) {i:Int} (h0:0≤i) (h1:i < (n:Int)):∀ j,0≤itr xs i j∧itr xs i j < (n:Int)
 | 0=>⟨h0,h1⟩
 | j + 1=>h.app (h.itr h0 h1 j).1 (h.itr h0 h1 j).2
theorem Tn.back {n:Nat} {xs:List Int} (h:Tn n xs) {i:Int} (h0:0≤i) (h1:i < (n:Int)):∀ (a d:Nat),Mth.itr xs i a=Mth.itr xs i (a + d)→Mth.itr xs i d=i
 | 0,d,e=>by rw [Nat.zero_add] at e;exact e.symm
 | a + 1,d,e=>by
  have e':Mth.app xs (Mth.itr xs i a)=Mth.app xs (Mth.itr xs i (a + d)):=by
   have:a + 1 + d=(a + d) + 1:=by omega
   rw [this] at e
   exact e
  exact h.back h0 h1 a d (h.inj (h.itr h0 h1 a).1 (h.itr h0 h1 a).2 (h.itr h0 h1 _).1 (h.itr h0 h1 _).2 e')
theorem xaM:∀ {xs ys:List Int},xs.Nodup→(∀ x∈xs,x∈ys)→xs.length≤ys.length
 | [],_,_,_=>Nat.zero_le _
 | x :: xs,ys,hn,hs=>by
  obtain ⟨h1,h2⟩:=List.nodup_cons.mp hn
  have hx:x∈ys:=hs x List.mem_cons_self
  have hp:=List.perm_cons_erase hx
  have hlen:(ys.erase x).length + 1=ys.length:=by have:=hp.length_eq;simpa using this.symm
  have:=xaM (ys:=ys.erase x) h2 fun y hy=>(List.mem_erase_of_ne (a:=y) (b:=x) (fun e=>h1 (by rw [← e];exact hy))).mpr (hs y (List.mem_cons_of_mem _ hy))
  simp only [List.length_cons]
  omega
noncomputable def row (xs:List Int) (i:Int) (m:Nat):List Int:=(List.range (m + 1)).map (itr xs i)
theorem ybc (xs:List Int) (i:Int) (m:Nat):(row xs i m).length=m + 1:=by simp [row]
theorem YbF {xs:List Int} {i:Int} {m:Nat} {x:Int}:x∈row xs i m↔∃ j,j≤m∧itr xs i j=x:=by
 unfold row
 rw [List.mem_map]
 constructor
 ·rintro ⟨j,hj,e⟩;exact ⟨j,by have:=List.mem_range.mp hj;omega,e⟩
 ·rintro ⟨j,hj,e⟩;exact ⟨j,List.mem_range.mpr (by omega),e⟩
noncomputable def NB (xs:List Int) (i:Int) (m:Nat):Prop:=∀ j,1≤j→j≤m→itr xs i j≠i
theorem Tn.row_le {n:Nat} {xs:List Int} (h:Tn n xs) {i:Int} (h0:0≤i) (h1:i < (n:Int)) {m:Nat} (nb:NB xs i m):m + 1≤n:=by
 have hn:(row xs i m).Nodup:=by
  unfold row List.Nodup
  rw [List.pairwise_map]
  refine List.Pairwise.imp_of_mem (R:=fun a b=>a < b) ?_ List.pairwise_lt_range
  intro a b ha hb hab e
  have ha':=List.mem_range.mp ha
  have hb':=List.mem_range.mp hb
  obtain ⟨d,rfl⟩:∃ d,b=a + d:=⟨b - a,by omega⟩
  exact nb d (by omega) (by omega) (h.back h0 h1 a d e)
 have:=xaM hn (ys:=upto n) fun x hx=>by
  obtain ⟨j,_,rfl⟩:=YbF.mp hx
  exact XaF.mpr (h.itr h0 h1 j)
 rw [ybc,zao] at this
 exact this
noncomputable def form1 (n:Nat):List Int:=((List.range (n - 1)).map fun (k:Nat)=>(1:Int) + k) ++ [0]
theorem Zbu:∀ n,n < 21→0 < n→(form1 n).isPerm (upto n)=true:=by decide
theorem Xa6 {n:Nat} (h:n < 21) (h0:0 < n):Tn n (form1 n):=List.isPerm_iff.mp (Zbu n h h0)
end Mth
namespace Mth
theorem XaM (xs:List Int) (i:Int) (j:Nat):∀ d,itr xs (itr xs i j) d=itr xs i (j + d)
 | 0=>rfl
 | d + 1=>by show app xs (itr xs (itr xs i j) d)=app xs (itr xs i (j + d));rw [XaM xs i j d]
theorem xbF {xs:List Int} {i:Int} {L:Nat} (h:itr xs i L=i) (a:Nat):itr xs i (a + L)=itr xs i a:=by
 rw [Nat.add_comm,← XaM xs i L a,h]
theorem ya3 {xs:List Int} {i:Int} {L:Nat} (h:itr xs i L=i):∀ (q r:Nat),itr xs i (r + L * q)=itr xs i r
 | 0,r=>rfl
 | q + 1,r=>by rw [Nat.mul_succ,← Nat.add_assoc,xbF h];exact ya3 h q r
end Mth
namespace Mth
inductive Rch (xs ys:List Int):Int→Prop
 | zero:Rch xs ys 0
 | r {x:Int}:Rch xs ys x→Rch xs ys (app xs x)
 | u {x:Int}:Rch xs ys x→Rch xs ys (app ys x)
theorem Rch.bound {n:Nat} {xs ys:List Int} (hx:Tn n xs) (hy:Tn n ys) (h0:0 < n) {x:Int} (h:Rch xs ys x):0≤x∧x < (n:Int):=by
 induction h with
 | zero=>omega
 | r _ ih=>exact hx.app ih.1 ih.2
 | u _ ih=>exact hy.app ih.1 ih.2
theorem Rch.itr {xs ys:List Int} {x:Int} (h:Rch xs ys x):∀ k,Rch xs ys (Mth.itr xs x k)
 | 0=>h
 | k + 1=>.r (h.itr k)
noncomputable def swp (xs:List Int) (m:Nat):List Int:=(xs.set 0 (app xs m)).set m (app xs 0)
theorem Zbc (xs:List Int) (m:Nat):(swp xs m).length=xs.length:=by simp [swp]
theorem xbk {xs:List Int} {m:Nat} {v x:Int} (hm:m < xs.length) (h0:0≤x):app (xs.set m v) x=if x=(m:Int) then v else app xs x:=by
 unfold app
 rw [List.getD_eq_getElem?_getD,List.getD_eq_getElem?_getD]
 by_cases hx:x=(m:Int)
 ·rw [if_pos hx,hx,Int.toNat_natCast,List.getElem?_set_self hm];rfl
 ·rw [if_neg hx,List.getElem?_set_ne (by omega)]
theorem zaH {xs:List Int} {m:Nat} (hm:m < xs.length) {x:Int} (h0:0≤x):app (swp xs m) x=if x=(m:Int) then app xs 0 else if x=0 then app xs m else app xs x:=by
 unfold swp
 rw [xbk (by simpa using hm) h0,xbk (by omega) h0]
 rfl
theorem swp_tn {n:Nat} {xs:List Int} (h:Tn n xs) {m:Nat} (hm:m < n):Tn n (swp xs m):=by
 have hl:=h.length
 have e:(swp xs m).length=n:=by rw [Zbc,hl]
 have:=YaZ (xs:=swp xs m) ?_ ?_
 ·unfold Tn;rw [e] at this;exact this
 ·unfold List.Nodup
  rw [List.pairwise_iff_getElem]
  intro i j hi hj hij z
  have a:=ZaA (xs:=swp xs m) (i:=(i:Int)) (by omega) (by omega)
  have b:=ZaA (xs:=swp xs m) (i:=(j:Int)) (by omega) (by omega)
  rw [Int.toNat_natCast,List.getElem?_eq_getElem hi] at a
  rw [Int.toNat_natCast,List.getElem?_eq_getElem hj] at b
  have a:=Option.some.inj a
  have b:=Option.some.inj b
  rw [zaH (by omega) (by omega)] at a b
  rw [a,b] at z
  have inj:∀ p q:Int,0≤p→p < (n:Int)→0≤q→q < (n:Int)→app xs p=app xs q→p=q:=fun p q p0 p1 q0 q1=>h.inj p0 p1 q0 q1
  split at z <;> split at z <;> (try split at z) <;> (try split at z) <;> (first | omega | (have:=inj _ _ (by omega) (by omega) (by omega) (by omega) z;omega))
 ·intro x hx
  obtain ⟨i,hi,rfl⟩:=List.getElem_of_mem hx
  have a:=ZaA (xs:=swp xs m) (i:=(i:Int)) (by omega) (by omega)
  rw [Int.toNat_natCast,List.getElem?_eq_getElem hi] at a
  rw [Option.some.inj a,zaH (by omega) (by omega),e]
  split
  ·exact h.app (by omega) (by omega)
  ·split
   ·exact h.app (by omega) (by omega)
   ·exact h.app (by omega) (by omega)
theorem Tn.back_ex {n:Nat} {xs:List Int} (h:Tn n xs) {i:Int} (h0:0≤i) (h1:i < (n:Int)):∃ m,NB xs i m∧Mth.itr xs i (m + 1)=i:=by
 by_cases hb:∃ m,m < n∧Mth.itr xs i (m + 1)=i
 ·-- the least
  have key:∀ b:Nat,(∃ m,m < b∧Mth.itr xs i (m + 1)=i)→∃ m,NB xs i m∧Mth.itr xs i (m + 1)=i:=by
   intro b
   induction b with
   | zero=>rintro ⟨m,hm,_⟩;omega
   | succ b ih =>
    rintro ⟨m,hm,e⟩
    by_cases hc:∃ m,m < b∧Mth.itr xs i (m + 1)=i
    ·exact ih hc
    ·refine ⟨m,fun j j1 j2 z=>hc ⟨j - 1,by omega,?_⟩,e⟩
     have:j - 1 + 1=j:=by omega
     rw [this];exact z
  exact key n hb
 ·have nb:NB xs i n:=fun j j1 j2 z=>by
   refine hb ⟨j - 1,by omega,?_⟩
   have:j - 1 + 1=j:=by omega
   rw [this];exact z
  have:=h.row_le h0 h1 nb
  omega
theorem XbF {n:Nat} {xs ys:List Int} (hx:Tn n xs) (hy:Tn n ys) {m:Nat} (hm:m < n) (nm:¬ Rch xs ys (m:Int)):Rch (swp xs m) ys (m:Int)∧∀ x,Rch xs ys x→Rch (swp xs m) ys x:=by
 have hl:=hx.length
 have m0:m≠0:=fun z=>nm (by rw [z];exact .zero)
 obtain ⟨M,nb,bk⟩:=hx.back_ex (i:=(m:Int)) (by omega) (by omega)
 have no0:∀ j,Mth.itr xs (m:Int) j≠0:=by
  intro j z
  have h':Rch xs ys (Mth.itr xs (Mth.itr xs (m:Int) j) ((M + 1) * j)):=by rw [z];exact Rch.zero.itr _
  rw [XaM] at h'
  have e2:Mth.itr xs (m:Int) ((M + 1) * (j + 1))=(m:Int):=by
   have:=ya3 bk (j + 1) 0
   rw [Nat.zero_add] at this
   exact this
  have h3:=h'.itr ((M + 1) * (j + 1) - (j + (M + 1) * j))
  rw [XaM] at h3
  have e3:j + (M + 1) * j + ((M + 1) * (j + 1) - (j + (M + 1) * j))=if j + (M + 1) * j≤(M + 1) * (j + 1) then (M + 1) * (j + 1) else j + (M + 1) * j:=by split <;> omega
  rw [e3] at h3
  by_cases hc:j + (M + 1) * j≤(M + 1) * (j + 1)
  ·rw [if_pos hc,e2] at h3
   exact nm h3
  ·-- round as often as needed
   have h4:=h'.itr ((M + 1) * (2 * j + 2) - (j + (M + 1) * j))
   rw [XaM] at h4
   have hbig:j + (M + 1) * j≤(M + 1) * (2 * j + 2):=by
    have a1:(M + 1) * (2 * j + 2)=(M + 1) * j + ((M + 1) * j + (M + 1) * 2):=by rw [← Nat.mul_add,← Nat.mul_add];congr 1;omega
    have a2:j≤(M + 1) * j:=Nat.le_mul_of_pos_left j (by omega)
    omega
   have e5:j + (M + 1) * j + ((M + 1) * (2 * j + 2) - (j + (M + 1) * j))=(M + 1) * (2 * j + 2):=by omega
   rw [e5] at h4
   have:=ya3 bk (2 * j + 2) 0
   rw [Nat.zero_add] at this
   rw [this] at h4
   exact nm h4
 have ring:∀ j,j≤M→Rch (swp xs m) ys (Mth.itr xs (m:Int) (j + 1)):=by
  intro j
  induction j with
  | zero =>
   intro _
   have h1:Rch (swp xs m) ys (Mth.app (swp xs m) 0):=.r .zero
   rw [zaH (by omega) (by omega),if_neg (by omega),if_pos rfl] at h1
   exact h1
  | succ j ih =>
   intro hj
   have h1:=(ih (by omega)).r
   have b:=hx.itr (i:=(m:Int)) (by omega) (by omega) (j + 1)
   rw [zaH (by omega) b.1,if_neg (nb (j + 1) (by omega) (by omega)),if_neg (no0 (j + 1))] at h1
   exact h1
 have hmm:Rch (swp xs m) ys (m:Int):=by have:=ring M (Nat.le_refl _);rwa [bk] at this
 refine ⟨hmm,fun x h=>?_⟩
 have hpos:0 < n:=by omega
 induction h with
 | zero=>exact .zero
 | r hx' ih =>
  rename_i x
  have b:=hx'.bound hx hy hpos
  by_cases h0:x=0
  ·have h1:=hmm.r
   rw [zaH (by omega) (by omega),if_pos rfl] at h1
   rw [h0];exact h1
  ·have hxm:x≠(m:Int):=fun z=>nm (by rw [← z];exact hx')
   have h1:=ih.r
   rw [zaH (by omega) b.1,if_neg hxm,if_neg h0] at h1
   exact h1
 | u _ ih=>exact ih.u
noncomputable def Cl (xs ys F:List Int):Prop:=∀ x∈F,app xs x∈F∧app ys x∈F
theorem Cl.all {xs ys F:List Int} (h:Cl xs ys F) (h0:(0:Int)∈F) {x:Int} (r:Rch xs ys x):x∈F:=by
 induction r with
 | zero=>exact h0
 | r _ ih=>exact (h _ ih).1
 | u _ ih=>exact (h _ ih).2
structure Fd (xs ys:List Int) (F:List Int):Prop where
 z:(0:Int)∈F
 nd:F.Nodup
 mt:∀ x∈F,Rch xs ys x
theorem Fd.len {n:Nat} {xs ys F:List Int} (h:Fd xs ys F) (hx:Tn n xs) (hy:Tn n ys) (h0:0 < n):F.length≤n:=by
 have:=xaM h.nd (ys:=upto n) fun x hx'=>XaF.mpr ((h.mt x hx').bound hx hy h0)
 rw [zao] at this
 exact this
theorem Fd.one (xs ys:List Int):Fd xs ys [0]:=⟨by simp,by simp,fun x hx=>(show x=0 by simpa using hx) ▸ .zero⟩
theorem round {xs ys F F1 F2:List Int} (d:Fd xs ys F) (d2:Fd xs ys F2) (p1:F <+: F1) (p2:F1 <+: F2) (c1:∀ x∈F,app xs x∈F1) (c2:∀ x∈F1,app ys x∈F2) {t:Nat} (h:Cl xs ys F∨t + 1≤F.length):Cl xs ys F2∨t + 1 + 1≤F2.length:=by
 have p:=p1.trans p2
 by_cases hc:Cl xs ys F
 ·refine .inl fun x hx=>?_
  have hF:=hc.all d.z (d2.mt x hx)
  exact ⟨p.subset (hc x hF).1,p.subset (hc x hF).2⟩
 ·have hl:=h.resolve_left hc
  by_cases he:F2.length≤F.length
  ·refine absurd ?_ hc
   have e2:F2=F:=(p.eq_of_length (by have:=p.length_le;omega)).symm
   have e1:F1=F:=by
    have a:=p1.length_le
    have b:=p2.length_le
    exact (p1.eq_of_length (by omega)).symm
   intro x hx
   refine ⟨?_,?_⟩
   ·have:=c1 x hx;rwa [e1] at this
   ·have:=c2 x (by rw [e1];exact hx);rwa [e2] at this
  ·exact .inr (by omega)
noncomputable def rowR (w n:Nat):List Int:=((List.range (w - 1)).map fun (k:Nat)=>(1:Int) + k) ++ [0] ++ ((List.range (n - w)).map fun (k:Nat)=>(w:Int) + k)
noncomputable def colU (w n:Nat):List Int:=[(w:Int)] ++ ((List.range (w - 1)).map fun (k:Nat)=>(1:Int) + k) ++ ((List.range (n - (w + 1))).map fun (k:Nat)=>((w:Int) + 1) + k) ++ [0]
theorem zbG:∀ n,n < 21→∀ w,w < n + 1→0 < w→(rowR w n).isPerm (upto n)=true:=by decide +kernel
theorem ybG:∀ n,n < 21→∀ w,w < n→0 < w→(colU w n).isPerm (upto n)=true:=by decide +kernel
theorem ZbG {w n:Nat} (h:n < 21) (h1:w≤n) (h0:0 < w):Tn n (rowR w n):=List.isPerm_iff.mp (zbG n h w (by omega) h0)
theorem YbG {w n:Nat} (h:n < 21) (h1:w < n) (h0:0 < w):Tn n (colU w n):=List.isPerm_iff.mp (ybG n h w h1 h0)
theorem less {L L':List Int} {m:Int} (nd:L'.Nodup) (hs:∀ x∈L',x∈L) (hm:m∈L) (hm':m ∉ L'):L'.length < L.length:=by
 have hp:=List.perm_cons_erase hm
 have hlen:(L.erase m).length + 1=L.length:=by have:=hp.length_eq;simpa using this.symm
 have:=xaM (ys:=L.erase m) nd fun x hx=>(List.mem_erase_of_ne (fun e=>hm' (by rw [← e];exact hx))).mpr (hs x hx)
 omega
end Mth
namespace Mth
theorem Tn.of_inj {n:Nat} {xs:List Int} (hl:xs.length=n) (hb:∀ s:Int,0≤s→s < (n:Int)→0≤Mth.app xs s∧Mth.app xs s < (n:Int)) (hi:∀ s t:Int,0≤s→s < (n:Int)→0≤t→t < (n:Int)→Mth.app xs s=Mth.app xs t→s=t):Tn n xs:=by
 have el:∀ (i:Nat) (h:i < xs.length),xs[i]=Mth.app xs (i:Int):=fun i h=>by
  have a:=ZaA (xs:=xs) (i:=(i:Int)) (by omega) (by omega)
  rw [Int.toNat_natCast,List.getElem?_eq_getElem h] at a
  exact Option.some.inj a
 have:=YaZ (xs:=xs) ?_ ?_
 ·unfold Tn;rw [hl] at this;exact this
 ·unfold List.Nodup
  rw [List.pairwise_iff_getElem]
  intro i j h1 h2 hij z
  rw [el i h1,el j h2] at z
  have:=hi i j (by omega) (by omega) (by omega) (by omega) z
  omega
 ·intro x hx
  obtain ⟨i,h,rfl⟩:=List.getElem_of_mem hx
  rw [el i h,hl]
  exact hb i (by omega) (by omega)
end Mth
namespace Mth
noncomputable def addIf (F:List Int) (x:Int):List Int:=if x∈F then F else F ++ [x]
theorem yaC (F:List Int) (x:Int):F <+: addIf F x:=by
 unfold addIf;split
 ·exact List.prefix_refl _
 ·exact List.prefix_append _ _
theorem Yaw {F:List Int} {x y:Int}:y∈addIf F x↔y∈F∨y=x:=by
 unfold addIf;split
 ·next h=>exact ⟨.inl,fun z=>z.elim id fun e=>e ▸ h⟩
 ·rw [List.mem_append,List.mem_singleton]
theorem zaN {F:List Int} {x:Int} (h:F.Nodup):(addIf F x).Nodup:=by
 unfold addIf;split
 ·exact h
 ·next hx =>
  rw [List.nodup_append]
  exact ⟨h,by simp,fun a ha b hb e=>hx (by rw [List.mem_singleton] at hb;rw [← hb,← e];exact ha)⟩
noncomputable def visit (xs ys F:List Int) (x:Int):List Int:=addIf (addIf F (app xs x)) (app ys x)
noncomputable def bf (xs ys:List Int) (s:Int):Nat→List Int
 | 0=>[s]
 | k + 1=>match (bf xs ys s k)[k]? with
  | some x=>visit xs ys (bf xs ys s k) x
  | none=>bf xs ys s k
theorem xbG (xs ys:List Int) (s:Int) (k:Nat):bf xs ys s k <+: bf xs ys s (k + 1):=by
 show _ <+: (match (bf xs ys s k)[k]? with | some x=>visit xs ys (bf xs ys s k) x | none=>bf xs ys s k)
 split
 ·exact (yaC _ _).trans (yaC _ _)
 ·exact List.prefix_refl _
theorem za7 (xs ys:List Int) (s:Int) (k:Nat):∀ d,bf xs ys s k <+: bf xs ys s (k + d)
 | 0=>List.prefix_refl _
 | d + 1=>(za7 xs ys s k d).trans (xbG xs ys s (k + d))
theorem XaU (xs ys:List Int) (s:Int):∀ k,(bf xs ys s k).Nodup
 | 0=>by show [s].Nodup;simp
 | k + 1=>by
  show (match (bf xs ys s k)[k]? with | some x=>visit xs ys (bf xs ys s k) x | none=>bf xs ys s k).Nodup
  split
  ·exact zaN (zaN (XaU xs ys s k))
  ·exact XaU xs ys s k
theorem Za3 {xs ys:List Int} {s:Int} {k:Nat} (h:(bf xs ys s k).length≤k):∀ d,bf xs ys s (k + d)=bf xs ys s k
 | 0=>rfl
 | d + 1=>by
  have e:=Za3 h d
  show (match (bf xs ys s (k + d))[k + d]? with | some x=>visit xs ys (bf xs ys s (k + d)) x | none=>bf xs ys s (k + d))=_
  rw [e,List.getElem?_eq_none (by omega)]
section
variable {n:Nat} {xs ys:List Int} {s:Int}
theorem zaV (hx:Tn n xs) (hy:Tn n ys) (s0:0≤s) (s1:s < (n:Int)):∀ k,∀ x∈bf xs ys s k,0≤x∧x < (n:Int)
 | 0,x,h=>by rw [List.mem_singleton.mp (show x∈[s] from h)];exact ⟨s0,s1⟩
 | k + 1,x,h=>by
  have ih:=zaV hx hy s0 s1 k
  have h':x∈(match (bf xs ys s k)[k]? with | some y=>visit xs ys (bf xs ys s k) y | none=>bf xs ys s k):=h
  split at h'
  ·next y hy' =>
   obtain ⟨y0,y1⟩:=ih y (List.mem_of_getElem? hy')
   rcases Yaw.mp h' with h' | rfl
   ·rcases Yaw.mp h' with h' | rfl
    ·exact ih x h'
    ·exact hx.app y0 y1
   ·exact hy.app y0 y1
  ·exact ih x h'
theorem Xbk (hx:Tn n xs) (hy:Tn n ys) (s0:0≤s) (s1:s < (n:Int)) (k:Nat):(bf xs ys s k).length≤n:=by
 have:=xaM (XaU xs ys s k) (ys:=upto n) fun x h=>XaF.mpr (zaV hx hy s0 s1 k x h)
 rw [zao] at this
 exact this
theorem bf_at {k i:Nat} (hik:i≤k) {x:Int} (h:(bf xs ys s k)[i]?=some x):(bf xs ys s i)[i]?=some x:=by
 obtain ⟨d,rfl⟩:∃ d,k=i + d:=⟨k - i,by omega⟩
 by_cases hl:(bf xs ys s i).length≤i
 ·rw [Za3 hl d] at h
  exact h
 ·obtain ⟨t,e⟩:=za7 xs ys s i d
  rw [← e,List.getElem?_append_left (by omega)] at h
  exact h
theorem bf_cl (hx:Tn n xs) (hy:Tn n ys) (s0:0≤s) (s1:s < (n:Int)):Cl xs ys (bf xs ys s n):=by
 intro x hm
 obtain ⟨i,hi,e⟩:=List.getElem_of_mem hm
 have hl:=Xbk hx hy s0 s1 n
 have hi':(bf xs ys s i)[i]?=some x:=bf_at (k:=n) (by omega) (by rw [List.getElem?_eq_getElem hi,e])
 have hs:visit xs ys (bf xs ys s i) x <+: bf xs ys s n:=by
  have:=za7 xs ys s (i + 1) (n - (i + 1))
  rw [show i + 1 + (n - (i + 1))=n by omega] at this
  have e2:bf xs ys s (i + 1)=visit xs ys (bf xs ys s i) x:=by
   show (match (bf xs ys s i)[i]? with | some x=>visit xs ys (bf xs ys s i) x | none=>bf xs ys s i)=_
   rw [hi']
  rw [← e2];exact this
 refine ⟨hs.subset ?_,hs.subset ?_⟩
 ·exact Yaw.mpr (.inl (Yaw.mpr (.inr rfl)))
 ·exact Yaw.mpr (.inr rfl)
end
end Mth
namespace Mth
section
variable {n:Nat} {xs:List Int} {i:Int}
end
end Mth
namespace Mth
noncomputable def odd (n:Nat):Bool:=n % 2 == 1
noncomputable def tb (l:Int→Nat) (p:Int→Int) (a b:Int):Bool:=if l a=l b∨l (p a)=l (p b) then false else (decide (l a < l b)).xor (decide (l (p a) < l (p b)))
section
variable {n:Nat} {L:List Int} {l:Int→Nat}
end
end Mth
namespace Mth
end Mth
namespace Mth
abbrev Sp:=Bool×Int
structure T4 where (a b c d:Int)
theorem t3 {k:Int} (h:1≤k∧k≤3):k=1∨k=2∨k=3:=by omega
end Mth
namespace Mth
abbrev Flo:=List Int×List Int
end Mth
namespace Mth
section
variable {n:Nat} {a b c g x y:List Int}
end
section
variable {n:Nat} {p q r:Flo}
end
noncomputable def tS (k:Int):T4:=⟨1,k,0,1⟩
section
variable {n:Nat} {p q r:Flo}
end
section
variable {n:Nat} {p q:Flo}
end
end Mth
namespace Mth
section
variable {n:Nat} {p q:Flo} {g h:List Int} {s t:Int}
theorem ya7 (xs ys:List Int):∀ k,∀ y∈bf xs ys 0 k,Rch xs ys y
 | 0,y,hy=>by rw [List.mem_singleton.mp (show y∈[(0:Int)] from hy)];exact .zero
 | k + 1,y,hy=>by
  have hy':y∈(match (bf xs ys 0 k)[k]? with | some x=>visit xs ys (bf xs ys 0 k) x | none=>bf xs ys 0 k):=hy
  split at hy'
  ·next z hz =>
   have hzr:=ya7 xs ys k z (List.mem_of_getElem? hz)
   rcases Yaw.mp hy' with hy' | rfl
   ·rcases Yaw.mp hy' with hy' | rfl
    ·exact ya7 xs ys k y hy'
    ·exact hzr.r
   ·exact hzr.u
  ·exact ya7 xs ys k y hy'
end
end Mth
namespace Mth
theorem yaH {p:Nat→Bool} {n k:Nat} (hk:k < n) (h:∀ j,j < k→p j=false) (hp:p k=true):(List.range n).find? p=some k:=by
 rw [List.find?_range_eq_some]
 exact ⟨hp,List.mem_range.mpr hk,fun j hj=>by rw [h j hj];rfl⟩
theorem Yaz {p:Nat→Bool} {n:Nat} (h:∀ j,j < n→p j=false):(List.range n).find? p=none:=by
 rw [List.find?_eq_none]
 intro x hx
 rw [h x (List.mem_range.mp hx)];decide
theorem Ya3 {p:Nat→Bool} {n:Nat} (h:(List.range n).find? p=none):∀ j,j < n→p j=false:=fun j hj=>by
 rw [List.find?_eq_none] at h
 simpa using h j (List.mem_range.mpr hj)
noncomputable def bad (xs:List Int) (k:Nat):Bool:=decide (xs.getD k 0 < 0) || (decide ((xs.length:Int)≤xs.getD k 0) || (xs.take k).contains (xs.getD k 0))
noncomputable def am (xs:List Int):Option Nat:=(List.range xs.length).find? (bad xs)
noncomputable def fu (xs ys:List Int) (n:Nat):Option Nat:=(List.range n).find? fun s=>!(bf xs ys 0 n).contains (s:Int)
theorem Ybu {xs:List Int} (h:am xs=none):Tn xs.length xs:=by
 have hb:=Ya3 h
 have hx:∀ k,k < xs.length→(0≤xs.getD k 0∧xs.getD k 0 < (xs.length:Int))∧xs.getD k 0 ∉ xs.take k:=fun k hk=>by
  have z:=hb k hk
  unfold bad at z
  simp only [Bool.or_eq_false_iff,decide_eq_false_iff_not] at z
  refine ⟨by omega,fun m=>?_⟩
  rw [List.contains_iff_mem.mpr m] at z
  cases z.2.2
 have at':∀ s:Int,0≤s→s < (xs.length:Int)→app xs s=xs.getD s.toNat 0:=fun s s0 s1=>by
  have:=ZaA (xs:=xs) s0 s1
  rw [List.getD_eq_getElem?_getD,this];rfl
 have inj:∀ i j:Nat,i < j→j < xs.length→xs.getD i 0≠xs.getD j 0:=fun i j hij hj e=>by
  refine (hx j hj).2 ?_
  rw [← e,List.getD_eq_getElem?_getD,List.getElem?_eq_getElem (by omega)]
  exact List.mem_take_iff_getElem.mpr ⟨i,by omega,rfl⟩
 refine Tn.of_inj rfl (fun s s0 s1=>?_) fun s t s0 s1 t0 t1 e=>?_
 ·rw [at' s s0 s1];exact (hx s.toNat (by omega)).1
 ·rw [at' s s0 s1,at' t t0 t1] at e
  rcases Nat.lt_trichotomy s.toNat t.toNat with h | h | h
  ·exact absurd e (inj _ _ h (by omega))
  ·omega
  ·exact absurd e.symm (inj _ _ h (by omega))
theorem tn_am {n:Nat} {xs:List Int} (h:Tn n xs):am xs=none:=by
 refine Yaz fun k hk=>?_
 have e:xs.getD k 0=xs[k]:=by rw [List.getD_eq_getElem?_getD,List.getElem?_eq_getElem hk];rfl
 have b:=h.bound (List.getElem_mem hk)
 unfold bad
 rw [e]
 simp only [Bool.or_eq_false_iff,decide_eq_false_iff_not]
 refine ⟨by omega,by rw [h.length];omega,?_⟩
 cases z:(xs.take k).contains xs[k] with
 | false=>rfl
 | true =>
  obtain ⟨i,hi,ei⟩:=List.mem_take_iff_getElem.mp (List.contains_iff_mem.mp z)
  have:=(List.getElem_inj h.nodup).mp ei
  omega
theorem YbB {n:Nat} {xs ys:List Int} (tx:Tn n xs) (ty:Tn n ys) (n0:0 < n) (x:Int):x∈bf xs ys 0 n↔Rch xs ys x:=by
 constructor
 ·exact ya7 xs ys n x
 ·intro r
  refine (bf_cl tx ty (Int.le_refl _) (by omega)).all ?_ r
  have:=(za7 xs ys 0 0 n).subset (show (0:Int)∈bf xs ys 0 0 from List.mem_singleton.mpr rfl)
  rwa [Nat.zero_add] at this
end Mth
namespace L4
open PySem PySem.Spec L2
inductive D where
 | non | bl (b:Bool) | int (i:Int) | str (x:Str) | ty (n:String) | tup (ds:List D) | ref (i:Nat)
instance:Inhabited D:=⟨.non⟩
inductive O where
 | lst (ds:List D) | fzn (ds:List D) | dct (kvs:List (Key×D)) | dcu (kvs:List (List Int×D)) | exc (c:Str) (fs:List (Str×D)) | any | rng (lo hi:Int)
abbrev Store:=List O
abbrev DSt:=List (Option D)
abbrev Dm (α:Type):=Store→Option (α×Store)
inductive Fl where
 | nx (δ:DSt) | bk (δ:DSt) | ct (δ:DSt) | rt (d:D)
mutual
inductive Rp (K:PySem.W.Frag) (ρ:List Addr) (H:Hp):V→D→Prop
 | non:Rp K ρ H .non .non
 | bl (b:Bool):Rp K ρ H (.bl b) (.bl b)
 | int (i:Int):Rp K ρ H (.int i) (.int i)
 | str (x:Str):Rp K ρ H (.str x) (.str x)
 | ty (n:String):Rp K ρ H (.ty n) (.ty n)
 | ref {a:Addr} {i:Nat}:ρ[i]?=some a→Rp K ρ H (.ref a) (.ref i)
 | tup {a:Addr} {vs:List V} {ds:List D}:SqT K H a vs→Rps K ρ H vs ds→Rp K ρ H (.ref a) (.tup ds)
inductive Rps (K:PySem.W.Frag) (ρ:List Addr) (H:Hp):List V→List D→Prop
 | nil:Rps K ρ H [] []
 | cons {v:V} {vs:List V} {d:D} {ds:List D}:Rp K ρ H v d→Rps K ρ H vs ds→Rps K ρ H (v :: vs) (d :: ds)
end
structure Mn (K:PySem.W.Frag) (ρ:List Addr) (H:Hp) (ρ':List Addr) (H':Hp):Prop where
 r:∀ (i:Nat) (a:Addr),ρ[i]?=some a→ρ'[i]?=some a
 t:∀ a vs,SqT K H a vs→SqT K H' a vs
 f:∀ a o u,H a=some (.frz o u)→H' a=some (.frz o u)
 x:∀ a ws,H a=some (.xd ws)→H' a=some (.xd ws)
section
variable {K:PySem.W.Frag} {ρ ρ' ρ2:List Addr} {H H' H2:Hp}
theorem Mn.refl:Mn K ρ H ρ H:=⟨fun _ _ h=>h,fun _ _ h=>h,fun _ _ _ h=>h,fun _ _ h=>h⟩
theorem Mn.trans (m:Mn K ρ H ρ' H') (n:Mn K ρ' H' ρ2 H2):Mn K ρ H ρ2 H2:=⟨fun i a h=>n.r i a (m.r i a h),fun a vs h=>n.t a vs (m.t a vs h),fun a o u h=>n.f a o u (m.f a o u h),fun a ws h=>n.x a ws (m.x a ws h)⟩
mutual
theorem Rp.mn (m:Mn K ρ H ρ' H'):∀ {v:V} {d:D},Rp K ρ H v d→Rp K ρ' H' v d
 | _,_,.non=>.non
 | _,_,.bl b=>.bl b
 | _,_,.int i=>.int i
 | _,_,.str x=>.str x
 | _,_,.ty n=>.ty n
 | _,_,.ref e=>.ref (m.r _ _ e)
 | _,_,.tup q r=>.tup (m.t _ _ q) (Rps.mn m r)
theorem Rps.mn (m:Mn K ρ H ρ' H'):∀ {vs:List V} {ds:List D},Rps K ρ H vs ds→Rps K ρ' H' vs ds
 | _,_,.nil=>.nil
 | _,_,.cons a b=>.cons (Rp.mn m a) (Rps.mn m b)
end
theorem Rps.length:∀ {vs:List V} {ds:List D},Rps K ρ H vs ds→vs.length=ds.length
 | _,_,.nil=>rfl
 | _,_,.cons _ r=>by rw [List.length_cons,List.length_cons,r.length]
theorem Rps.got:∀ {vs:List V} {ds:List D},Rps K ρ H vs ds→∀ {i:Nat} {d:D},ds[i]?=some d→∃ v,vs[i]?=some v∧Rp K ρ H v d
 | _,_,.nil,i,v,e=>by simp at e
 | _,_,.cons (v:=v) a b,0,d,e=>⟨v,by simp,by have:_=d:=Option.some.inj (by simpa using e);rw [← this];exact a⟩
 | _,_,.cons a b,i + 1,d,e=>by
  obtain ⟨v,e1,r⟩:=Rps.got b (i:=i) (by simpa using e)
  exact ⟨v,by simpa using e1,r⟩
theorem Rps.append:∀ {vs:List V} {ds:List D} {ws:List V} {es:List D},Rps K ρ H vs ds→Rps K ρ H ws es→Rps K ρ H (vs ++ ws) (ds ++ es)
 | _,_,_,_,.nil,s=>s
 | _,_,_,_,.cons a b,s=>.cons a (Rps.append b s)
theorem Rps.one {v:V} {d:D} (r:Rp K ρ H v d):Rps K ρ H [v] [d]:=.cons r .nil
theorem Rps.take:∀ {vs:List V} {ds:List D} (n:Nat),Rps K ρ H vs ds→Rps K ρ H (vs.take n) (ds.take n)
 | _,_,0,_=>.nil
 | _,_,_ + 1,.nil=>.nil
 | _,_,n + 1,.cons r t=>.cons r (Rps.take n t)
theorem Rps.drop:∀ {vs:List V} {ds:List D} (n:Nat),Rps K ρ H vs ds→Rps K ρ H (vs.drop n) (ds.drop n)
 | _,_,0,r=>r
 | _,_,_ + 1,.nil=>.nil
 | _,_,n + 1,.cons _ t=>Rps.drop n t
theorem Rps.set {v:V} {d:D} (r:Rp K ρ H v d):∀ {vs:List V} {ds:List D} (i:Nat),Rps K ρ H vs ds→Rps K ρ H (vs.set i v) (ds.set i d)
 | _,_,_,.nil=>.nil
 | _,_,0,.cons _ t=>.cons r t
 | _,_,i + 1,.cons q t=>.cons q (Rps.set r i t)
theorem Rps.erase:∀ {vs:List V} {ds:List D} (i:Nat),Rps K ρ H vs ds→Rps K ρ H (vs.eraseIdx i) (ds.eraseIdx i)
 | _,_,_,.nil=>.nil
 | _,_,0,.cons _ t=>t
 | _,_,i + 1,.cons q t=>.cons q (Rps.erase i t)
theorem Rps.ints:∀ (ns:List Int),Rps K ρ H (ns.map V.int) (ns.map D.int)
 | []=>.nil
 | n :: r=>.cons (.int n) (Rps.ints r)
end
noncomputable def Rs (K:PySem.W.Frag) (ρ:List Addr) (H:Hp) (σ:St) (δ:DSt):Prop:=σ.length=δ.length∧∀ (i:Nat) (d:D),δ[i]?=some (some d)→∃ v,σ[i]?=some (some v)∧Rp K ρ H v d
noncomputable def Rk (K:PySem.W.Frag) (ρ:List Addr) (H:Hp):List (Key×V)→List (Key×D)→Prop:=Paired fun p q=>p.1=q.1∧Rp K ρ H p.2 q.2
noncomputable def Ru (K:PySem.W.Frag) (ρ:List Addr) (H:Hp):List (List Int×D)→List (List Int×Addr×Value)→Prop:=Paired fun q x=>q.1=x.1∧SqT K H x.2.1 (x.1.map V.int)∧∃ v,RelV v x.2.2∧Rp K ρ H v q.2
noncomputable def Xd (K:PySem.W.Frag) (ρ:List Addr) (H:Hp):Option Addr→List (Str×D)→Prop
 | none,fs=>fs=[]
 | some d,fs=>∃ ws,H d=some (.xd ws)∧∀ f e,fs.lookup f=some e→∃ v,ws.lookup f=some v∧Rp K ρ H v e
noncomputable def RpO (K:PySem.W.Frag) (ρ:List Addr) (H:Hp) (a:Addr):O→Prop
 | .lst ds=>∃ vs,H a=some (.lst vs)∧Rps K ρ H vs ds
 | .fzn ds=>∃ vs,SqF K H a vs∧Rps K ρ H vs ds
 | .dct kvs=>∃ ws,H a=some (.dK ws)∧Rk K ρ H ws kvs
 | .dcu kvs=>∃ xs,H a=some (DU a xs)∧Ru K ρ H kvs xs
 | .exc c fs=>∃ C dx tr,PySem.W.nsIn K mainGlobals c=some (some (.ref C))∧H a=some (XO a C dx tr)∧Xd K ρ H dx fs
 | .any=>True
 | .rng lo hi=>H a=some (.rng lo hi)
noncomputable def O.mut:O→Bool
 | .fzn _=>false
 | .any=>false
 | _=>true
structure Rl (K:PySem.W.Frag) (ρ:List Addr) (H:Hp) (st:Store):Prop where
 len:ρ.length=st.length
 nd:∀ (i j:Nat) (a:Addr) (o o':O),ρ[i]?=some a→ρ[j]?=some a→st[i]?=some o→st[j]?=some o'→o.mut=true→o'.mut=true→i=j
 obj:∀ (i:Nat) (a:Addr) (o:O),ρ[i]?=some a→st[i]?=some o→RpO K ρ H a o
section
variable {K:PySem.W.Frag} {ρ ρ' ρ2:List Addr} {H H' H2:Hp} {st st':Store} {a p:Addr} {i:Nat} {o o':O} {ho:HO} {σ:St} {δ:DSt}
theorem Rs.mn (h:Rs K ρ H σ δ) (m:Mn K ρ H ρ' H'):Rs K ρ' H' σ δ:=⟨h.1,fun i d e=>let ⟨v,e1,r⟩:=h.2 i d e;⟨v,e1,r.mn m⟩⟩
theorem Rk.mn (m:Mn K ρ H ρ' H') {ws:List (Key×V)} {kvs:List (Key×D)} (h:Rk K ρ H ws kvs):Rk K ρ' H' ws kvs:=by
 induction h with
 | nil=>exact .nil
 | cons a _ ih=>exact .cons ⟨a.1,a.2.mn m⟩ ih
theorem Ru.mn (m:Mn K ρ H ρ' H') {kvs:List (List Int×D)} {xs:List (List Int×Addr×Value)} (h:Ru K ρ H kvs xs):Ru K ρ' H' kvs xs:=by
 induction h with
 | nil=>exact .nil
 | cons a _ ih=>obtain ⟨a1,a2,v,a3,a4⟩:=a;exact .cons ⟨a1,m.t _ _ a2,v,a3,a4.mn m⟩ ih
theorem Xd.mn (m:Mn K ρ H ρ' H') {dx:Option Addr} {fs:List (Str×D)} (h:Xd K ρ H dx fs):Xd K ρ' H' dx fs:=by
 cases dx with
 | none=>exact h
 | some d=>obtain ⟨ws,e,q⟩:=h;exact ⟨ws,m.x _ _ e,fun f e' z=>let ⟨v,z1,z2⟩:=q f e' z;⟨v,z1,z2.mn m⟩⟩
theorem RpO.keep (m:Mn K ρ H ρ' H') (h:∀ u,H a=some u→H' a=some u) (r:RpO K ρ H a o):RpO K ρ' H' a o:=by
 cases o with
 | lst ds=>obtain ⟨vs,e,q⟩:=r;exact ⟨vs,h _ e,q.mn m⟩
 | fzn ds =>
  obtain ⟨vs,e,q⟩:=r
  refine ⟨vs,?_,q.mn m⟩
  rcases e with ⟨u,e⟩ | e
  ·exact .inl ⟨u,h _ e⟩
  ·exact .inr e
 | dct kvs=>obtain ⟨ws,e,q⟩:=r;exact ⟨ws,h _ e,q.mn m⟩
 | dcu kvs=>obtain ⟨ws,e,q⟩:=r;exact ⟨ws,h _ e,q.mn m⟩
 | exc c fs=>obtain ⟨C,dx,tr,n,e,q⟩:=r;exact ⟨C,dx,tr,n,h _ e,q.mn m⟩
 | any=>trivial
 | rng lo hi=>exact h _ r
theorem Mn.same (s:Same H H'):Mn K ρ H ρ H':=⟨fun _ _ h=>h,fun _ _ h=>(Kp.of_same (ch:=[]) s).sqT h,fun _ _ _ h=>s _ _ h,fun _ _ h=>s _ _ h⟩
theorem Rl.same (l:Rl K ρ H st) (s:Same H H'):Rl K ρ H' st:=⟨l.len,l.nd,fun i a o h1 h2=>(l.obj i a o h1 h2).keep (Mn.same s) fun u e=>s _ _ e⟩
theorem Rl.at (l:Rl K ρ H st) (h1:ρ[i]?=some a) (h2:st[i]?=some o) (hm:o.mut=true):∃ u,H a=some u∧∀ x y,u≠.frz x y:=by
 have r:=l.obj i a o h1 h2
 cases o with
 | lst ds=>obtain ⟨vs,e,_⟩:=r;exact ⟨_,e,fun x y z=>nomatch z⟩
 | fzn ds=>cases hm
 | dct kvs=>obtain ⟨ws,e,_⟩:=r;exact ⟨_,e,fun x y z=>nomatch z⟩
 | dcu kvs=>obtain ⟨ws,e,_⟩:=r;exact ⟨_,e,fun x y z=>by cases z⟩
 | exc c fs=>obtain ⟨C,dx,tr,_,e,_⟩:=r;exact ⟨_,e,fun x y z=>by cases z⟩
 | any=>cases hm
 | rng lo hi=>exact ⟨_,r,fun x y z=>nomatch z⟩
theorem Mn.new (hp:H p=none):Mn K ρ H (ρ ++ [p]) (upd H p ho):=⟨fun i a h=>by
  obtain ⟨hi,_⟩:=List.getElem?_eq_some_iff.mp h
  rw [List.getElem?_append_left hi];exact h,fun _ _ h=>(Kp.of_same (ch:=[]) (Same.up hp)).sqT h,fun _ _ _ h=>Same.up hp _ _ h,fun _ _ h=>Same.up hp _ _ h⟩
theorem Rl.new (l:Rl K ρ H st) (hp:H p=none) (mk:RpO K (ρ ++ [p]) (upd H p ho) p o):Rl K (ρ ++ [p]) (upd H p ho) (st ++ [o]):=by
 have m:Mn K ρ H (ρ ++ [p]) (upd H p ho):=Mn.new hp
 have split:∀ (i:Nat) (a:Addr) (o':O),(ρ ++ [p])[i]?=some a→(st ++ [o])[i]?=some o'→(ρ[i]?=some a∧st[i]?=some o')∨(i=ρ.length∧a=p∧o'=o):=fun i a o' h1 h2=>by
  by_cases hi:i < ρ.length
  ·rw [List.getElem?_append_left hi] at h1
   rw [List.getElem?_append_left (by rw [← l.len];exact hi)] at h2
   exact .inl ⟨h1,h2⟩
  ·obtain ⟨hb,_⟩:=List.getElem?_eq_some_iff.mp h1
   rw [List.length_append,List.length_singleton] at hb
   have e:i=ρ.length:=by omega
   subst e
   rw [List.getElem?_append_right (Nat.le_refl _),Nat.sub_self] at h1
   rw [l.len,List.getElem?_append_right (Nat.le_refl _),Nat.sub_self] at h2
   exact .inr ⟨rfl,(Option.some.inj h1).symm,(Option.some.inj h2).symm⟩
 refine ⟨by rw [List.length_append,List.length_append,l.len];rfl,fun i j a u u' h1 h2 h3 h4 m1 m2=>?_,fun i a u h1 h2=>?_⟩
 ·rcases split i a u h1 h3 with ⟨g1,g2⟩ | ⟨rfl,rfl,rfl⟩ <;> rcases split j _ u' h2 h4 with ⟨k1,k2⟩ | ⟨k1,k2,k3⟩
  ·exact l.nd i j a u u' g1 k1 g2 k2 m1 m2
  ·subst k2
   obtain ⟨w,e,_⟩:=l.at g1 g2 m1
   rw [e] at hp;cases hp
  ·obtain ⟨w,e,_⟩:=l.at k1 k2 m2
   rw [e] at hp;cases hp
  ·exact k1.symm
 ·rcases split i a u h1 h2 with ⟨g1,g2⟩ | ⟨rfl,rfl,rfl⟩
  ·exact (l.obj i a u g1 g2).keep m fun w e=>Same.up hp _ _ e
  ·exact mk
theorem Rl.put (l:Rl K ρ H st) (hi:ρ[i]?=some a) (hs:st[i]?=some o) (hm:o.mut=true) (hm':o'.mut=true) (m:Mn K ρ H ρ (upd H a ho)) (r:RpO K ρ (upd H a ho) a o'):Rl K ρ (upd H a ho) (st.set i o'):=by
 obtain ⟨w,ew,nf⟩:=l.at hi hs hm
 have ils:i < st.length:=(List.getElem?_eq_some_iff.mp hs).1
 have old:∀ (j:Nat) (u:O),(st.set i o')[j]?=some u→(j=i∧u=o')∨(j≠i∧st[j]?=some u):=fun j u h=>by
  by_cases hj:i=j
  ·subst hj
   rw [List.getElem?_set_self ils] at h
   exact .inl ⟨rfl,(Option.some.inj h).symm⟩
  ·rw [List.getElem?_set_ne hj] at h
   exact .inr ⟨fun z=>hj z.symm,h⟩
 refine ⟨by rw [List.length_set];exact l.len,fun j k b u u' h1 h2 h3 h4 m1 m2=>?_,fun j b u h1 h2=>?_⟩
 ·rcases old j u h3 with ⟨rfl,rfl⟩ | ⟨nj,g3⟩ <;> rcases old k u' h4 with ⟨rfl,rfl⟩ | ⟨nk,g4⟩
  ·rfl
  ·exact l.nd _ _ b o u' h1 h2 hs g4 hm m2
  ·exact l.nd _ _ b u o h1 h2 g3 hs m1 hm
  ·exact l.nd _ _ b u u' h1 h2 g3 g4 m1 m2
 ·rcases old j u h2 with ⟨rfl,rfl⟩ | ⟨nj,g2⟩
  ·rw [hi] at h1;cases h1;exact r
  ·by_cases hb:b=a
   ·subst hb
    cases u with
    | fzn ds =>
     obtain ⟨vs,e,q⟩:=l.obj j b _ h1 g2
     refine ⟨vs,?_,q.mn m⟩
     rcases e with ⟨x,e⟩ | e
     ·rw [ew] at e;cases e;exact absurd rfl (nf _ _)
     ·exact .inr e
    | lst ds=>exact absurd (l.nd j i b _ o h1 hi g2 hs rfl hm) nj
    | dcu ds=>exact absurd (l.nd j i b _ o h1 hi g2 hs rfl hm) nj
    | exc c fs=>exact absurd (l.nd j i b _ o h1 hi g2 hs rfl hm) nj
    | dct ds=>exact absurd (l.nd j i b _ o h1 hi g2 hs rfl hm) nj
    | any=>trivial
    | rng lo up=>exact absurd (l.nd j i b _ o h1 hi g2 hs rfl hm) nj
   ·exact (l.obj j b u h1 g2).keep m fun w e=>by rw [Yae hb];exact e
theorem Mn.put {xs:List V} (e:H a=some (.lst xs)):Mn K ρ H ρ (upd H a ho):=⟨fun _ _ h=>h,fun b vs h=>(Kp.put (ch:=[a]) (o:=ho) Kp.refl (by simp) e).sqT h,fun b o u h=>by rw [Yae (fun z=>by rw [z,e] at h;cases h)];exact h,fun b ws h=>by rw [Yae (fun z=>by rw [z,e] at h;cases h)];exact h⟩
theorem Rl.newL {vs:List V} {ds:List D} (l:Rl K ρ H st) (hp:H p=none) (r:Rps K ρ H vs ds):Rl K (ρ ++ [p]) (upd H p (.lst vs)) (st ++ [.lst ds]):=l.new hp ⟨vs,yag,r.mn (Mn.new hp)⟩
theorem newR (l:Rl K ρ H st) (v:D:=.ref st.length):(ρ ++ [p])[st.length]?=some p:=by rw [← l.len,List.getElem?_append_right (Nat.le_refl _),Nat.sub_self];rfl
theorem Rl.putL {vs:List V} {ds xs:List D} (l:Rl K ρ H st) (hi:ρ[i]?=some a) (hs:st[i]?=some (.lst xs)) (r:Rps K ρ H vs ds):Rl K ρ (upd H a (.lst vs)) (st.set i (.lst ds))∧Mn K ρ H ρ (upd H a (.lst vs)):=by
 obtain ⟨ws,e,_⟩:=l.obj i a _ hi hs
 have m:Mn K ρ H ρ (upd H a (.lst vs)):=Mn.put e
 exact ⟨l.put hi hs rfl rfl m ⟨vs,yag,r.mn m⟩,m⟩
noncomputable def items (st:Store) (i:Nat):Option (List D):=match st[i]? with
 | some (.lst ds)=>some ds
 | some (.fzn ds)=>some ds
 | _=>none
theorem Rl.items {ds:List D} (l:Rl K ρ H st) (hi:ρ[i]?=some a) (h:items st i=some ds):∃ vs,SqL K H a vs∧Rps K ρ H vs ds:=by
 unfold L4.items at h
 split at h
 ·next ds' hs=>cases h;obtain ⟨vs,e,r⟩:=l.obj i a _ hi hs;exact ⟨vs,.inl (.inl e),r⟩
 ·next ds' hs=>cases h;obtain ⟨vs,e,r⟩:=l.obj i a _ hi hs;exact ⟨vs,e.sq,r⟩
 ·cases h
end
noncomputable def So (K:PySem.W.Frag) {α β:Type} (R:List Addr→Hp→α→β→Prop) (t:St→Hp→(α→Hp→Prop)→Prop) (f:DSt→Dm β):Prop :=
 ∀ (ρ:List Addr) (σ:St) (H:Hp) (δ:DSt) (st:Store) (b:β) (st':Store) (Q:α→Hp→Prop),Rl K ρ H st→Rs K ρ H σ δ→f δ st=some (b,st') →
  (∀ a H' ρ',Mn K ρ H ρ' H'→Rl K ρ' H' st'→R ρ' H' a b→Q a H')→t σ H Q
abbrev SoE (K:PySem.W.Frag) (t:TE) (f:DSt→Dm D):Prop:=So K (Rp K) t f
abbrev SoT (K:PySem.W.Frag) (t:TT) (f:DSt→Dm Bool):Prop:=So K (fun _ _=>Eq) t f
abbrev SoA (K:PySem.W.Frag) (t:TA) (f:DSt→Dm (List D)):Prop:=So K (Rps K) t f
abbrev SoO (K:PySem.W.Frag) (t:TO) (f:DSt→Dm (Option Int)):Prop:=So K (fun _ _=>Eq) t f
noncomputable def So1 (K:PySem.W.Frag) (r:V→Hp→VK→Prop) (g:D→Dm D):Prop :=
 ∀ (ρ:List Addr) (H:Hp) (st:Store) (x:V) (a:D) (b:D) (st':Store) (Q:VK),Rl K ρ H st→Rp K ρ H x a→g a st=some (b,st')→(∀ v H' ρ',Mn K ρ H ρ' H'→Rl K ρ' H' st'→Rp K ρ' H' v b→Q v H')→r x H Q
noncomputable def So2 (K:PySem.W.Frag) (r:R2) (g:D→D→Dm D):Prop :=
 ∀ (ρ:List Addr) (H:Hp) (st:Store) (x y:V) (a c:D) (b:D) (st':Store) (Q:VK),Rl K ρ H st→Rp K ρ H x a→Rp K ρ H y c→g a c st=some (b,st')→(∀ v H' ρ',Mn K ρ H ρ' H'→Rl K ρ' H' st'→Rp K ρ' H' v b→Q v H')→r x y H Q
noncomputable def SoC (K:PySem.W.Frag) (r:List V→Hp→VK→Prop) (g:List D→Dm D):Prop :=
 ∀ (ρ:List Addr) (H:Hp) (st:Store) (xs:List V) (as:List D) (b:D) (st':Store) (Q:VK),Rl K ρ H st→Rps K ρ H xs as→g as st=some (b,st')→(∀ v H' ρ',Mn K ρ H ρ' H'→Rl K ρ' H' st'→Rp K ρ' H' v b→Q v H')→r xs H Q
noncomputable def SoM (K:PySem.W.Frag) (T:String) (r:V→List V→Hp→VK→Prop) (g:D→List D→Dm D):Prop :=
 ∀ (ρ:List Addr) (H:Hp) (st:Store) (x:V) (xs:List V) (a:D) (as:List D) (b:D) (st':Store) (Q:VK),Rl K ρ H st→Rp K ρ H x a→Rps K ρ H xs as→g a as st=some (b,st')→(∀ v H' ρ',Mn K ρ H ρ' H'→Rl K ρ' H' st'→Rp K ρ' H' v b→Q v H')→r x xs H Q
noncomputable def bnd {α β:Type} (m:Option (α×Store)) (k:α→Dm β):Option (β×Store):=match m with
 | some (a,st)=>k a st
 | none=>none
theorem Zab {α β:Type} {m:Option (α×Store)} {k:α→Dm β} {r:β×Store} (h:bnd m k=some r):∃ a st,m=some (a,st)∧k a st=some r:=by
 cases m with
 | none=>cases h
 | some p=>exact ⟨p.1,p.2,rfl,h⟩
section
variable {K:PySem.W.Frag}
noncomputable def fVar (i:Nat):DSt→Dm D:=fun δ st=>match δ[i]? with
 | some (some d)=>some (d,st)
 | _=>none
theorem Zaa (i:Nat):SoE K (tVar i) (fVar i):=by
 intro ρ σ H δ st b st' Q l rs e q
 unfold fVar at e
 split at e
 ·next d hd=>cases e;obtain ⟨v,ev,r⟩:=rs.2 i _ hd;exact ⟨v,ev,q v H ρ .refl l r⟩
 ·cases e
noncomputable def fC (d:D):DSt→Dm D:=fun _ st=>some (d,st)
theorem so_c {v:V} {d:D} (h:∀ ρ H,Rp K ρ H v d):SoE K (tC v) (fC d):=by
 intro ρ σ H δ st b st' Q l rs e q
 cases e
 exact q v H ρ .refl l (h ρ H)
theorem yac (i:Int):SoE K (tC (.int i)) (fC (.int i)):=so_c fun _ _=>.int i
theorem xbu (b:Bool):SoE K (tC (.bl b)) (fC (.bl b)):=so_c fun _ _=>.bl b
theorem zaE (x:Str):SoE K (tC (.str x)) (fC (.str x)):=so_c fun _ _=>.str x
theorem yaJ:SoE K (tC .non) (fC .non):=so_c fun _ _=>.non
noncomputable def fOp (g:D→D→Dm D) (fa fb:DSt→Dm D):DSt→Dm D:=fun δ st=>bnd (fa δ st) fun a st1=>bnd (fb δ st1) fun b st2=>g a b st2
theorem Yac {r:R2} {g:D→D→Dm D} {ta tb:TE} {fa fb:DSt→Dm D} (hr:So2 K r g) (ha:SoE K ta fa) (hb:SoE K tb fb):SoE K (tOp r ta tb) (fOp g fa fb):=by
 intro ρ σ H δ st b st' Q l rs e q
 obtain ⟨a,st1,e1,e⟩:=Zab e
 obtain ⟨c,st2,e2,e⟩:=Zab e
 refine ha ρ σ H δ st a st1 _ l rs e1 fun x H1 ρ1 m1 l1 r1=>hb ρ1 σ H1 δ st1 c st2 _ l1 (rs.mn m1) e2 fun y H2 ρ2 m2 l2 r2=>?_
 exact hr ρ2 H2 st2 x y a c b st' Q l2 (r1.mn m2) r2 e fun v H3 ρ3 m3 l3 r3=>q v H3 ρ3 ((m1.trans m2).trans m3) l3 r3
noncomputable def fUn (g:D→Dm D) (fa:DSt→Dm D):DSt→Dm D:=fun δ st=>bnd (fa δ st) fun a st1=>g a st1
theorem so_un {r:V→Hp→VK→Prop} {g:D→Dm D} {ta:TE} {fa:DSt→Dm D} (hr:So1 K r g) (ha:SoE K ta fa):SoE K (tUn r ta) (fUn g fa):=by
 intro ρ σ H δ st b st' Q l rs e q
 obtain ⟨a,st1,e1,e⟩:=Zab e
 exact ha ρ σ H δ st a st1 _ l rs e1 fun x H1 ρ1 m1 l1 r1=>hr ρ1 H1 st1 x a b st' Q l1 r1 e fun v H3 ρ3 m3 l3 r3=>q v H3 ρ3 (m1.trans m3) l3 r3
noncomputable def fNil:DSt→Dm (List D):=fun _ st=>some ([],st)
noncomputable def fCons (fa:DSt→Dm D) (fr:DSt→Dm (List D)):DSt→Dm (List D):=fun δ st=>bnd (fa δ st) fun a st1=>bnd (fr δ st1) fun r st2=>some (a :: r,st2)
theorem xaa:SoA K tNil fNil:=by
 intro ρ σ H δ st b st' Q l rs e q
 cases e
 exact q [] H ρ .refl l .nil
theorem yaa {ta:TE} {tr:TA} {fa:DSt→Dm D} {fr:DSt→Dm (List D)} (ha:SoE K ta fa) (hr:SoA K tr fr):SoA K (tCons ta tr) (fCons fa fr):=by
 intro ρ σ H δ st b st' Q l rs e q
 obtain ⟨a,st1,e1,e⟩:=Zab e
 obtain ⟨c,st2,e2,e⟩:=Zab e
 cases e
 exact ha ρ σ H δ st a st1 _ l rs e1 fun x H1 ρ1 m1 l1 r1=>hr ρ1 σ H1 δ st1 c _ _ l1 (rs.mn m1) e2 fun y H2 ρ2 m2 l2 r2=>q _ H2 ρ2 (m1.trans m2) l2 (.cons (r1.mn m2) r2)
noncomputable def lim (n:Nat):Bool:=Nat.ble n 100000
theorem Za7 {n:Nat} (h:lim n=true):n≤sizeLine:=Nat.le_trans (Nat.le_of_ble_eq_true h) (by decide)
theorem xbB {n:Nat} (h:lim n=true):n < sizeLine:=Nat.lt_of_le_of_lt (Nat.le_of_ble_eq_true h) (by decide)
noncomputable def fTup (fa:DSt→Dm (List D)):DSt→Dm D:=fun δ st=>bnd (fa δ st) fun as st1=>if lim as.length=true then some (.tup as,st1) else none
theorem yal {ta:TA} {fa:DSt→Dm (List D)} (ha:SoA K ta fa):SoE K (tTup ta) (fTup fa):=by
 intro ρ σ H δ st b st' Q l rs e q
 obtain ⟨as,st1,e1,e⟩:=Zab e
 split at e
 ·next hl =>
  cases e
  refine ha ρ σ H δ st as _ _ l rs e1 fun xs H1 ρ1 m1 l1 r1=>⟨by rw [r1.length];exact Za7 hl,fun p hp=>?_⟩
  have m2:Mn K ρ1 H1 ρ1 (upd H1 p (.tup xs)):=Mn.same (Same.up hp)
  exact q _ _ ρ1 (m1.trans m2) (l1.same (Same.up hp)) (.tup (SqT.of yag) (r1.mn m2))
 ·cases e
noncomputable def fLst (fa:DSt→Dm (List D)):DSt→Dm D:=fun δ st=>bnd (fa δ st) fun as st1=>if lim as.length=true then some (.ref st1.length,st1 ++ [.lst as]) else none
theorem Xap {ta:TA} {fa:DSt→Dm (List D)} (ha:SoA K ta fa):SoE K (tLst ta) (fLst fa):=by
 intro ρ σ H δ st b st' Q l rs e q
 obtain ⟨as,st1,e1,e⟩:=Zab e
 split at e
 ·next hl =>
  cases e
  refine ha ρ σ H δ st as _ _ l rs e1 fun xs H1 ρ1 m1 l1 r1=>⟨by rw [r1.length];exact Za7 hl,fun p hp=>?_⟩
  exact q _ _ _ (m1.trans (Mn.new hp)) (l1.newL hp r1) (.ref (newR l1))
 ·cases e
noncomputable def fTest (fa:DSt→Dm D):DSt→Dm Bool:=fun δ st=>bnd (fa δ st) fun a st1=>match a with
 | .bl b=>some (b,st1)
 | _=>none
theorem Zae {ta:TE} {fa:DSt→Dm D} (ha:SoE K ta fa):SoT K (tTest ta) (fTest fa):=by
 intro ρ σ H δ st b st' Q l rs e q
 obtain ⟨a,st1,e1,e⟩:=Zab e
 cases a <;> simp at e
 obtain ⟨rfl,rfl⟩:=e
 refine ha ρ σ H δ st _ _ _ l rs e1 fun x H1 ρ1 m1 l1 r1=>?_
 cases r1
 exact ⟨_,rfl,q _ H1 ρ1 m1 l1 rfl⟩
theorem XbG {ta:TE} {fa:DSt→Dm D} (ha:SoE K ta fa):SoT K (tB ta) (fTest fa):=Zae ha
noncomputable def fNot (fa:DSt→Dm Bool):DSt→Dm Bool:=fun δ st=>bnd (fa δ st) fun a st1=>some (!a,st1)
theorem zbl {ta:TT} {fa:DSt→Dm Bool} (ha:SoT K ta fa):SoT K (tNot ta) (fNot fa):=by
 intro ρ σ H δ st b st' Q l rs e q
 obtain ⟨a,st1,e1,e⟩:=Zab e
 cases e
 exact ha ρ σ H δ st _ _ _ l rs e1 fun x H1 ρ1 m1 l1 r1=>q _ H1 ρ1 m1 l1 (by rw [r1])
noncomputable def fAnd (fa fb:DSt→Dm Bool):DSt→Dm Bool:=fun δ st=>bnd (fa δ st) fun a st1=>if a=true then fb δ st1 else some (false,st1)
noncomputable def fOr (fa fb:DSt→Dm Bool):DSt→Dm Bool:=fun δ st=>bnd (fa δ st) fun a st1=>if a=true then some (true,st1) else fb δ st1
theorem yaN {ta tb:TT} {fa fb:DSt→Dm Bool} (ha:SoT K ta fa) (hb:SoT K tb fb):SoT K (tOr ta tb) (fOr fa fb):=by
 intro ρ σ H δ st b st' Q l rs e q
 obtain ⟨a,st1,e1,e⟩:=Zab e
 refine ha ρ σ H δ st _ _ _ l rs e1 fun x H1 ρ1 m1 l1 r1=>?_
 subst r1
 cases x with
 | false =>
  refine iteF ?_
  rw [if_neg Bool.false_ne_true] at e
  exact hb ρ1 σ H1 δ st1 b st' _ l1 (rs.mn m1) e fun y H2 ρ2 m2 l2 r2=>q y H2 ρ2 (m1.trans m2) l2 r2
 | true =>
  refine iteT ?_
  rw [if_pos rfl] at e
  cases e
  exact q _ H1 ρ1 m1 l1 rfl
noncomputable def fAndV (fa fb:DSt→Dm D):DSt→Dm D:=fun δ st=>bnd (fTest fa δ st) fun a st1=>if a=true then fb δ st1 else some (.bl false,st1)
noncomputable def fOrV (fa fb:DSt→Dm D):DSt→Dm D:=fun δ st=>bnd (fTest fa δ st) fun a st1=>if a=true then some (.bl true,st1) else fb δ st1
noncomputable def fNotV (fa:DSt→Dm D):DSt→Dm D:=fun δ st=>bnd (fTest fa δ st) fun a st1=>some (.bl (!a),st1)
noncomputable def fIf {β:Type} (c:DSt→Dm Bool) (fa fb:DSt→Dm β):DSt→Dm β:=fun δ st=>bnd (c δ st) fun a st1=>if a=true then fa δ st1 else fb δ st1
noncomputable def fNoPart:DSt→Dm (Option Int):=fun _ st=>some (none,st)
noncomputable def fPart (fa:DSt→Dm D):DSt→Dm (Option Int):=fun δ st=>bnd (fa δ st) fun a st1=>match a with
 | .int i=>some (some i,st1)
 | _=>none
theorem Xai:SoO K tNoPart fNoPart:=by
 intro ρ σ H δ st b st' Q l rs e q
 cases e
 exact q _ H ρ .refl l rfl
theorem zat {ta:TE} {fa:DSt→Dm D} (ha:SoE K ta fa):SoO K (tPart ta) (fPart fa):=by
 intro ρ σ H δ st b st' Q l rs e q
 obtain ⟨a,st1,e1,e⟩:=Zab e
 cases a <;> simp at e
 obtain ⟨rfl,rfl⟩:=e
 refine ha ρ σ H δ st _ _ _ l rs e1 fun x H1 ρ1 m1 l1 r1=>?_
 cases r1
 exact ⟨_,rfl,q _ H1 ρ1 m1 l1 rfl⟩
noncomputable def SoS3 (K:PySem.W.Frag) (r:V→Option Int→Option Int→Hp→VK→Prop) (g:D→Option Int→Option Int→Dm D):Prop :=
 ∀ lo hi,So1 K (fun x=>r x lo hi) (fun a=>g a lo hi)
noncomputable def fSl (g:D→Option Int→Option Int→Dm D) (fa:DSt→Dm D) (fl fh:DSt→Dm (Option Int)):DSt→Dm D:=fun δ st=>bnd (fa δ st) fun a st1=>bnd (fl δ st1) fun lo st2=>bnd (fh δ st2) fun hi st3=>g a lo hi st3
theorem ZaH {r:V→Option Int→Option Int→Hp→VK→Prop} {g:D→Option Int→Option Int→Dm D} {ta:TE} {tl th:TO} {fa:DSt→Dm D} {fl fh:DSt→Dm (Option Int)} (hr:SoS3 K r g) (ha:SoE K ta fa) (hl:SoO K tl fl) (hh:SoO K th fh):SoE K (tSl r ta tl th) (fSl g fa fl fh):=by
 intro ρ σ H δ st b st' Q l rs e q
 obtain ⟨a,st1,e1,e⟩:=Zab e
 obtain ⟨lo,st2,e2,e⟩:=Zab e
 obtain ⟨hi,st3,e3,e⟩:=Zab e
 refine ha ρ σ H δ st a st1 _ l rs e1 fun x H1 ρ1 m1 l1 r1=>hl ρ1 σ H1 δ st1 lo st2 _ l1 (rs.mn m1) e2 fun y H2 ρ2 m2 l2 r2=>hh ρ2 σ H2 δ st2 hi st3 _ l2 (rs.mn (m1.trans m2)) e3 fun z H3 ρ3 m3 l3 r3=>?_
 subst r2 r3
 exact hr y z ρ3 H3 st3 x a b st' Q l3 (r1.mn (m2.trans m3)) e fun v H4 ρ4 m4 l4 r4=>q v H4 ρ4 (((m1.trans m2).trans m3).trans m4) l4 r4
noncomputable def fCB (g:List D→Dm D) (fa:DSt→Dm (List D)):DSt→Dm D:=fun δ st=>bnd (fa δ st) fun as st1=>g as st1
theorem Yag {r:List V→Hp→VK→Prop} {g:List D→Dm D} {ta:TA} {fa:DSt→Dm (List D)} (hr:SoC K r g) (ha:SoA K ta fa):SoE K (tCB r ta) (fCB g fa):=by
 intro ρ σ H δ st b st' Q l rs e q
 obtain ⟨as,st1,e1,e⟩:=Zab e
 exact ha ρ σ H δ st as st1 _ l rs e1 fun x H1 ρ1 m1 l1 r1=>hr ρ1 H1 st1 x as b st' Q l1 r1 e fun v H3 ρ3 m3 l3 r3=>q v H3 ρ3 (m1.trans m3) l3 r3
noncomputable def spF (K:PySem.W.Frag) (n:Nat) (F:List D→Dm D):Sp:=fun vs H Q _=>vs.length=n∧∃ (ρ:List Addr) (st:Store) (ds:List D) (b:D) (st':Store),Rl K ρ H st∧Rps K ρ H vs ds∧F ds st=some (b,st') ∧
 ∀ v H' ρ',Mn K ρ H ρ' H'→Rl K ρ' H' st'→Rp K ρ' H' v b→Q v H'
theorem zag {n:Nat} {F:List D→Dm D} {ta:TA} {fa:DSt→Dm (List D)} {E:XK} (ha:SoA K ta fa) (hn:∀ δ st as st',fa δ st=some (as,st')→as.length=n):SoE K (tCall (spF K n F) [] E ta) (fCB F fa):=by
 intro ρ σ H δ st b st' Q l rs e q
 obtain ⟨as,st1,e1,e⟩:=Zab e
 refine ha ρ σ H δ st as st1 _ l rs e1 fun vs H1 ρ1 m1 l1 r1=>⟨?_,ρ1,st1,as,b,st',l1,?_,e,fun v H3 ρ3 m3 l3 r3=>q v H3 ρ3 (m1.trans m3) l3 r3⟩
 ·rw [List.append_nil,r1.length];exact hn _ _ _ _ e1
 ·rw [List.append_nil];exact r1
theorem zaf {δ:DSt} {st st':Store} {as:List D} (h:fNil δ st=some (as,st')):as.length=0:=by cases h;rfl
theorem Xab {fa:DSt→Dm D} {fr:DSt→Dm (List D)} {n:Nat} (hr:∀ δ st as st',fr δ st=some (as,st')→as.length=n):∀ δ st as st',fCons fa fr δ st=some (as,st')→as.length=n + 1:=fun δ st as st' h=>by
 obtain ⟨a,st1,e1,e⟩:=Zab h
 obtain ⟨c,st2,e2,e⟩:=Zab e
 cases e
 rw [List.length_cons,hr _ _ _ _ e2]
end
end L4
namespace L4
open PySem PySem.Spec L2
section
variable {K:PySem.W.Frag}
noncomputable def gI0 (h:Int→Int→D):D→D→Dm D
 | .int i,.int j,st=>some (h i j,st)
 | _,_,_=>none
theorem Ybc {gv:Int→Int→V} {h:Int→Int→D} (hh:∀ i j ρ H,Rp K ρ H (gv i j) (h i j)):So2 K (rI0 gv) (gI0 h):=by
 intro ρ H st x y a c b st' Q l rx ry e q
 unfold gI0 at e
 split at e
 ·cases e;cases rx;cases ry;exact ⟨_,_,rfl,rfl,q _ H ρ .refl l (hh _ _ ρ H)⟩
 ·cases e
noncomputable def gIC (c:Int→Int→Bool) (h:Int→Int→D):D→D→Dm D
 | .int i,.int j,st=>if c i j=true then some (h i j,st) else none
 | _,_,_=>none
theorem Xbu {C:Int→Int→Prop} {c:Int→Int→Bool} {gv:Int→Int→V} {h:Int→Int→D} (hc:∀ i j,c i j=true→C i j) (hh:∀ i j ρ H,Rp K ρ H (gv i j) (h i j)):So2 K (rI C gv) (gIC c h):=by
 intro ρ H st x y a d b st' Q l rx ry e q
 unfold gIC at e
 split at e
 ·split at e
  ·next hcc=>cases e;cases rx;cases ry;exact ⟨_,_,rfl,rfl,hc _ _ hcc,q _ H ρ .refl l (hh _ _ ρ H)⟩
  ·cases e
 ·cases e
noncomputable def gAdd:D→D→Dm D:=gI0 fun i j=>.int (i + j)
noncomputable def gSub:D→D→Dm D:=gI0 fun i j=>.int (i - j)
noncomputable def gMul:D→D→Dm D:=gIC (fun i j=>decide (-18446744073709551616 < i∧i < 18446744073709551616) || decide (-18446744073709551616 < j∧j < 18446744073709551616)) fun i j=>.int (i * j)
noncomputable def gFdiv:D→D→Dm D:=gIC (fun i j=>decide (0 < j∧j < 1073741824)) fun i j=>.int (i / j)
noncomputable def gMod:D→D→Dm D:=gIC (fun i j=>decide (0 < j)) fun i j=>.int (i % j)
noncomputable def gPow:D→D→Dm D:=gIC (fun i j=>decide (0≤j∧j≤1000000∧i.natAbs < 18446744073709551616)) fun i j=>.int (i ^ j.toNat)
noncomputable def gLt:D→D→Dm D:=gI0 fun i j=>.bl (decide (i < j))
noncomputable def gLe:D→D→Dm D:=gI0 fun i j=>.bl (decide (i≤j))
noncomputable def gGt:D→D→Dm D:=gI0 fun i j=>.bl (decide (j < i))
noncomputable def gGe:D→D→Dm D:=gI0 fun i j=>.bl (decide (j≤i))
theorem zaq:So2 K (rI0 fun i j=>.int (i + j)) gAdd:=Ybc fun _ _ _ _=>.int _
theorem so_sub:So2 K (rI0 fun i j=>.int (i - j)) gSub:=Ybc fun _ _ _ _=>.int _
theorem ZaJ:So2 K (rI CMul fun i j=>.int (i * j)) gMul:=Xbu (fun i j h=>by
 rw [Bool.or_eq_true,decide_eq_true_eq,decide_eq_true_eq] at h
 exact h) fun _ _ _ _=>.int _
theorem ybl:So2 K (rI CDiv fun i j=>.int (i / j)) gFdiv:=Xbu (fun i j h=>of_decide_eq_true (p:=0 < j∧j < 1073741824) h) fun _ _ _ _=>.int _
theorem YaJ:So2 K (rI (fun _ j=>0 < j) fun i j=>.int (i % j)) gMod:=Xbu (fun i j h=>of_decide_eq_true h) fun _ _ _ _=>.int _
theorem Zbl:So2 K (rI CPow fun i j=>.int (i ^ j.toNat)) gPow:=Xbu (fun i j h=>by have h:=of_decide_eq_true (p:=0≤j∧j≤1000000∧i.natAbs < 18446744073709551616) h;exact ⟨h.1,h.2.1,by omega⟩) fun _ _ _ _=>.int _
theorem xa3:So2 K (rI0 fun i j=>.bl (decide (i < j))) gLt:=Ybc fun _ _ _ _=>.bl _
theorem so_le:So2 K (rI0 fun i j=>.bl (decide (i≤j))) gLe:=Ybc fun _ _ _ _=>.bl _
theorem zbv:So2 K (rI0 fun i j=>.bl (decide (j < i))) gGt:=Ybc fun _ _ _ _=>.bl _
theorem so_ge:So2 K (rI0 fun i j=>.bl (decide (j≤i))) gGe:=Ybc fun _ _ _ _=>.bl _
noncomputable def gNeg:D→Dm D
 | .int i,st=>some (.int (-i),st)
 | _,_=>none
theorem so_neg:So1 K (rU fun i=>.int (-i)) gNeg:=by
 intro ρ H st x a b st' Q l rx e q
 unfold gNeg at e
 split at e
 ·cases e;cases rx;exact ⟨_,rfl,q _ H ρ .refl l (.int _)⟩
 ·cases e
noncomputable def sV:D→Option V
 | .non=>some .non
 | .bl b=>some (.bl b)
 | .int i=>some (.int i)
 | .str x=>some (.str x)
 | _=>none
theorem xbc {ρ:List Addr} {H:Hp} {x v:V} {a:D} (r:Rp K ρ H x a) (h:sV a=some v):x=v:=by
 cases r <;> first | (cases h;rfl) | cases h
noncomputable def gEq (neg:Bool):D→D→Dm D:=fun a b st=>match sV a,sV b with
 | some x,some y=>if scal x y=true then some (.bl (if neg then !decide (x=y) else decide (x=y)),st) else none
 | _,_=>none
theorem ZaN:So2 K rEq (gEq false):=by
 intro ρ H st x y a c b st' Q l rx ry e q
 unfold gEq at e
 split at e
 ·next u v h1 h2 =>
  split at e
  ·next hs=>cases e;cases xbc rx h1;cases xbc ry h2;exact ⟨hs,q _ H ρ .refl l (.bl _)⟩
  ·cases e
 ·cases e
theorem so_ne:So2 K rNe (gEq true):=by
 intro ρ H st x y a c b st' Q l rx ry e q
 unfold gEq at e
 split at e
 ·next u v h1 h2 =>
  split at e
  ·next hs=>cases e;cases xbc rx h1;cases xbc ry h2;exact ⟨hs,q _ H ρ .refl l (.bl _)⟩
  ·cases e
 ·cases e
noncomputable def mapO {α β:Type} (f:α→Option β):List α→Option (List β)
 | []=>some []
 | a :: r=>match f a,mapO f r with
  | some b,some s=>some (b :: s)
  | _,_=>none
theorem YaN {α β:Type} {f:α→Option β} {a:α} {r:List α} {s:List β} (h:mapO f (a :: r)=some s):∃ b t,f a=some b∧mapO f r=some t∧s=b :: t:=by
 unfold mapO at h
 split at h
 ·next b t h1 h2=>cases h;exact ⟨b,t,h1,h2,rfl⟩
 ·cases h
theorem yaV {α β γ:Type} {f:α→Option β} {g:γ→α} {k:γ→β} (h:∀ c,f (g c)=some (k c)):∀ l:List γ,mapO f (l.map g)=some (l.map k)
 | []=>rfl
 | c :: r=>by
  show mapO f (g c :: r.map g)=_
  unfold mapO
  rw [h c,yaV h r]
  rfl
noncomputable def toP (st:Store):Nat→D→Option PyData
 | 0,_=>none
 | _ + 1,.non=>some .none
 | _ + 1,.bl b=>some (.bool b)
 | _ + 1,.int i=>some (.int i)
 | _ + 1,.str x=>some (.str x)
 | _ + 1,.ty _=>none
 | n + 1,.tup ds=>(mapO (toP st n) ds).map PyData.tuple
 | n + 1,.ref i=>match items st i with
  | some ds=>(mapO (toP st n) ds).map PyData.list
  | none=>none
theorem Ybl {ρ:List Addr} {H:Hp} {st:Store} (l:Rl K ρ H st):∀ (n:Nat) {v:V} {d:D} {p:PyData},Rp K ρ H v d→toP st n d=some p→Rep K H v p
 | 0,_,_,_,_,h=>by simp [toP] at h
 | n + 1,v,d,p,r,h=>by
  have all:∀ {vs:List V} {ds:List D} {ps:List PyData},Rps K ρ H vs ds→mapO (toP st n) ds=some ps→Reps K H vs ps:=by
   intro vs ds ps rr
   induction vs generalizing ds ps with
   | nil=>intro hm;cases rr;cases hm;exact .nil
   | cons w ws ih =>
    intro hm
    cases rr with
    | cons ra rb =>
     obtain ⟨b,t,h1,h2,rfl⟩:=YaN hm
     exact .cons (Ybl l n ra h1) (ih rb h2)
  cases r with
  | non=>simp [toP] at h;subst h;exact .non
  | bl b=>simp [toP] at h;subst h;exact .bl b
  | int i=>simp [toP] at h;subst h;exact .int i
  | str x=>simp [toP] at h;subst h;exact .str x
  | ty n=>simp [toP] at h
  | ref hi =>
   simp only [toP] at h
   split at h
   ·next ds hd =>
    obtain ⟨ps,h1,rfl⟩:=Option.map_eq_some_iff.mp h
    obtain ⟨vs,e,rr⟩:=l.items hi hd
    exact .lst e (all rr h1)
   ·cases h
  | tup q rr =>
   simp only [toP] at h
   obtain ⟨ps,h1,rfl⟩:=Option.map_eq_some_iff.mp h
   exact .tup q (all rr h1)
noncomputable def gEqD (neg:Bool):D→D→Dm D:=fun a b st=>match toP st 20 a,toP st 20 b with
 | some p,some q=>if (PyData.canLay0 p && PyData.canLay0 q && decide (min p.depth q.depth≤60))=true then some (.bl (if neg then !PyData.eqv p q else PyData.eqv p q),st) else none
 | _,_=>none
theorem Ya7 (neg:Bool):So2 K (rEqD K neg) (gEqD neg):=by
 intro ρ H st x y a c b st' Q l rx ry e q
 unfold gEqD at e
 split at e
 ·next u v h1 h2 =>
  split at e
  ·next hs =>
   cases e
   rw [Bool.and_eq_true,Bool.and_eq_true,decide_eq_true_eq] at hs
   exact ⟨u,v,Ybl l 20 rx h1,Ybl l 20 ry h2,hs.1.1,hs.1.2,hs.2,q _ H ρ .refl l (.bl _)⟩
  ·cases e
 ·cases e
theorem at_of {ρ:List Addr} {H:Hp} {vs:List V} {ds:List D} {i:Int} {d:D} (r:Rps K ρ H vs ds) (h:atI ds i=some d):∃ v,atI vs i=some v∧Rp K ρ H v d:=by
 unfold atI at h ⊢
 rw [r.length]
 cases hx:ixN ds.length i with
 | none=>rw [hx] at h;cases h
 | some j =>
  rw [hx] at h
  exact r.got h
noncomputable def gIxT:D→D→Dm D
 | .tup ds,.int i,st=>match atI ds i with
  | some d=>some (d,st)
  | none=>none
 | _,_,_=>none
theorem yan:So2 K (rIxT K) gIxT:=by
 intro ρ H st x y a c b st' Q l rx ry e q
 unfold gIxT at e
 split at e
 ·split at e
  ·next d hd =>
   cases e
   cases ry
   cases rx with
   | tup s r =>
    obtain ⟨v,hv,rv⟩:=at_of r hd
    exact ⟨_,_,_,v,rfl,rfl,s,hv,q v H ρ .refl l rv⟩
  ·cases e
 ·cases e
noncomputable def gIxL:D→D→Dm D
 | .ref r,.int i,st=>match items st r with
  | some ds=>match atI ds i with
   | some d=>some (d,st)
   | none=>none
  | none=>none
 | _,_,_=>none
theorem yaq:So2 K (rIxL K) gIxL:=by
 intro ρ H st x y a c b st' Q l rx ry e q
 unfold gIxL at e
 split at e
 ·split at e
  ·next ds hi =>
   split at e
   ·next d hd =>
    cases e
    cases ry
    cases rx with
    | ref hr =>
     obtain ⟨vs,s,r⟩:=l.items hr hi
     obtain ⟨v,hv,rv⟩:=at_of r hd
     exact ⟨_,_,_,v,rfl,rfl,s,hv,q v H ρ .refl l rv⟩
   ·cases e
  ·cases e
 ·cases e
noncomputable def gIxS:D→D→Dm D
 | .str z,.int i,st=>if lim z.length=true then match atI z.cps.toList i with
   | some c=>some (.str ⟨#[c]⟩,st)
   | none=>none
  else none
 | _,_,_=>none
noncomputable def cutD (xs:List D) (lo hi:Option Int):List D:=(xs.drop (HT.sIx xs.length 0 lo)).take (HT.sIx xs.length xs.length hi - HT.sIx xs.length 0 lo)
theorem Rps.cut {ρ:List Addr} {H:Hp} {vs:List V} {ds:List D} (r:Rps K ρ H vs ds) (lo hi:Option Int):Rps K ρ H (cutV vs lo hi) (cutD ds lo hi):=by
 unfold cutV cutD
 rw [r.length]
 exact (r.drop _).take _
noncomputable def gSlT:D→Option Int→Option Int→Dm D
 | .tup ds,lo,hi,st=>some (.tup (cutD ds lo hi),st)
 | _,_,_,_=>none
theorem got {ρ:List Addr} {H:Hp} {st:Store} {vs:List V} {ds:List D} {Q:VK} (l:Rl K ρ H st) (r:Rps K ρ H vs ds) (q:∀ v H' ρ',Mn K ρ H ρ' H'→Rl K ρ' H' st→Rp K ρ' H' v (.tup ds)→Q v H'):GotT K H vs Q :=
 fun p H' s e=>q _ H' ρ (Mn.same e) (l.same e) (.tup s (r.mn (Mn.same e)))
theorem yaE:SoS3 K (rSlTA K) gSlT:=by
 intro lo hi ρ H st x a b st' Q l rx e q
 cases a with
 | tup ds =>
  cases e
  cases rx with
  | tup s r=>exact ⟨_,_,rfl,s,got l (r.cut lo hi) q⟩
 | _=>cases e
noncomputable def gSlL:D→Option Int→Option Int→Dm D
 | .ref r,lo,hi,st=>match items st r with
  | some ds=>some (.ref st.length,st ++ [.lst (cutD ds lo hi)])
  | none=>none
 | _,_,_,_=>none
theorem xbl:SoS3 K (rSlL K) gSlL:=by
 intro lo hi ρ H st x a b st' Q l rx e q
 cases a with
 | ref i =>
  simp only [gSlL] at e
  split at e
  ·next ds hd =>
   cases e
   cases rx with
   | ref hr =>
    obtain ⟨vs,s,r⟩:=l.items hr hd
    exact ⟨_,_,rfl,s,fun p hp=>q _ _ _ (Mn.new hp) (l.newL hp (r.cut lo hi)) (.ref (newR l))⟩
  ·cases e
 | _=>cases e
noncomputable def gCatT:D→D→Dm D
 | .tup a,.tup b,st=>if lim (a.length + b.length)=true then some (.tup (a ++ b),st) else none
 | _,_,_=>none
theorem YaA:So2 K (rCatTA K) gCatT:=by
 intro ρ H st x y a c b st' Q l rx ry e q
 unfold gCatT at e
 split at e
 ·split at e
  ·next hl =>
   cases e
   cases rx with
   | tup s r =>
    cases ry with
    | tup s' r'=>exact ⟨_,_,_,_,rfl,rfl,s,s',by rw [r.length,r'.length];exact Za7 hl,got l (r.append r') q⟩
  ·cases e
 ·cases e
noncomputable def own (st:Store) (i:Nat):Option (List D):=match st[i]? with
 | some (.lst ds)=>some ds
 | _=>none
theorem zay {st:Store} {i:Nat} {ds:List D} (h:own st i=some ds):st[i]?=some (.lst ds):=by
 unfold own at h
 split at h
 ·next ds' hs=>cases h;exact hs
 ·cases h
noncomputable def gCat:D→D→Dm D
 | .ref i,.ref j,st=>match own st i,own st j with
  | some a,some b=>if lim (a.length + b.length)=true then some (.ref st.length,st ++ [.lst (a ++ b)]) else none
  | _,_=>none
 | _,_,_=>none
theorem zaG:So2 K rCat gCat:=by
 intro ρ H st x y a c b st' Q l rx ry e q
 unfold gCat at e
 split at e
 ·split at e
  ·next a b h1 h2 =>
   split at e
   ·next hl =>
    cases e
    cases rx with
    | ref hi =>
     cases ry with
     | ref hj =>
      obtain ⟨vs,e1,r1⟩:=l.obj _ _ _ hi (zay h1)
      obtain ⟨ws,e2,r2⟩:=l.obj _ _ _ hj (zay h2)
      exact ⟨_,_,_,_,rfl,rfl,e1,e2,by rw [r1.length,r2.length];exact Za7 hl,fun p hp=>q _ _ _ (Mn.new hp) (l.newL hp (r1.append r2)) (.ref (newR l))⟩
   ·cases e
  ·cases e
 ·cases e
noncomputable def gRep:D→D→Dm D
 | .ref i,.int k,st=>match own st i with
  | some a=>if (decide (-9223372036854775808≤k∧k < 9223372036854775808) && lim (a.length * k.toNat))=true then some (.ref st.length,st ++ [.lst (List.replicate k.toNat a).flatten]) else none
  | _=>none
 | _,_,_=>none
theorem XbB {ρ:List Addr} {H:Hp}:∀ {ws vs:List V} {ds:List D},Rps K ρ H ws ds→mapO sV ds=some vs→ws=vs
 | _,_,_,.nil,h=>by cases h;rfl
 | _,_,_,.cons a b,h=>by
  obtain ⟨x,t,h1,h2,rfl⟩:=YaN h
  rw [xbc a h1,XbB b h2]
theorem Xbl {a:D} {v:V} (h:sV a=some v):flatV v=true:=by cases a <;> first | (cases h;rfl) | cases h
theorem xa7:∀ {ds:List D} {vs:List V},mapO sV ds=some vs→vs.all flatV=true
 | [],_,h=>by cases h;rfl
 | d :: r,_,h=>by
  obtain ⟨x,t,h1,h2,rfl⟩:=YaN h
  rw [List.all_cons,Xbl h1,xa7 h2];rfl
noncomputable def seqOf (st:Store):D→Option (List D)
 | .tup ds=>some ds
 | .ref i=>items st i
 | _=>none
theorem Xa7 {ρ:List Addr} {H:Hp} {st:Store} {x:V} {a:D} {ds:List D} (l:Rl K ρ H st) (r:Rp K ρ H x a) (h:seqOf st a=some ds):∃ p vs,x=.ref p∧(SqL K H p vs∨SqT K H p vs)∧Rps K ρ H vs ds:=by
 cases r <;> first | (cases h;done) | skip
 ·next hi=>obtain ⟨vs,s,r⟩:=l.items hi h;exact ⟨_,vs,rfl,.inl s,r⟩
 ·next s r=>cases h;exact ⟨_,_,rfl,.inr s,r⟩
noncomputable def gIn (neg:Bool):D→D→Dm D:=fun a c st=>match sV a,(seqOf st c).bind (mapO sV) with
 | some x,some vs=>some (.bl (if neg then !inV x vs else inV x vs),st)
 | _,_=>none
theorem xaZ (neg:Bool):So2 K (rIn K neg) (gIn neg):=by
 intro ρ H st x y a c b st' Q l rx ry e q
 unfold gIn at e
 split at e
 ·next u vs h1 h2 =>
  cases e
  obtain ⟨ds,h3,h4⟩:=Option.bind_eq_some_iff.mp h2
  obtain ⟨p,ws,rfl,s,r⟩:=Xa7 l ry h3
  cases xbc rx h1
  cases XbB r h4
  exact ⟨p,_,rfl,s,Xbl h1,xa7 h4,q _ H ρ .refl l (.bl _)⟩
 ·cases e
theorem Rps.one' {ρ:List Addr} {H:Hp} {vs:List V} {d:D} (r:Rps K ρ H vs [d]):∃ v,vs=[v]∧Rp K ρ H v d:=by cases r with | cons a b=>cases b;exact ⟨_,rfl,a⟩
theorem Rps.two' {ρ:List Addr} {H:Hp} {vs:List V} {d e:D} (r:Rps K ρ H vs [d,e]):∃ v w,vs=[v,w]∧Rp K ρ H v d∧Rp K ρ H w e:=by
 cases r with
 | cons a b=>obtain ⟨w,rfl,r⟩:=b.one';exact ⟨_,_,rfl,a,r⟩
noncomputable def gLen:List D→Dm D
 | [a],st=>match seqOf st a with
  | some ds=>some (.int ds.length,st)
  | none=>none
 | _,_=>none
theorem xal:SoC K (fun xs H Q=>∃ p ys,xs=[.ref p]∧(SqL K H p ys∨SqT K H p ys)∧Q (.int ys.length) H) gLen:=by
 intro ρ H st xs as b st' Q l rx e q
 unfold gLen at e
 split at e
 ·split at e
  ·next ds hd =>
   cases e
   obtain ⟨v,rfl,r⟩:=rx.one'
   obtain ⟨p,vs,rfl,s,r⟩:=Xa7 l r hd
   exact ⟨p,vs,rfl,s,q _ H ρ .refl l (by rw [r.length];exact .int _)⟩
  ·cases e
 ·cases e
noncomputable def gList:List D→Dm D
 | [a],st=>match seqOf st a with
  | some ds=>some (.ref st.length,st ++ [.lst ds])
  | none=>none
 | _,_=>none
theorem ZaV:SoC K (fun xs H Q=>∃ p ys,xs=[.ref p]∧(SqL K H p ys∨SqT K H p ys)∧∀ l,H l=none→Q (.ref l) (upd H l (.lst ys))) gList:=by
 intro ρ H st xs as b st' Q l rx e q
 unfold gList at e
 split at e
 ·split at e
  ·next ds hd =>
   cases e
   obtain ⟨v,rfl,r⟩:=rx.one'
   obtain ⟨p,vs,rfl,s,r⟩:=Xa7 l r hd
   exact ⟨p,vs,rfl,s,fun p hp=>q _ _ _ (Mn.new hp) (l.newL hp r) (.ref (newR l))⟩
  ·cases e
 ·cases e
noncomputable def gTuple:List D→Dm D
 | [a],st=>match seqOf st a with
  | some ds=>some (.tup ds,st)
  | none=>none
 | _,_=>none
theorem yay:SoC K (fun xs H Q=>∃ p ys,xs=[.ref p]∧((SqL K H p ys∧∀ l,H l=none→Q (.ref l) (upd H l (.tup ys)))∨(SqT K H p ys∧Q (.ref p) H))) gTuple:=by
 intro ρ H st xs as b st' Q l rx e q
 unfold gTuple at e
 split at e
 ·split at e
  ·next ds hd =>
   cases e
   obtain ⟨v,rfl,r⟩:=rx.one'
   obtain ⟨p,vs,rfl,s,r'⟩:=Xa7 l r hd
   refine ⟨p,vs,rfl,?_⟩
   rcases s with s | s
   ·exact .inl ⟨s,(got l r' q).new⟩
   ·exact .inr ⟨s,(got l r' q).it s⟩
  ·cases e
 ·cases e
noncomputable def gMax2:List D→Dm D
 | [.int i,.int j],st=>some (.int (if j > i then j else i),st)
 | _,_=>none
noncomputable def gMin2:List D→Dm D
 | [.int i,.int j],st=>some (.int (if j < i then j else i),st)
 | _,_=>none
theorem zbH:SoC K (fun xs H Q=>∃ i j,xs=[.int i,.int j]∧Q (.int (if j > i then j else i)) H) gMax2:=by
 intro ρ H st xs as b st' Q l rx e q
 unfold gMax2 at e
 split at e
 ·cases e
  obtain ⟨v,w,rfl,r1,r2⟩:=rx.two'
  cases r1;cases r2
  exact ⟨_,_,rfl,q _ H ρ .refl l (.int _)⟩
 ·cases e
noncomputable def gInt1:List D→Dm D
 | [.int i],st=>some (.int i,st)
 | [.bl k],st=>some (.int (if k then 1 else 0),st)
 | _,_=>none
theorem zbm:SoC K (fun xs H Q=>(∃ i,xs=[.int i]∧Q (.int i) H)∨∃ k,xs=[.bl k]∧Q (.int (if k then 1 else 0)) H) gInt1:=by
 intro ρ H st xs as b st' Q l rx e q
 unfold gInt1 at e
 split at e
 ·cases e
  obtain ⟨v,rfl,r⟩:=rx.one'
  cases r
  exact .inl ⟨_,rfl,q _ H ρ .refl l (.int _)⟩
 ·cases e
  obtain ⟨v,rfl,r⟩:=rx.one'
  cases r
  exact .inr ⟨_,rfl,q _ H ρ .refl l (.int _)⟩
 ·cases e
noncomputable def gRange1:List D→Dm D
 | [.int j],st=>some (.ref st.length,st ++ [.rng 0 j])
 | _,_=>none
noncomputable def gRange2:List D→Dm D
 | [.int i,.int j],st=>some (.ref st.length,st ++ [.rng i j])
 | _,_=>none
theorem xaN:SoC K (fun xs H Q=>∃ j:Int,xs=[.int j]∧∀ p,H p=none→Q (.ref p) (upd H p (.rng 0 j))) gRange1:=by
 intro ρ H st xs as b st' Q l rx e q
 unfold gRange1 at e
 split at e
 ·cases e
  obtain ⟨v,rfl,r⟩:=rx.one'
  cases r
  exact ⟨_,rfl,fun p hp=>q _ _ _ (Mn.new hp) (l.new hp (show RpO K _ _ p (.rng _ _) from yag)) (.ref (newR l))⟩
 ·cases e
theorem xaz:SoC K (fun xs H Q=>∃ i j:Int,xs=[.int i,.int j]∧∀ p,H p=none→Q (.ref p) (upd H p (.rng i j))) gRange2:=by
 intro ρ H st xs as b st' Q l rx e q
 unfold gRange2 at e
 split at e
 ·cases e
  obtain ⟨v,w,rfl,r1,r2⟩:=rx.two'
  cases r1;cases r2
  exact ⟨_,_,rfl,fun p hp=>q _ _ _ (Mn.new hp) (l.new hp (show RpO K _ _ p (.rng _ _) from yag)) (.ref (newR l))⟩
 ·cases e
noncomputable def rangeD (lo:Int) (n:Nat):List D:=(List.range n).map fun (k:Nat)=>D.int (lo + k)
theorem ybm {ρ:List Addr} {H:Hp} (lo:Int) (n:Nat):Rps K ρ H (rangeV lo n) (rangeD lo n):=by
 unfold rangeV rangeD
 induction (List.range n) with
 | nil=>exact .nil
 | cons a r ih=>exact .cons (.int _) ih
noncomputable def okR (lo hi:Int):Bool:=decide (-4611686018427387904≤lo∧lo < 4611686018427387904∧-4611686018427387904≤hi∧hi < 4611686018427387904) && lim (hi - lo).toNat
theorem zbC {lo hi:Int} (h:okR lo hi=true):(-(2 ^ 62)≤lo∧lo < 2 ^ 62∧-(2 ^ 62)≤hi∧hi < 2 ^ 62)∧(hi - lo).toNat≤2 ^ 24:=by
 unfold okR at h
 rw [Bool.and_eq_true,decide_eq_true_eq] at h
 exact ⟨by omega,Nat.le_trans (Nat.le_of_ble_eq_true h.2) (by decide)⟩
noncomputable def rngOf (st:Store):D→Option (Int×Int)
 | .ref i=>match st[i]? with
  | some (.rng lo hi)=>some (lo,hi)
  | _=>none
 | _=>none
theorem rng_of {ρ:List Addr} {H:Hp} {st:Store} {x:V} {a:D} {lo hi:Int} (l:Rl K ρ H st) (r:Rp K ρ H x a) (h:rngOf st a=some (lo,hi)):∃ p,x=.ref p∧H p=some (.rng lo hi):=by
 cases r <;> first | (cases h;done) | skip
 ·next hi' =>
  simp only [rngOf] at h
  split at h
  ·next lo' hi'' hs=>cases h;exact ⟨_,rfl,l.obj _ _ _ hi' hs⟩
  ·cases h
noncomputable def gListR:List D→Dm D
 | [a],st=>match rngOf st a with
  | some (lo,hi)=>if okR lo hi=true then some (.ref st.length,st ++ [.lst (rangeD lo (hi - lo).toNat)]) else none
  | none=>none
 | _,_=>none
theorem Zav:SoC K (fun xs H Q=>∃ p lo hi,xs=[.ref p]∧H p=some (.rng lo hi)∧(-(2 ^ 62)≤lo∧lo < 2 ^ 62∧-(2 ^ 62)≤hi∧hi < 2 ^ 62)∧(hi - lo).toNat≤2 ^ 24 ∧
  ∀ l,H l=none→Q (.ref l) (upd H l (.lst (rangeV lo (hi - lo).toNat)))) gListR:=by
 intro ρ H st xs as b st' Q l rx e q
 unfold gListR at e
 split at e
 ·split at e
  ·next lo hi hd =>
   split at e
   ·next ok =>
    cases e
    obtain ⟨v,rfl,r⟩:=rx.one'
    obtain ⟨p,rfl,s⟩:=rng_of l r hd
    exact ⟨p,lo,hi,rfl,s,(zbC ok).1,(zbC ok).2,fun p hp=>q _ _ _ (Mn.new hp) (l.newL hp (ybm lo _)) (.ref (newR l))⟩
   ·cases e
  ·cases e
 ·cases e
noncomputable def gTupleR:List D→Dm D
 | [a],st=>match rngOf st a with
  | some (lo,hi)=>if okR lo hi=true then some (.tup (rangeD lo (hi - lo).toNat),st) else none
  | none=>none
 | _,_=>none
noncomputable def iV:D→Option Int
 | .int i=>some i
 | _=>none
noncomputable def sortI (ns:List Int):List Int:=ns.mergeSort fun a b=>decide (a≤b)
noncomputable def gSorted:List D→Dm D
 | [a],st=>match (seqOf st a).bind (mapO iV) with
  | some ns=>if ns.length < 64 then some (.ref st.length,st ++ [.lst ((sortI ns).map D.int)]) else none
  | none=>none
 | _,_=>none
noncomputable def bV:D→Option Bool
 | .bl i=>some i
 | _=>none
noncomputable def gAll:List D→Dm D
 | [.ref i],st=>match (items st i).bind (mapO bV) with
  | some bs=>some (.bl (bs.all id),st)
  | none=>none
 | _,_=>none
noncomputable def tyD (T:String) (st:Store):D→Bool
 | .str _=>T == "str"
 | .tup _=>T == "tuple"
 | .ref i=>T == "list" && (items st i).isSome
 | _=>false
theorem tyD_of {ρ:List Addr} {H:Hp} {st:Store} {x:V} {a:D} {T:String} (l:Rl K ρ H st) (r:Rp K ρ H x a) (h:tyD T st a=true):tyV K T x H:=by
 cases r <;> first | (cases h;done) | skip
 ·exact eq_of_beq h
 ·next hi =>
  simp only [tyD,Bool.and_eq_true] at h
  obtain ⟨ds,hd⟩:=Option.isSome_iff_exists.mp h.2
  obtain ⟨vs,s,_⟩:=l.items hi hd
  exact .inl ⟨eq_of_beq h.1,vs,s⟩
 ·next s r=>exact .inr (.inl ⟨eq_of_beq h,_,s⟩)
noncomputable def fBM (T:String) (g:D→List D→Dm D) (fo:DSt→Dm D) (fa:DSt→Dm (List D)):DSt→Dm D:=fun δ st=>bnd (fo δ st) fun o st1=>if tyD T st1 o=true then bnd (fa δ st1) fun as st2=>g o as st2 else none
theorem ybv {T:String} {r:V→List V→Hp→VK→Prop} {g:D→List D→Dm D} {to:TE} {ta:TA} {fo:DSt→Dm D} {fa:DSt→Dm (List D)} (hr:SoM K T r g) (ho:SoE K to fo) (ha:SoA K ta fa):SoE K (tBM K T r to ta) (fBM T g fo fa):=by
 intro ρ σ H δ st b st' Q l rs e q
 obtain ⟨o,st1,e1,e⟩:=Zab e
 split at e
 ·next ht =>
  obtain ⟨as,st2,e2,e⟩:=Zab e
  refine ho ρ σ H δ st o st1 _ l rs e1 fun x H1 ρ1 m1 l1 r1=>⟨tyD_of l1 r1 ht,ha ρ1 σ H1 δ st1 as st2 _ l1 (rs.mn m1) e2 fun xs H2 ρ2 m2 l2 r2=>?_⟩
  exact hr ρ2 H2 st2 x xs o as b st' Q l2 (r1.mn m2) r2 e fun v H3 ρ3 m3 l3 r3=>q v H3 ρ3 ((m1.trans m2).trans m3) l3 r3
 ·cases e
noncomputable def gAppend:D→List D→Dm D
 | .ref i,[y],st=>match own st i with
  | some xs=>if lim xs.length=true then some (.non,st.set i (.lst (xs ++ [y]))) else none
  | none=>none
 | _,_,_=>none
theorem XaN:SoM K "list" rAppend gAppend:=by
 intro ρ H st x xs a as b st' Q l rx rxs e q
 unfold gAppend at e
 split at e
 ·split at e
  ·next ys hy =>
   split at e
   ·next hl =>
    cases e
    obtain ⟨v,rfl,r⟩:=rxs.one'
    cases rx with
    | ref hi =>
     obtain ⟨vs,e1,r1⟩:=l.obj _ _ _ hi (zay hy)
     obtain ⟨l2,m2⟩:=l.putL hi (zay hy) (r1.append (.one r))
     exact ⟨_,vs,v,rfl,rfl,e1,by rw [r1.length];exact xbB hl,q _ _ ρ m2 l2 .non⟩
   ·cases e
  ·cases e
 ·cases e
noncomputable def gExtend:D→List D→Dm D
 | .ref i,[.ref j],st=>match own st i,own st j with
  | some xs,some ys=>if lim (xs.length + ys.length)=true then some (.non,st.set i (.lst (xs ++ ys))) else none
  | _,_=>none
 | _,_,_=>none
noncomputable def gPopAt:D→List D→Dm D
 | .ref i,[.int k],st=>match own st i with
  | some xs=>if decide (-9223372036854775808≤k∧k < 9223372036854775808)=true then match seqIndex? k xs.length with
    | some j=>match xs[j]? with
     | some y=>some (y,st.set i (.lst (xs.eraseIdx j)))
     | none=>none
    | none=>none
   else none
  | none=>none
 | _,_,_=>none
theorem Zbv:SoM K "list" rPopAt gPopAt:=by
 intro ρ H st x xs a as b st' Q l rx rxs e q
 unfold gPopAt at e
 split at e
 ·split at e
  ·next ys hy =>
   split at e
   ·next hk =>
    split at e
    ·next j hj =>
     split at e
     ·next y hy' =>
      cases e
      obtain ⟨v,rfl,r⟩:=rxs.one'
      cases r
      cases rx with
      | ref hi =>
       obtain ⟨vs,e1,r1⟩:=l.obj _ _ _ hi (zay hy)
       obtain ⟨w,hw,rw'⟩:=r1.got hy'
       obtain ⟨l2,m2⟩:=l.putL hi (zay hy) (r1.erase j)
       have hk:=of_decide_eq_true hk
       exact ⟨_,vs,_,j,w,rfl,rfl,e1,by omega,by omega,by rw [r1.length];exact hj,hw,q _ _ ρ m2 l2 (rw'.mn m2)⟩
     ·cases e
    ·cases e
   ·cases e
  ·cases e
 ·cases e
noncomputable def gIndex:D→List D→Dm D
 | .tup ds,[.int v],st=>match mapO iV ds with
  | some ns=>match ns.findIdx? (fun i=>decide (i=v)) with
   | some j=>some (.int (j:Int),st)
   | none=>none
  | none=>none
 | _,_,_=>none
noncomputable def tyNm (st:Store):D→Option String
 | .non=>some "NoneType"
 | .bl _=>some "bool"
 | .int _=>some "int"
 | .str _=>some "str"
 | .tup _=>some "tuple"
 | .ref i=>match st[i]? with
  | some (.lst _)=>some "list"
  | some (.dct _)=>some "dict"
  | _=>none
 | .ty _=>none
noncomputable def gIsinst:List D→Dm D
 | [a,.ty c],st=>match tyNm st a with
  | some T=>if T=c then some (.bl true,st) else none
  | none=>none
 | _,_=>none
end
end L4
namespace L4
open PySem PySem.Spec L2
section
variable {K:PySem.W.Frag}
theorem Rs.set {ρ:List Addr} {H:Hp} {σ:St} {δ:DSt} {v:V} {d:D} {i:Nat} (h:Rs K ρ H σ δ) (r:Rp K ρ H v d):Rs K ρ H (σ.set i (some v)) (δ.set i (some d)):=by
 refine ⟨by rw [List.length_set,List.length_set];exact h.1,fun j e hj=>?_⟩
 by_cases hij:i=j
 ·subst hij
  have hl:i < δ.length:=by
   have:=(List.getElem?_eq_some_iff.mp hj).1
   rwa [List.length_set] at this
  rw [List.getElem?_set_self hl] at hj
  cases hj
  exact ⟨v,by rw [List.getElem?_set_self (by rw [h.1];exact hl)],r⟩
 ·rw [List.getElem?_set_ne hij] at hj
  obtain ⟨w,hw,rw'⟩:=h.2 j e hj
  exact ⟨w,by rw [List.getElem?_set_ne hij];exact hw,rw'⟩
noncomputable def SoG (K:PySem.W.Frag) (g:TG) (f:D→DSt→Dm DSt):Prop :=
 ∀ (ρ:List Addr) (σ:St) (H:Hp) (δ:DSt) (st:Store) (v:V) (d:D) (δ':DSt) (st':Store) (Q:St→Hp→Prop),Rl K ρ H st→Rs K ρ H σ δ→Rp K ρ H v d→f d δ st=some (δ',st') →
  (∀ σ' H' ρ',Mn K ρ H ρ' H'→Rl K ρ' H' st'→Rs K ρ' H' σ' δ'→Q σ' H')→g v σ H Q
noncomputable def SoGs (K:PySem.W.Frag) (g:TGs) (f:List D→DSt→Dm DSt):Prop :=
 ∀ (ρ:List Addr) (σ:St) (H:Hp) (δ:DSt) (st:Store) (v:List V) (d:List D) (δ':DSt) (st':Store) (Q:St→Hp→Prop),Rl K ρ H st→Rs K ρ H σ δ→Rps K ρ H v d→f d δ st=some (δ',st') →
  (∀ σ' H' ρ',Mn K ρ H ρ' H'→Rl K ρ' H' st'→Rs K ρ' H' σ' δ'→Q σ' H')→g v σ H Q
noncomputable def hName (i:Nat):D→DSt→Dm DSt:=fun d δ st=>some (δ.set i (some d),st)
theorem Yab (i:Nat):SoG K (gName i) (hName i):=by
 intro ρ σ H δ st v d δ' st' Q l rs r e q
 cases e
 exact q _ H ρ .refl l (rs.set r)
noncomputable def hNil:List D→DSt→Dm DSt
 | [],δ,st=>some (δ,st)
 | _,_,_=>none
noncomputable def hCons (f:D→DSt→Dm DSt) (g:List D→DSt→Dm DSt):List D→DSt→Dm DSt
 | d :: ds,δ,st=>bnd (f d δ st) fun δ1 st1=>g ds δ1 st1
 | _,_,_=>none
theorem zaO:SoGs K gNil hNil:=by
 intro ρ σ H δ st v d δ' st' Q l rs r e q
 cases r with
 | nil=>cases e;exact ⟨rfl,q _ H ρ .refl l rs⟩
 | cons a b=>cases e
theorem Yat {t:TG} {u:TGs} {f:D→DSt→Dm DSt} {g:List D→DSt→Dm DSt} (hf:SoG K t f) (hg:SoGs K u g):SoGs K (gCons t u) (hCons f g):=by
 intro ρ σ H δ st v d δ' st' Q l rs r e q
 cases r with
 | nil=>cases e
 | cons a b =>
  obtain ⟨δ1,st1,e1,e⟩:=Zab e
  exact ⟨_,_,rfl,hf ρ σ H δ st _ _ δ1 st1 _ l rs a e1 fun σ1 H1 ρ1 m1 l1 r1=>hg ρ1 σ1 H1 δ1 st1 _ _ δ' st' Q l1 r1 (b.mn m1) e fun σ2 H2 ρ2 m2 l2 r2=>q σ2 H2 ρ2 (m1.trans m2) l2 r2⟩
noncomputable def hTup (n:Nat) (f:List D→DSt→Dm DSt):D→DSt→Dm DSt
 | .tup ds,δ,st=>if ds.length=n then f ds δ st else none
 | _,_,_=>none
theorem yaO {n:Nat} {t:TGs} {f:List D→DSt→Dm DSt} (hf:SoGs K t f):SoG K (gTup K n t) (hTup n f):=by
 intro ρ σ H δ st v d δ' st' Q l rs r e q
 cases r <;> first | (cases e;done) | skip
 ·next s r =>
  simp only [hTup] at e
  split at e
  ·next hl=>exact ⟨_,_,rfl,s,by rw [r.length];exact hl,hf ρ σ H δ st _ _ δ' st' Q l rs r e q⟩
  ·cases e
noncomputable def hSub (fo fi:DSt→Dm D):D→DSt→Dm DSt:=fun d δ st=>bnd (fo δ st) fun o st1=>bnd (fi δ st1) fun i st2=>match o,i with
 | .ref r,.int k=>match own st2 r with
  | some xs=>match ixN xs.length k with
   | some j=>some (δ,st2.set r (.lst (xs.set j d)))
   | none=>none
  | none=>none
 | _,_=>none
theorem YaH {to ti:TE} {fo fi:DSt→Dm D} (ho:SoE K to fo) (hi:SoE K ti fi):SoG K (L2.gSub to ti rSetL) (hSub fo fi):=by
 intro ρ σ H δ st v d δ' st' Q l rs r e q
 obtain ⟨o,st1,e1,e⟩:=Zab e
 obtain ⟨i,st2,e2,e⟩:=Zab e
 refine ho ρ σ H δ st o st1 _ l rs e1 fun x H1 ρ1 m1 l1 r1=>hi ρ1 σ H1 δ st1 i st2 _ l1 (rs.mn m1) e2 fun y H2 ρ2 m2 l2 r2=>?_
 split at e
 ·split at e
  ·next xs hx =>
   split at e
   ·next j hj =>
    cases e
    cases r2
    cases r1 with
    | ref hr =>
     have hr2:=m2.r _ _ hr
     obtain ⟨vs,e3,r3⟩:=l2.obj _ _ _ hr2 (zay hx)
     obtain ⟨l3,m3⟩:=l2.putL hr2 (zay hx) (r3.set (r.mn (m1.trans m2)) j)
     exact ⟨_,vs,_,j,rfl,rfl,e3,by rw [r3.length];exact hj,q σ _ ρ2 ((m1.trans m2).trans m3) l3 (rs.mn ((m1.trans m2).trans m3))⟩
   ·cases e
  ·cases e
 ·cases e
noncomputable def Go (K:PySem.W.Frag) (ρ:List Addr) (H:Hp) (st':Store) (E:Ends):Fl→Prop
 | .nx δ=>∀ σ' H' ρ',Mn K ρ H ρ' H'→Rl K ρ' H' st'→Rs K ρ' H' σ' δ→E.nx σ' H'
 | .bk δ=>∀ σ' H' ρ',Mn K ρ H ρ' H'→Rl K ρ' H' st'→Rs K ρ' H' σ' δ→E.bk σ' H'
 | .ct δ=>∀ σ' H' ρ',Mn K ρ H ρ' H'→Rl K ρ' H' st'→Rs K ρ' H' σ' δ→E.ct σ' H'
 | .rt d=>∀ v H' ρ',Mn K ρ H ρ' H'→Rl K ρ' H' st'→Rp K ρ' H' v d→E.rt v H'
theorem Go.mn {ρ ρ1:List Addr} {H H1:Hp} {st':Store} {E:Ends} {fl:Fl} (g:Go K ρ H st' E fl) (m:Mn K ρ H ρ1 H1):Go K ρ1 H1 st' E fl:=by
 cases fl <;> exact fun v H' ρ' m' l r=>g v H' ρ' (m.trans m') l r
noncomputable def SoS (K:PySem.W.Frag) (t:TS) (f:DSt→Dm Fl):Prop :=
 ∀ (ρ:List Addr) (σ:St) (H:Hp) (δ:DSt) (st:Store) (fl:Fl) (st':Store) (E:Ends),Rl K ρ H st→Rs K ρ H σ δ→f δ st=some (fl,st')→Go K ρ H st' E fl→t E σ H
noncomputable def fNext:DSt→Dm Fl:=fun δ st=>some (.nx δ,st)
theorem zah:SoS K tNext fNext:=by
 intro ρ σ H δ st fl st' E l rs e g
 cases e
 exact g σ H ρ .refl l rs
noncomputable def fSeq (f g:DSt→Dm Fl):DSt→Dm Fl:=fun δ st=>bnd (f δ st) fun fl st1=>match fl with
 | .nx δ1=>g δ1 st1
 | x=>some (x,st1)
theorem Yad {t u:TS} {f g:DSt→Dm Fl} (hf:SoS K t f) (hg:SoS K u g):SoS K (tSeq t u) (fSeq f g):=by
 intro ρ σ H δ st fl st' E l rs e q
 obtain ⟨x,st1,e1,e⟩:=Zab e
 refine hf ρ σ H δ st x st1 _ l rs e1 ?_
 cases x with
 | nx δ1=>exact fun σ1 H1 ρ1 m1 l1 r1=>hg ρ1 σ1 H1 δ1 st1 fl st' E l1 r1 e (q.mn m1)
 | bk δ1=>cases e;exact q
 | ct δ1=>cases e;exact q
 | rt d=>cases e;exact q
theorem zam {c:TT} {t u:TS} {fc:DSt→Dm Bool} {f g:DSt→Dm Fl} (hc:SoT K c fc) (hf:SoS K t f) (hg:SoS K u g):SoS K (tIfS c t u) (fIf fc f g):=by
 intro ρ σ H δ st fl st' E l rs e q
 obtain ⟨a,st1,e1,e⟩:=Zab e
 refine hc ρ σ H δ st _ _ _ l rs e1 fun x H1 ρ1 m1 l1 r1=>?_
 subst r1
 cases x with
 | true =>
  refine iteT ?_
  rw [if_pos rfl] at e
  exact hf ρ1 σ H1 δ st1 fl st' E l1 (rs.mn m1) e (q.mn m1)
 | false =>
  refine iteF ?_
  rw [if_neg Bool.false_ne_true] at e
  exact hg ρ1 σ H1 δ st1 fl st' E l1 (rs.mn m1) e (q.mn m1)
noncomputable def fDrop (f:DSt→Dm D):DSt→Dm Fl:=fun δ st=>bnd (f δ st) fun _ st1=>some (.nx δ,st1)
theorem Xa3 {t:TE} {f:DSt→Dm D} (hf:SoE K t f):SoS K (tDrop t) (fDrop f):=by
 intro ρ σ H δ st fl st' E l rs e q
 obtain ⟨a,st1,e1,e⟩:=Zab e
 cases e
 exact hf ρ σ H δ st a _ _ l rs e1 fun x H1 ρ1 m1 l1 r1=>q σ H1 ρ1 m1 l1 (rs.mn m1)
noncomputable def fRet (f:DSt→Dm D):DSt→Dm Fl:=fun δ st=>bnd (f δ st) fun d st1=>some (.rt d,st1)
theorem xai {t:TE} {f:DSt→Dm D} (hf:SoE K t f):SoS K (tRet t) (fRet f):=by
 intro ρ σ H δ st fl st' E l rs e q
 obtain ⟨a,st1,e1,e⟩:=Zab e
 cases e
 exact hf ρ σ H δ st a _ _ l rs e1 fun x H1 ρ1 m1 l1 r1=>q x H1 ρ1 m1 l1 r1
noncomputable def fAsg (f:DSt→Dm D) (h:D→DSt→Dm DSt):DSt→Dm Fl:=fun δ st=>bnd (f δ st) fun d st1=>bnd (h d δ st1) fun δ1 st2=>some (.nx δ1,st2)
theorem xae {t:TE} {g:TG} {f:DSt→Dm D} {h:D→DSt→Dm DSt} (hf:SoE K t f) (hh:SoG K g h):SoS K (tAsg t g) (fAsg f h):=by
 intro ρ σ H δ st fl st' E l rs e q
 obtain ⟨a,st1,e1,e⟩:=Zab e
 obtain ⟨δ1,st2,e2,e⟩:=Zab e
 cases e
 exact hf ρ σ H δ st a st1 _ l rs e1 fun x H1 ρ1 m1 l1 r1=>hh ρ1 σ H1 δ st1 x a δ1 _ _ l1 (rs.mn m1) r1 e2 fun σ2 H2 ρ2 m2 l2 r2=>q σ2 H2 ρ2 (m1.trans m2) l2 r2
noncomputable def fPar (i j:Nat) (fa:DSt→Dm (List D)):DSt→Dm Fl:=fun δ st=>bnd (fa δ st) fun as st1=>match as with
 | [a,b]=>some (.nx ((δ.set i (some a)).set j (some b)),st1)
 | _=>none
theorem ybC {i j:Nat} {t:TA} {fa:DSt→Dm (List D)} (ha:SoA K t fa):SoS K (tPar i j t) (fPar i j fa):=by
 intro ρ σ H δ st fl st' E l rs e q
 obtain ⟨as,st1,e1,e⟩:=Zab e
 split at e
 ·cases e
  refine ha ρ σ H δ st _ _ _ l rs e1 fun x H1 ρ1 m1 l1 r1=>?_
  obtain ⟨v,w,rfl,r,r'⟩:=r1.two'
  exact ⟨v,w,rfl,q _ H1 ρ1 m1 l1 (((rs.mn m1).set r).set r')⟩
 ·cases e
noncomputable def fWhileGo (c:DSt→Dm Bool) (b:DSt→Dm Fl):Nat→DSt→Dm Fl
 | 0,_,_=>none
 | n + 1,δ,st=>bnd (c δ st) fun t st1=>if t=true then bnd (b δ st1) fun fl st2=>match fl with
   | .nx δ2=>fWhileGo c b n δ2 st2
   | .ct δ2=>fWhileGo c b n δ2 st2
   | .bk δ2=>some (.nx δ2,st2)
   | .rt d=>some (.rt d,st2)
  else some (.nx δ,st1)
noncomputable def fuel:Nat:=1000000
noncomputable def fWhile (c:DSt→Dm Bool) (b:DSt→Dm Fl):DSt→Dm Fl:=fWhileGo c b fuel
theorem YaV {tc:TT} {tb:TS} {c:DSt→Dm Bool} {b:DSt→Dm Fl} (hc:SoT K tc c) (hb:SoS K tb b):SoS K (tWhile tc tb) (fWhile c b):=by
 intro ρ σ H δ st fl st' E l rs e q
 refine ⟨fun m σ1 H1=>∃ ρ1 δ1 st1,Mn K ρ H ρ1 H1∧Rl K ρ1 H1 st1∧Rs K ρ1 H1 σ1 δ1∧fWhileGo c b m δ1 st1=some (fl,st'),⟨fuel,ρ,δ,st,.refl,l,rs,e⟩,?_⟩
 rintro m σ1 H1 ⟨ρ1,δ1,st1,m1,l1,rs1,e1⟩
 cases m with
 | zero=>cases e1
 | succ m =>
  obtain ⟨t,st2,e2,e1⟩:=Zab e1
  refine hc ρ1 σ1 H1 δ1 st1 _ _ _ l1 rs1 e2 fun x H2 ρ2 m2 l2 r2=>?_
  subst r2
  cases x with
  | true =>
   refine iteT ?_
   rw [if_pos rfl] at e1
   obtain ⟨f2,st3,e3,e1⟩:=Zab e1
   refine ⟨fun σ3 H3=>∃ m',m' < m + 1∧∃ ρ1 δ1 st1,Mn K ρ H ρ1 H3∧Rl K ρ1 H3 st1∧Rs K ρ1 H3 σ3 δ1∧fWhileGo c b m' δ1 st1=some (fl,st'),fun _ _ h=>h,hb ρ2 σ1 H2 δ1 st2 f2 st3 _ l2 (rs1.mn m2) e3 ?_⟩
   cases f2 with
   | nx δ3=>exact fun σ3 H3 ρ3 m3 l3 r3=>⟨m,Nat.lt_succ_self m,ρ3,δ3,st3,(m1.trans m2).trans m3,l3,r3,e1⟩
   | ct δ3=>exact fun σ3 H3 ρ3 m3 l3 r3=>⟨m,Nat.lt_succ_self m,ρ3,δ3,st3,(m1.trans m2).trans m3,l3,r3,e1⟩
   | bk δ3=>cases e1;exact q.mn (m1.trans m2)
   | rt d=>cases e1;exact q.mn (m1.trans m2)
  | false =>
   refine iteF ?_
   rw [if_neg Bool.false_ne_true] at e1
   cases e1
   exact q.mn (m1.trans m2) σ1 H2 ρ2 .refl l2 (rs1.mn m2)
inductive Src where
 | fix (ds:List D) | live (i:Nat) | enm (i:Nat) | zl (i:Nat) (es:List D) | zr (ds:List D) (i:Nat)
noncomputable def Src.at:Src→Nat→Store→Option (Option D)
 | .fix ds,i,_=>if i≤ds.length then some ds[i]? else none
 | .live r,i,st=>(items st r).map fun ds=>ds[i]?
 | .enm r,i,st=>(items st r).bind fun ds=>if i≤ds.length then some (ds.mapIdx fun i d=>D.tup [.int (i:Int),d])[i]? else none
 | .zl r es,i,st=>(items st r).bind fun ds=>if i≤(List.zipWith (fun a b=>D.tup [a,b]) ds es).length then some (List.zipWith (fun a b=>D.tup [a,b]) ds es)[i]? else none
 | .zr ds r,i,st=>(items st r).bind fun es=>if i≤(List.zipWith (fun a b=>D.tup [a,b]) ds es).length then some (List.zipWith (fun a b=>D.tup [a,b]) ds es)[i]? else none
theorem YaS {ds:List D} {i:Nat} {st:Store} {o:Option D} (h:Src.at (.fix ds) i st=some o):i≤ds.length∧ds[i]?=o:=by
 simp only [Src.at] at h
 split at h
 ·next hl=>exact ⟨hl,Option.some.inj h⟩
 ·cases h
noncomputable def ItOk (K:PySem.W.Frag) (ρ:List Addr) (H:Hp) (J:It) (S:Src):Prop :=
 ∀ (ρ2:List Addr) (H2:Hp) (st2:Store) (i:Nat),Mn K ρ H ρ2 H2→Rl K ρ2 H2 st2 →
  (S.at i st2=some none→J.stop i H2)∧∀ d,S.at i st2=some (some d)→J.go i H2∧∀ x H3,J.yld i H2 x H3→Mn K ρ2 H2 ρ2 H3∧Rl K ρ2 H3 st2∧Rp K ρ2 H3 x d
abbrev SoI (K:PySem.W.Frag) (t:TI) (f:DSt→Dm Src):Prop:=So K (ItOk K) t f
noncomputable def fForGo (S:Src) (g:D→DSt→Dm DSt) (b:DSt→Dm Fl):Nat→Nat→DSt→Dm Fl
 | 0,_,_,_=>none
 | n + 1,i,δ,st=>match S.at i st with
  | none=>none
  | some none=>some (.nx δ,st)
  | some (some d)=>bnd (g d δ st) fun δ1 st1=>bnd (b δ1 st1) fun fl st2=>match fl with
   | .nx δ2=>fForGo S g b n (i + 1) δ2 st2
   | .ct δ2=>fForGo S g b n (i + 1) δ2 st2
   | .bk δ2=>some (.nx δ2,st2)
   | .rt d=>some (.rt d,st2)
noncomputable def fFor (fi:DSt→Dm Src) (g:D→DSt→Dm DSt) (b:DSt→Dm Fl):DSt→Dm Fl:=fun δ st=>bnd (fi δ st) fun S st1=>fForGo S g b fuel 0 δ st1
theorem yaG {wi:TI} {tg:TG} {tb:TS} {fi:DSt→Dm Src} {g:D→DSt→Dm DSt} {b:DSt→Dm Fl} (hi:SoI K wi fi) (hg:SoG K tg g) (hb:SoS K tb b):SoS K (tFor wi tg tb) (fFor fi g b):=by
 intro ρ σ H δ st fl st' E l rs e q
 obtain ⟨S,st0,e0,e⟩:=Zab e
 refine hi ρ σ H δ st S st0 _ l rs e0 fun J H0 ρ0 m0 l0 ok=>?_
 refine ⟨fun i m σ1 H1=>∃ ρ1 δ1 st1,Mn K ρ0 H0 ρ1 H1∧Rl K ρ1 H1 st1∧Rs K ρ1 H1 σ1 δ1∧fForGo S g b m i δ1 st1=some (fl,st'),⟨fuel,ρ0,δ,st0,.refl,l0,rs.mn m0,e⟩,?_⟩
 rintro i m σ1 H1 ⟨ρ1,δ1,st1,m1,l1,rs1,e1⟩
 cases m with
 | zero=>cases e1
 | succ m =>
  obtain ⟨hstop,hgo⟩:=ok ρ1 H1 st1 i m1 l1
  unfold fForGo at e1
  split at e1
  ·cases e1
  ·next hs=>cases e1;exact .inl ⟨hstop hs,q.mn (m0.trans m1) σ1 H1 ρ1 .refl l1 rs1⟩
  ·next d hs =>
   obtain ⟨δ2,st2,e2,e1⟩:=Zab e1
   obtain ⟨f3,st3,e3,e1⟩:=Zab e1
   obtain ⟨go,yld⟩:=hgo d hs
   refine .inr ⟨go,fun σ3 H3=>∃ m',m' < m + 1∧∃ ρ1 δ1 st1,Mn K ρ0 H0 ρ1 H3∧Rl K ρ1 H3 st1∧Rs K ρ1 H3 σ3 δ1∧fForGo S g b m' (i + 1) δ1 st1=some (fl,st'),fun _ _ h=>h,fun x H2 hy=>?_⟩
   obtain ⟨m2,l2,r2⟩:=yld x H2 hy
   refine hg ρ1 σ1 H2 δ1 st1 x d δ2 st2 _ l2 (rs1.mn m2) r2 e2 fun σ4 H4 ρ4 m4 l4 r4=>hb ρ4 σ4 H4 δ2 st2 f3 st3 _ l4 r4 e3 ?_
   have m5:=((m1.trans m2).trans m4)
   cases f3 with
   | nx δ3=>exact fun σ5 H5 ρ5 m6 l5 r5=>⟨m,Nat.lt_succ_self m,ρ5,δ3,st3,m5.trans m6,l5,r5,e1⟩
   | ct δ3=>exact fun σ5 H5 ρ5 m6 l5 r5=>⟨m,Nat.lt_succ_self m,ρ5,δ3,st3,m5.trans m6,l5,r5,e1⟩
   | bk δ3=>cases e1;exact q.mn (m0.trans m5)
   | rt d=>cases e1;exact q.mn (m0.trans m5)
noncomputable def iTupF (fa:DSt→Dm D):DSt→Dm Src:=fun δ st=>bnd (fa δ st) fun a st1=>match a with
 | .tup ds=>some (.fix ds,st1)
 | _=>none
theorem za4 {t:TE} {fa:DSt→Dm D} (ha:SoE K t fa):SoI K (iTup K t) (iTupF fa):=by
 intro ρ σ H δ st S st' Q l rs e q
 obtain ⟨a,st1,e1,e⟩:=Zab e
 cases a <;> simp at e
 obtain ⟨rfl,rfl⟩:=e
 refine ha ρ σ H δ st _ _ _ l rs e1 fun x H1 ρ1 m1 l1 r1=>?_
 cases r1 with
 | tup s r =>
  refine ⟨_,rfl,⟨_,s⟩,q _ H1 ρ1 m1 l1 fun ρ2 H2 st2 i m2 l2=>⟨fun h=>?_,fun d h=>?_⟩⟩
  ·exact ⟨_,m2.t _ _ s,by rw [r.length];exact List.getElem?_eq_none_iff.mp (YaS h).2⟩
  ·obtain ⟨v,hv,rv⟩:=r.got (YaS h).2
   refine ⟨⟨_,v,m2.t _ _ s,hv⟩,fun x H3 y=>?_⟩
   obtain ⟨rfl,hx⟩:=y
   have:=hx _ (m2.t _ _ s)
   rw [hv] at this
   cases this
   exact ⟨.refl,l2,rv.mn m2⟩
noncomputable def iListF (fa:DSt→Dm D):DSt→Dm Src:=fun δ st=>bnd (fa δ st) fun a st1=>match a with
 | .ref i=>match items st1 i with
  | some _=>some (.live i,st1)
  | none=>none
 | _=>none
theorem za8 {t:TE} {fa:DSt→Dm D} (ha:SoE K t fa):SoI K (iList K t) (iListF fa):=by
 intro ρ σ H δ st S st' Q l rs e q
 obtain ⟨a,st1,e1,e⟩:=Zab e
 split at e
 ·next k =>
  split at e
  ·next ds hd =>
   cases e
   refine ha ρ σ H δ st _ _ _ l rs e1 fun x H1 ρ1 m1 l1 r1=>?_
   cases r1 with
   | ref hi =>
    obtain ⟨vs,s,r⟩:=l1.items hi hd
    refine ⟨_,rfl,⟨_,s⟩,q _ H1 ρ1 m1 l1 fun ρ2 H2 st2 i m2 l2=>⟨fun h=>?_,fun d h=>?_⟩⟩
    ·obtain ⟨ds2,hd2,h⟩:=Option.map_eq_some_iff.mp h
     obtain ⟨vs2,s2,r2⟩:=l2.items (m2.r _ _ hi) hd2
     exact ⟨vs2,s2,by rw [r2.length];exact List.getElem?_eq_none_iff.mp h⟩
    ·obtain ⟨ds2,hd2,h⟩:=Option.map_eq_some_iff.mp h
     obtain ⟨vs2,s2,r2⟩:=l2.items (m2.r _ _ hi) hd2
     obtain ⟨v,hv,rv⟩:=r2.got h
     refine ⟨⟨_,v,s2,hv⟩,fun x H3 y=>?_⟩
     obtain ⟨rfl,hx⟩:=y
     have:=hx _ s2
     rw [hv] at this
     cases this
     exact ⟨.refl,l2,rv⟩
  ·cases e
 ·cases e
noncomputable def iRng1F (fa:DSt→Dm (List D)):DSt→Dm Src:=fun δ st=>bnd (fa δ st) fun as st1=>match as with
 | [.int j]=>if decide (-4611686018427387904≤j∧j < 4611686018427387904)=true then some (.fix (rangeD 0 j.toNat),st1) else none
 | _=>none
noncomputable def iRng2F (fa:DSt→Dm (List D)):DSt→Dm Src:=fun δ st=>bnd (fa δ st) fun as st1=>match as with
 | [.int i,.int j]=>if decide ((-4611686018427387904≤i∧i < 4611686018427387904)∧-4611686018427387904≤j∧j < 4611686018427387904)=true then some (.fix (rangeD i (j - i).toNat),st1) else none
 | _=>none
theorem Zac (lo:Int) (n:Nat):(rangeD lo n).length=n:=by simp [rangeD]
theorem yat {lo:Int} {n k:Nat} (h:k < n):(rangeD lo n)[k]?=some (.int (lo + k)):=by simp [rangeD,h]
theorem it_rng {ρ:List Addr} {H:Hp} (lo:Int) (n:Nat):ItOk K ρ H (Itr lo n) (.fix (rangeD lo n)):=by
 intro ρ2 H2 st2 i m2 l2
 refine ⟨fun h=>?_,fun d h=>?_⟩
 ·have:=List.getElem?_eq_none_iff.mp (YaS h).2
  rw [Zac] at this
  exact this
 ·have h:=(YaS h).2
  have hl:=(List.getElem?_eq_some_iff.mp h).1
  rw [Zac] at hl
  rw [yat hl] at h
  cases h
  refine ⟨hl,fun x H3 y=>?_⟩
  obtain ⟨rfl,rfl⟩:=y
  exact ⟨.refl,l2,.int _⟩
theorem Yav {t:TA} {fa:DSt→Dm (List D)} (ha:SoA K t fa):SoI K (iRng1 t) (iRng1F fa):=by
 intro ρ σ H δ st S st' Q l rs e q
 obtain ⟨as,st1,e1,e⟩:=Zab e
 split at e
 ·split at e
  ·next ok =>
   cases e
   have ok:=of_decide_eq_true ok
   refine ha ρ σ H δ st _ _ _ l rs e1 fun x H1 ρ1 m1 l1 r1=>?_
   obtain ⟨v,rfl,r⟩:=r1.one'
   cases r
   exact ⟨_,rfl,by omega,by omega,q _ H1 ρ1 m1 l1 (it_rng 0 _)⟩
  ·cases e
 ·cases e
noncomputable def enumD (ds:List D):List D:=ds.mapIdx fun i d=>.tup [.int (i:Int),d]
theorem Zay (ds:List D):(enumD ds).length=ds.length:=by simp [enumD]
theorem XaZ {ds:List D} {i:Nat} {x:D} (h:(enumD ds)[i]?=some x):∃ d,ds[i]?=some d∧x=.tup [.int (i:Int),d]:=by
 unfold enumD at h
 rw [List.getElem?_mapIdx] at h
 obtain ⟨d,h1,h2⟩:=Option.map_eq_some_iff.mp h
 exact ⟨d,h1,h2.symm⟩
noncomputable def iEnumF (fa:DSt→Dm (List D)):DSt→Dm Src:=fun δ st=>bnd (fa δ st) fun as st1=>match as with
 | [.tup ds]=>some (.fix (enumD ds),st1)
 | _=>none
theorem Ybv {t:TA} {fa:DSt→Dm (List D)} (ha:SoA K t fa):SoI K (iEnum K t) (iEnumF fa):=by
 intro ρ σ H δ st S st' Q l rs e q
 obtain ⟨as,st1,e1,e⟩:=Zab e
 split at e
 ·cases e
  refine ha ρ σ H δ st _ _ _ l rs e1 fun x H1 ρ1 m1 l1 r1=>?_
  obtain ⟨v,rfl,r⟩:=r1.one'
  cases r with
  | tup s r =>
   refine ⟨_,rfl,⟨_,s⟩,q _ H1 ρ1 m1 l1 fun ρ2 H2 st2 i m2 l2=>⟨fun h=>?_,fun d h=>?_⟩⟩
   ·obtain ⟨h1,h2⟩:=YaS h
    have h2:=List.getElem?_eq_none_iff.mp h2
    rw [Zay] at h1 h2
    exact ⟨_,m2.t _ _ s,by rw [r.length];omega⟩
   ·obtain ⟨h1,h2⟩:=YaS h
    obtain ⟨d',hd',rfl⟩:=XaZ h2
    obtain ⟨v,hv,rv⟩:=r.got hd'
    refine ⟨⟨_,v,m2.t _ _ s,hv⟩,fun x H3 y=>?_⟩
    obtain ⟨p,z,rfl,hp,rfl,hx⟩:=y
    have:=hx _ (m2.t _ _ s)
    rw [hv] at this
    cases this
    have m3:Mn K ρ2 H2 ρ2 (upd H2 p (.tup [.int (i:Int),v])):=Mn.same (Same.up hp)
    exact ⟨m3,l2.same (Same.up hp),.tup (SqT.of yag) (.cons (.int _) (.one ((rv.mn m2).mn m3)))⟩
 ·cases e
noncomputable def fCompGo (S:Src) (g:D→DSt→Dm DSt) (tc:DSt→Dm Bool) (te:DSt→Dm D):Nat→Nat→List D→DSt→Dm (List D)
 | 0,_,_,_,_=>none
 | n + 1,i,ys,δ,st=>if lim ys.length=true then match S.at i st with
  | none=>none
  | some none=>some (ys,st)
  | some (some d)=>bnd (g d δ st) fun δ1 st1=>bnd (tc δ1 st1) fun t st2=>if t=true then bnd (te δ1 st2) fun y st3=>fCompGo S g tc te n (i + 1) (ys ++ [y]) δ1 st3 else fCompGo S g tc te n (i + 1) ys δ1 st2
  else none
noncomputable def compD (n:Nat) (js:List Nat) (δ:DSt):DSt:=List.replicate n none ++ js.map fun j=>δ.getD j none
noncomputable def fComp (fi:DSt→Dm Src) (n:Nat) (js:List Nat) (g:D→DSt→Dm DSt) (tc:DSt→Dm Bool) (te:DSt→Dm D):DSt→Dm D:=fun δ st=>bnd (fi δ st) fun S st1=>bnd (fCompGo S g tc te fuel 0 [] (compD n js δ) st1) fun ys st2=>some (.ref st2.length,st2 ++ [.lst ys])
theorem Rs.comp {ρ:List Addr} {H:Hp} {σ:St} {δ:DSt} (h:Rs K ρ H σ δ) (n:Nat) (js:List Nat):Rs K ρ H (compSt n js σ) (compD n js δ):=by
 unfold compSt compD
 refine ⟨by simp,fun i d hd=>?_⟩
 by_cases hi:i < n
 ·rw [List.getElem?_append_left (by simpa using hi),List.getElem?_replicate,if_pos hi] at hd
  cases hd
 ·rw [List.getElem?_append_right (by simpa using Nat.le_of_not_lt hi),List.getElem?_map] at hd
  rw [List.getElem?_append_right (by simpa using Nat.le_of_not_lt hi),List.getElem?_map]
  simp only [List.length_replicate] at hd ⊢
  cases hj:js[i - n]? with
  | none=>rw [hj] at hd;cases hd
  | some j =>
   rw [hj] at hd
   have hd:δ.getD j none=some d:=Option.some.inj hd
   rw [List.getD_eq_getElem?_getD] at hd
   have hd':δ[j]?=some (some d):=by
    cases hx:δ[j]? with
    | none=>rw [hx] at hd;cases hd
    | some y=>rw [hx] at hd;exact congrArg some hd
   obtain ⟨v,hv,r⟩:=h.2 j d hd'
   exact ⟨v,by show some (σ.getD j none)=_;rw [List.getD_eq_getElem?_getD,hv];rfl,r⟩
theorem ZaO {wi:TI} {tg:TG} {tc:TT} {te:TE} {fi:DSt→Dm Src} {n:Nat} {js:List Nat} {g:D→DSt→Dm DSt} {c:DSt→Dm Bool} {f:DSt→Dm D} (hi:SoI K wi fi) (hg:SoG K tg g) (hc:SoT K tc c) (hf:SoE K te f):SoE K (tComp wi n js tg tc te) (fComp fi n js g c f):=by
 intro ρ σ H δ st b st' Q l rs e q
 obtain ⟨S,st0,e0,e⟩:=Zab e
 obtain ⟨zs,st9,e9,e⟩:=Zab e
 cases e
 refine hi ρ σ H δ st S st0 _ l rs e0 fun J H0 ρ0 m0 l0 ok=>?_
 refine ⟨fun i m ys σ1 H1=>∃ ρ1 δ1 st1 ws,Mn K ρ0 H0 ρ1 H1∧Rl K ρ1 H1 st1∧Rs K ρ1 H1 σ1 δ1∧Rps K ρ1 H1 ys ws∧fCompGo S g c f m i ws δ1 st1=some (zs,st9),⟨fuel,ρ0,_,st0,[],.refl,l0,(rs.mn m0).comp n js,.nil,e9⟩,?_⟩
 rintro i m ys σ1 H1 ⟨ρ1,δ1,st1,ws,m1,l1,rs1,rw1,e1⟩
 cases m with
 | zero=>cases e1
 | succ m =>
  obtain ⟨hstop,hgo⟩:=ok ρ1 H1 st1 i m1 l1
  unfold fCompGo at e1
  split at e1
  ·next hl =>
   refine ⟨by rw [rw1.length];exact xbB hl,?_⟩
   split at e1
   ·cases e1
   ·next hs =>
    cases e1
    exact .inl ⟨hstop hs,fun p hp=>q _ _ _ ((m0.trans m1).trans (Mn.new hp)) (l1.newL hp rw1) (.ref (newR l1))⟩
   ·next d hs =>
    obtain ⟨δ2,st2,e2,e1⟩:=Zab e1
    obtain ⟨t,st3,e3,e1⟩:=Zab e1
    obtain ⟨go,yld⟩:=hgo d hs
    refine .inr ⟨go,fun x H2 hy=>?_⟩
    obtain ⟨m2,l2,r2⟩:=yld x H2 hy
    refine hg ρ1 σ1 H2 δ1 st1 x d δ2 st2 _ l2 (rs1.mn m2) r2 e2 fun σ4 H4 ρ4 m4 l4 r4=>hc ρ4 σ4 H4 δ2 st2 t st3 _ l4 r4 e3 fun t' H5 ρ5 m5 l5 r5=>?_
    subst r5
    have m6:=(((m1.trans m2).trans m4).trans m5)
    cases t' with
    | true =>
     refine iteT ?_
     rw [if_pos rfl] at e1
     obtain ⟨y,st6,e6,e1⟩:=Zab e1
     exact hf ρ5 σ4 H5 δ2 st3 y st6 _ l5 (r4.mn m5) e6 fun v H7 ρ7 m7 l7 r7=>⟨m,Nat.lt_succ_self m,ρ7,δ2,st6,ws ++ [y],m6.trans m7,l7,r4.mn (m5.trans m7),(rw1.mn (((m2.trans m4).trans m5).trans m7)).append (.one r7),e1⟩
    | false =>
     refine iteF ?_
     rw [if_neg Bool.false_ne_true] at e1
     exact ⟨m,Nat.lt_succ_self m,ρ5,δ2,st3,ws,m6,l5,r4.mn m5,rw1.mn ((m2.trans m4).trans m5),e1⟩
  ·cases e1
noncomputable def fTrue:DSt→Dm Bool:=fun _ st=>some (true,st)
noncomputable def fnF (n:Nat) (b:DSt→Dm Fl):List D→Dm D:=fun ds st=>bnd (b (ds.map some ++ List.replicate (n - ds.length) none) st) fun fl st1=>match fl with
 | .rt d=>some (d,st1)
 | .nx _=>some (.non,st1)
 | _=>none
theorem Rs.start {ρ:List Addr} {H:Hp} {vs:List V} {ds:List D} (r:Rps K ρ H vs ds) (N:List Str):Rs K ρ H (start N vs) (ds.map some ++ List.replicate (N.length - ds.length) none):=by
 unfold L2.start
 rw [r.length]
 refine ⟨by simp [r.length],fun i d hd=>?_⟩
 by_cases hi:i < ds.length
 ·rw [List.getElem?_append_left (by simpa using hi),List.getElem?_map] at hd
  rw [List.getElem?_append_left (by rw [List.length_map,r.length];exact hi),List.getElem?_map]
  cases hx:ds[i]? with
  | none=>rw [hx] at hd;cases hd
  | some y =>
   rw [hx] at hd
   cases hd
   obtain ⟨v,hv,rv⟩:=r.got hx
   exact ⟨v,by rw [hv];rfl,rv⟩
 ·rw [List.getElem?_append_right (by simpa using Nat.le_of_not_lt hi),List.getElem?_replicate] at hd
  split at hd <;> cases hd
theorem xaH {N:List Str} {k n:Nat} {t:TS} {b:DSt→Dm Fl} {vs:List V} {H:Hp} {Q:VK} {E:XK} (hb:SoS K t b) (hn:N.length=n) (h:spF K k (fnF n b) vs H Q E):t { nx:=fun _ H'=>Q .non H',rt:=Q } (start N vs) H:=by
 obtain ⟨hk,ρ,st,ds,d,st',l,r,e,q⟩:=h
 subst hn
 obtain ⟨fl,st1,e1,e⟩:=Zab e
 refine hb ρ _ H _ st fl st1 _ l (Rs.start r N) e1 ?_
 cases fl with
 | rt v=>cases e;exact q
 | nx δ=>cases e;exact fun σ' H' ρ' m l' r'=>q .non H' ρ' m l' .non
 | bk δ=>cases e
 | ct δ=>cases e
end
end L4
namespace L4
open PySem PySem.Spec L2
section
variable {X:Cx} {K:PySem.W.Frag}
theorem Xbc {N:List Str} {scope1:Scope} {cells:List (Str×Addr)} {C:Addr} {fp:List Addr} {s:Shared} {H:Hp} {scope2:Scope} {own fr:List Str} (h:CompS (relabelS scope1 X.env.scope) scope2 own fr):CompS (cxComp X N scope1 cells C fp s H).env.scope scope2 own fr:=h
theorem Zbm:SoT K (fun _ H Q=>Q true H) fTrue:=by
 intro ρ σ H δ st b st' Q l rs e q
 cases e
 exact q _ H ρ .refl l rfl
end
noncomputable def spLaw (K:PySem.W.Frag):Sp:=fun vs H Q _=>∃ (a:Addr) (ns:List Int),vs=[.ref a]∧SqF K H a (ns.map V.int)∧ns.length≤63∧∀ H',Q (.bl true) H'
theorem law_of {P:Program} {w:World} {K:PySem.W.Frag} {mg:Str→Option Value} {base:Heap} {k:Nat} {f:Addr} {fd:FuncData} {ps:List Str} {F:List D→Dm D} (G:FnOk P w K mg base CX0 k f fd ps (spF K 1 F))
  (h:∀ ns:List Int,ns.length≤63→∃ st',F [.ref 0] [.fzn (ns.map D.int)]=some (.bl true,st')):FnOk P w K mg base CX0 k f fd ps (spLaw K):=by
 refine G.imp fun vs H Q E hs=>?_
 obtain ⟨a,ns,rfl,hS,hn,q⟩:=hs
 obtain ⟨st',e⟩:=h ns hn
 have one:∀ i (b:Addr),([a]:List Addr)[i]?=some b→i=0∧b=a:=fun i b h=>by
  cases i with
  | zero=>exact ⟨rfl,(Option.some.inj h).symm⟩
  | succ i=>simp at h
 refine ⟨rfl,[a],[.fzn (ns.map D.int)],[.ref 0],.bl true,st',⟨rfl,fun i j b o o' h1 h2 _ _ _ _=>by rw [(one i b h1).1,(one j b h2).1],fun i b o h1 h2=>?_⟩,.one (.ref rfl),e,fun v H' ρ' m l r=>by cases r;exact q H'⟩
 obtain ⟨rfl,rfl⟩:=one i b h1
 cases (Option.some.inj h2)
 exact ⟨ns.map V.int,hS,Rps.ints ns⟩
noncomputable def Wp {α:Type} (m:Option (α×Store)) (Q:α→Store→Prop):Prop:=∃ a st,m=some (a,st)∧Q a st
section
variable {α β:Type} {Q Q':α→Store→Prop} {st:Store} {δ:DSt}
theorem xab {m:Option (α×Store)} (h:Wp m Q) (hq:∀ a st,Q a st→Q' a st):Wp m Q':=let ⟨a,st,e,q⟩:=h;⟨a,st,e,hq a st q⟩
theorem Xaa {a:α}:Wp (some (a,st)) Q↔Q a st:=⟨fun ⟨_,_,e,q⟩=>by cases e;exact q,fun q=>⟨a,st,rfl,q⟩⟩
theorem zae:Wp (none:Option (α×Store)) Q↔False:=⟨fun ⟨_,_,e,_⟩=>(by cases e),False.elim⟩
theorem yae {R:β→Store→Prop} {m:Option (α×Store)} {k:α→Dm β}:Wp (bnd m k) R↔Wp m fun a st1=>Wp (k a st1) R:=by
 cases m with
 | none=>exact ⟨fun ⟨_,_,e,_⟩=>(by cases e),fun ⟨_,_,e,_⟩=>(by cases e)⟩
 | some p=>exact ⟨fun h=>⟨p.1,p.2,rfl,h⟩,fun ⟨a,s,e,h⟩=>by cases e;exact h⟩
theorem Zaq {c:Prop} [Decidable c] {m n:Option (α×Store)}:Wp (if c then m else n) Q↔if c then Wp m Q else Wp n Q:=by split <;> exact Iff.rfl
end
section
variable {st:Store} {δ:DSt} {Q:D→Store→Prop}
theorem wp_var {i:Nat}:Wp (fVar i δ st) Q↔∃ d,δ[i]?=some (some d)∧Q d st:=by
 unfold fVar
 split
 ·next d hd=>rw [Xaa];exact ⟨fun h=>⟨d,hd,h⟩,fun ⟨e,he,h⟩=>by rw [hd] at he;cases he;exact h⟩
 ·next h=>rw [zae];exact ⟨False.elim,fun ⟨e,he,_⟩=>h e he⟩
theorem wp_c {d:D}:Wp (fC d δ st) Q↔Q d st:=Xaa
theorem wp_op {g:D→D→Dm D} {fa fb:DSt→Dm D}:Wp (fOp g fa fb δ st) Q↔Wp (fa δ st) fun a st1=>Wp (fb δ st1) fun b st2=>Wp (g a b st2) Q:=by
 unfold fOp;rw [yae];simp only [yae]
theorem wp_un {g:D→Dm D} {fa:DSt→Dm D}:Wp (fUn g fa δ st) Q↔Wp (fa δ st) fun a st1=>Wp (g a st1) Q:=yae
theorem wp_cb {g:List D→Dm D} {fa:DSt→Dm (List D)}:Wp (fCB g fa δ st) Q↔Wp (fa δ st) fun a st1=>Wp (g a st1) Q:=yae
theorem wp_nil {R:List D→Store→Prop}:Wp (fNil δ st) R↔R [] st:=Xaa
theorem ybH {R:List D→Store→Prop} {fa:DSt→Dm D} {fr:DSt→Dm (List D)}:Wp (fCons fa fr δ st) R↔Wp (fa δ st) fun a st1=>Wp (fr δ st1) fun r st2=>R (a :: r) st2:=by
 unfold fCons;rw [yae];simp only [yae,Xaa]
theorem wp_tup {fa:DSt→Dm (List D)}:Wp (fTup fa δ st) Q↔Wp (fa δ st) fun as st1=>lim as.length=true∧Q (.tup as) st1:=by
 unfold fTup;rw [yae];simp only [Zaq,Xaa,zae]
 constructor <;> exact fun h=>xab h fun a s h=>by first | (split at h;exact ⟨by assumption,h⟩;exact h.elim) | (rw [if_pos h.1];exact h.2)
theorem wp_lst {fa:DSt→Dm (List D)}:Wp (fLst fa δ st) Q↔Wp (fa δ st) fun as st1=>lim as.length=true∧Q (.ref st1.length) (st1 ++ [.lst as]):=by
 unfold fLst;rw [yae];simp only [Zaq,Xaa,zae]
 constructor <;> exact fun h=>xab h fun a s h=>by first | (split at h;exact ⟨by assumption,h⟩;exact h.elim) | (rw [if_pos h.1];exact h.2)
theorem ZbH {R:Bool→Store→Prop} {fa:DSt→Dm D}:Wp (fTest fa δ st) R↔Wp (fa δ st) fun a st1=>∃ b,a=.bl b∧R b st1:=by
 unfold fTest;rw [yae]
 constructor <;> refine fun h=>xab h fun a s h=>?_
 ·cases a <;> simp only [Xaa,zae] at h
  exact ⟨_,rfl,h⟩
 ·obtain ⟨b,rfl,h⟩:=h
  exact Xaa.mpr h
theorem wp_not {R:Bool→Store→Prop} {fa:DSt→Dm Bool}:Wp (fNot fa δ st) R↔Wp (fa δ st) fun a st1=>R (!a) st1:=by
 unfold fNot;rw [yae];simp only [Xaa]
theorem wp_and {R:Bool→Store→Prop} {fa fb:DSt→Dm Bool}:Wp (fAnd fa fb δ st) R↔Wp (fa δ st) fun a st1=>if a=true then Wp (fb δ st1) R else R false st1:=by
 unfold fAnd;rw [yae];simp only [Zaq,Xaa]
theorem wp_or {R:Bool→Store→Prop} {fa fb:DSt→Dm Bool}:Wp (fOr fa fb δ st) R↔Wp (fa δ st) fun a st1=>if a=true then R true st1 else Wp (fb δ st1) R:=by
 unfold fOr;rw [yae];simp only [Zaq,Xaa]
theorem wp_if {α:Type} {R:α→Store→Prop} {c:DSt→Dm Bool} {fa fb:DSt→Dm α}:Wp (fIf c fa fb δ st) R↔Wp (c δ st) fun a st1=>if a=true then Wp (fa δ st1) R else Wp (fb δ st1) R:=by
 unfold fIf;rw [yae];simp only [Zaq]
theorem YbH {fa fb:DSt→Dm D}:Wp (fAndV fa fb δ st) Q↔Wp (fTest fa δ st) fun a st1=>if a=true then Wp (fb δ st1) Q else Q (.bl false) st1:=by
 unfold fAndV;rw [yae];simp only [Zaq,Xaa]
theorem wp_orV {fa fb:DSt→Dm D}:Wp (fOrV fa fb δ st) Q↔Wp (fTest fa δ st) fun a st1=>if a=true then Q (.bl true) st1 else Wp (fb δ st1) Q:=by
 unfold fOrV;rw [yae];simp only [Zaq,Xaa]
theorem xbH {fa:DSt→Dm D}:Wp (fNotV fa δ st) Q↔Wp (fTest fa δ st) fun a st1=>Q (.bl (!a)) st1:=by
 unfold fNotV;rw [yae];simp only [Xaa]
theorem Ybm {R:Option Int→Store→Prop}:Wp (fNoPart δ st) R↔R none st:=Xaa
theorem XbH {R:Option Int→Store→Prop} {fa:DSt→Dm D}:Wp (fPart fa δ st) R↔Wp (fa δ st) fun a st1=>∃ i,a=.int i∧R (some i) st1:=by
 unfold fPart;rw [yae]
 constructor <;> refine fun h=>xab h fun a s h=>?_
 ·cases a <;> simp only [Xaa,zae] at h
  exact ⟨_,rfl,h⟩
 ·obtain ⟨b,rfl,h⟩:=h
  exact Xaa.mpr h
theorem wp_sl {g:D→Option Int→Option Int→Dm D} {fa:DSt→Dm D} {fl fh:DSt→Dm (Option Int)}:Wp (fSl g fa fl fh δ st) Q↔Wp (fa δ st) fun a st1=>Wp (fl δ st1) fun lo st2=>Wp (fh δ st2) fun hi st3=>Wp (g a lo hi st3) Q:=by
 unfold fSl;rw [yae];simp only [yae]
theorem wp_bm {T:String} {g:D→List D→Dm D} {fo:DSt→Dm D} {fa:DSt→Dm (List D)}:Wp (fBM T g fo fa δ st) Q↔Wp (fo δ st) fun o st1=>tyD T st1 o=true∧Wp (fa δ st1) fun as st2=>Wp (g o as st2) Q:=by
 unfold fBM;rw [yae];simp only [Zaq,yae,zae]
 constructor <;> exact fun h=>xab h fun a s h=>by first | (split at h;exact ⟨by assumption,h⟩;exact h.elim) | (rw [if_pos h.1];exact h.2)
variable {i j:Int} {ds es:List D} {k:Nat}
theorem wp_add:Wp (gAdd (.int i) (.int j) st) Q↔Q (.int (i + j)) st:=Xaa
theorem wp_sub:Wp (gSub (.int i) (.int j) st) Q↔Q (.int (i - j)) st:=Xaa
theorem wp_lt:Wp (gLt (.int i) (.int j) st) Q↔Q (.bl (decide (i < j))) st:=Xaa
theorem wp_le:Wp (gLe (.int i) (.int j) st) Q↔Q (.bl (decide (i≤j))) st:=Xaa
theorem wp_gt:Wp (gGt (.int i) (.int j) st) Q↔Q (.bl (decide (j < i))) st:=Xaa
theorem wp_ge:Wp (gGe (.int i) (.int j) st) Q↔Q (.bl (decide (j≤i))) st:=Xaa
theorem wp_neg:Wp (gNeg (.int i) st) Q↔Q (.int (-i)) st:=Xaa
theorem xbv {c:Int→Int→Bool} {h:Int→Int→D}:Wp (gIC c h (.int i) (.int j) st) Q↔c i j=true∧Q (h i j) st:=by
 show Wp (if c i j=true then some (h i j,st) else none) Q↔_
 rw [Zaq,Xaa,zae]
 split
 ·next h=>exact ⟨fun q=>⟨h,q⟩,fun q=>q.2⟩
 ·next h=>exact ⟨False.elim,fun q=>h q.1⟩
theorem wp_mul:Wp (gMul (.int i) (.int j) st) Q↔((-18446744073709551616 < i∧i < 18446744073709551616)∨(-18446744073709551616 < j∧j < 18446744073709551616))∧Q (.int (i * j)) st:=by
 unfold gMul;rw [xbv,Bool.or_eq_true,decide_eq_true_eq,decide_eq_true_eq]
theorem zbI:Wp (gFdiv (.int i) (.int j) st) Q↔(0 < j∧j < 1073741824)∧Q (.int (i / j)) st:=by unfold gFdiv;rw [xbv,decide_eq_true_eq]
theorem wp_mod:Wp (gMod (.int i) (.int j) st) Q↔0 < j∧Q (.int (i % j)) st:=by unfold gMod;rw [xbv,decide_eq_true_eq]
theorem wp_pow:Wp (gPow (.int i) (.int j) st) Q↔(0≤j∧j≤1000000∧i.natAbs < 18446744073709551616)∧Q (.int (i ^ j.toNat)) st:=by unfold gPow;rw [xbv,decide_eq_true_eq]
theorem wp_eqI {neg:Bool}:Wp (gEq neg (.int i) (.int j) st) Q↔Q (.bl (if neg then !decide (i=j) else decide (i=j))) st:=by
 have e:decide (V.int i=V.int j)=decide (i=j):=by
  by_cases h:i=j
  ·subst h;simp
  ·simp [h]
 show Wp (if scal (V.int i) (V.int j)=true then some (D.bl (if neg then !decide (V.int i=V.int j) else decide (V.int i=V.int j)),st) else none) Q↔_
 rw [if_pos (show scal _ _=true from rfl),Xaa,e]
theorem wp_eqS {neg:Bool} {x y:Str}:Wp (gEq neg (.str x) (.str y) st) Q↔Q (.bl (if neg then !decide (x=y) else decide (x=y))) st:=by
 have e:decide (V.str x=V.str y)=decide (x=y):=by
  by_cases h:x=y
  ·subst h;simp
  ·simp [h]
 show Wp (if scal (V.str x) (V.str y)=true then some (D.bl (if neg then !decide (V.str x=V.str y) else decide (V.str x=V.str y)),st) else none) Q↔_
 rw [if_pos (show scal _ _=true from rfl),Xaa,e]
theorem wp_ixT:Wp (gIxT (.tup ds) (.int i) st) Q↔∃ d,atI ds i=some d∧Q d st:=by
 show Wp (match atI ds i with | some d=>some (d,st) | none=>none) Q↔_
 cases atI ds i with
 | none=>rw [zae];exact ⟨False.elim,fun ⟨_,e,_⟩=>by cases e⟩
 | some d=>rw [Xaa];exact ⟨fun q=>⟨d,rfl,q⟩,fun ⟨_,e,q⟩=>by cases e;exact q⟩
theorem wp_ixL:Wp (gIxL (.ref k) (.int i) st) Q↔∃ ds d,items st k=some ds∧atI ds i=some d∧Q d st:=by
 show Wp (match items st k with | some ds=>(match atI ds i with | some d=>some (d,st) | none=>none) | none=>none) Q↔_
 cases items st k with
 | none=>rw [zae];exact ⟨False.elim,fun ⟨_,_,e,_⟩=>by cases e⟩
 | some ds =>
  show Wp (match atI ds i with | some d=>some (d,st) | none=>none) Q↔_
  cases h:atI ds i with
  | none=>rw [zae];exact ⟨False.elim,fun ⟨_,_,e,e',_⟩=>by cases e;rw [h] at e';cases e'⟩
  | some d=>rw [Xaa];exact ⟨fun q=>⟨ds,d,rfl,h,q⟩,fun ⟨_,_,e,e',q⟩=>by cases e;rw [h] at e';cases e';exact q⟩
theorem wp_slT {lo hi:Option Int}:Wp (gSlT (.tup ds) lo hi st) Q↔Q (.tup (cutD ds lo hi)) st:=Xaa
theorem wp_slL {lo hi:Option Int}:Wp (gSlL (.ref k) lo hi st) Q↔∃ ds,items st k=some ds∧Q (.ref st.length) (st ++ [.lst (cutD ds lo hi)]):=by
 show Wp (match items st k with | some ds=>some (D.ref st.length,st ++ [O.lst (cutD ds lo hi)]) | none=>none) Q↔_
 cases items st k with
 | none=>rw [zae];exact ⟨False.elim,fun ⟨_,e,_⟩=>by cases e⟩
 | some ds=>rw [Xaa];exact ⟨fun q=>⟨ds,rfl,q⟩,fun ⟨_,e,q⟩=>by cases e;exact q⟩
theorem ybI:Wp (gCatT (.tup ds) (.tup es) st) Q↔lim (ds.length + es.length)=true∧Q (.tup (ds ++ es)) st:=by
 show Wp (if lim (ds.length + es.length)=true then some (D.tup (ds ++ es),st) else none) Q↔_
 rw [Zaq,Xaa,zae]
 split
 ·next h=>exact ⟨fun q=>⟨h,q⟩,fun q=>q.2⟩
 ·next h=>exact ⟨False.elim,fun q=>h q.1⟩
theorem wp_cat {a b:Nat}:Wp (gCat (.ref a) (.ref b) st) Q↔∃ xs ys,own st a=some xs∧own st b=some ys∧lim (xs.length + ys.length)=true∧Q (.ref st.length) (st ++ [.lst (xs ++ ys)]):=by
 show Wp (match own st a,own st b with | some xs,some ys=>if lim (xs.length + ys.length)=true then some (D.ref st.length,st ++ [O.lst (xs ++ ys)]) else none | _,_=>none) Q↔_
 cases ha:own st a <;> cases hb:own st b
 ·simp only [zae];exact ⟨False.elim,fun ⟨_,_,e,_⟩=>by cases e⟩
 ·simp only [zae];exact ⟨False.elim,fun ⟨_,_,e,_⟩=>by cases e⟩
 ·simp only [zae];exact ⟨False.elim,fun ⟨_,_,_,e,_⟩=>by cases e⟩
 ·next xs ys =>
  show Wp (if lim (xs.length + ys.length)=true then some (D.ref st.length,st ++ [O.lst (xs ++ ys)]) else none) Q↔_
  rw [Zaq,Xaa,zae]
  split
  ·next h=>exact ⟨fun q=>⟨_,_,rfl,rfl,h,q⟩,fun ⟨_,_,e,e',_,q⟩=>by cases e;cases e';exact q⟩
  ·next h=>exact ⟨False.elim,fun ⟨_,_,e,e',q,_⟩=>by cases e;cases e';exact h q⟩
theorem wp_len {a:D}:Wp (gLen [a] st) Q↔∃ ds,seqOf st a=some ds∧Q (.int ds.length) st:=by
 show Wp (match seqOf st a with | some ds=>some (D.int ds.length,st) | none=>none) Q↔_
 cases seqOf st a with
 | none=>rw [zae];exact ⟨False.elim,fun ⟨_,e,_⟩=>by cases e⟩
 | some ds=>rw [Xaa];exact ⟨fun q=>⟨ds,rfl,q⟩,fun ⟨_,e,q⟩=>by cases e;exact q⟩
theorem ZbI {a:D}:Wp (gList [a] st) Q↔∃ ds,seqOf st a=some ds∧Q (.ref st.length) (st ++ [.lst ds]):=by
 show Wp (match seqOf st a with | some ds=>some (D.ref st.length,st ++ [O.lst ds]) | none=>none) Q↔_
 cases seqOf st a with
 | none=>rw [zae];exact ⟨False.elim,fun ⟨_,e,_⟩=>by cases e⟩
 | some ds=>rw [Xaa];exact ⟨fun q=>⟨ds,rfl,q⟩,fun ⟨_,e,q⟩=>by cases e;exact q⟩
theorem Xbv {a:D}:Wp (gTuple [a] st) Q↔∃ ds,seqOf st a=some ds∧Q (.tup ds) st:=by
 show Wp (match seqOf st a with | some ds=>some (D.tup ds,st) | none=>none) Q↔_
 cases seqOf st a with
 | none=>rw [zae];exact ⟨False.elim,fun ⟨_,e,_⟩=>by cases e⟩
 | some ds=>rw [Xaa];exact ⟨fun q=>⟨ds,rfl,q⟩,fun ⟨_,e,q⟩=>by cases e;exact q⟩
theorem YbI:Wp (gMax2 [.int i,.int j] st) Q↔Q (.int (if j > i then j else i)) st:=Xaa
theorem xbI:Wp (gMin2 [.int i,.int j] st) Q↔Q (.int (if j < i then j else i)) st:=Xaa
theorem XbI:Wp (gInt1 [.int i] st) Q↔Q (.int i) st:=Xaa
theorem zbw {b:Bool}:Wp (gInt1 [.bl b] st) Q↔Q (.int (if b then 1 else 0)) st:=Xaa
theorem xbm:Wp (gRange1 [.int j] st) Q↔Q (.ref st.length) (st ++ [.rng 0 j]):=Xaa
theorem Xbm:Wp (gRange2 [.int i,.int j] st) Q↔Q (.ref st.length) (st ++ [.rng i j]):=Xaa
theorem zbn {y:D}:Wp (gAppend (.ref k) [y] st) Q↔∃ xs,own st k=some xs∧lim xs.length=true∧Q .non (st.set k (.lst (xs ++ [y]))):=by
 show Wp (match own st k with | some xs=>if lim xs.length=true then some (D.non,st.set k (O.lst (xs ++ [y]))) else none | none=>none) Q↔_
 cases own st k with
 | none=>rw [zae];exact ⟨False.elim,fun ⟨_,e,_⟩=>by cases e⟩
 | some xs =>
  show Wp (if lim xs.length=true then some (D.non,st.set k (O.lst (xs ++ [y]))) else none) Q↔_
  rw [Zaq,Xaa,zae]
  split
  ·next h=>exact ⟨fun q=>⟨_,rfl,h,q⟩,fun ⟨_,e,_,q⟩=>by cases e;exact q⟩
  ·next h=>exact ⟨False.elim,fun ⟨_,e,q,_⟩=>by cases e;exact h q⟩
end
noncomputable def Ws (m:Option (Fl×Store)) (N B C:DSt→Store→Prop) (R:D→Store→Prop):Prop:=Wp m fun fl st=>match fl with
 | .nx δ=>N δ st
 | .bk δ=>B δ st
 | .ct δ=>C δ st
 | .rt d=>R d st
section
variable {st:Store} {δ:DSt} {N B C:DSt→Store→Prop} {R:D→Store→Prop} {f g:DSt→Dm Fl} {e:DSt→Dm D}
theorem YaO {m:Option (Fl×Store)} {N':DSt→Store→Prop} (h:Ws m N B C R) (hn:∀ δ st,N δ st→N' δ st):Ws m N' B C R:=xab h fun fl st q=>by
 cases fl with
 | nx δ=>exact hn δ st q
 | bk δ=>exact q
 | ct δ=>exact q
 | rt d=>exact q
theorem zad (h:Ws (f δ st) (fun δ1 st1=>Ws (g δ1 st1) N B C R) B C R):Ws (fSeq f g δ st) N B C R:=by
 unfold Ws fSeq
 rw [yae]
 refine xab h fun fl st1 q=>?_
 cases fl with
 | nx δ1=>exact q
 | bk δ1=>exact Xaa.mpr q
 | ct δ1=>exact Xaa.mpr q
 | rt d=>exact Xaa.mpr q
theorem xag (h:N δ st):Ws (fNext δ st) N B C R:=Xaa.mpr h
theorem za0 {t:D→DSt→Dm DSt} (h:Wp (e δ st) fun d st1=>Wp (t d δ st1) N):Ws (fAsg e t δ st) N B C R:=by
 unfold Ws fAsg
 rw [yae]
 refine xab h fun d st1 q=>?_
 rw [yae]
 exact xab q fun δ1 st2 q=>Xaa.mpr q
theorem yaf {i:Nat} (h:Wp (e δ st) fun d st1=>N (δ.set i (some d)) st1):Ws (fAsg e (hName i) δ st) N B C R:=za0 (xab h fun d st1 q=>Xaa.mpr q)
theorem ya4 (h:Wp (e δ st) fun _ st1=>N δ st1):Ws (fDrop e δ st) N B C R:=by
 unfold Ws fDrop
 rw [yae]
 exact xab h fun d st1 q=>Xaa.mpr q
theorem zaj (h:Wp (e δ st) R):Ws (fRet e δ st) N B C R:=by
 unfold Ws fRet
 rw [yae]
 exact xab h fun d st1 q=>Xaa.mpr q
theorem zas {c:DSt→Dm Bool} (h:Wp (c δ st) fun b st1=>(b=true→Ws (f δ st1) N B C R)∧(b=false→Ws (g δ st1) N B C R)):Ws (fIf c f g δ st) N B C R:=by
 unfold Ws
 rw [wp_if]
 refine xab h fun b st1 q=>?_
 cases b with
 | true=>rw [if_pos rfl];exact q.1 rfl
 | false=>rw [if_neg Bool.false_ne_true];exact q.2 rfl
theorem ZbC {i j:Nat} {fa:DSt→Dm (List D)} (h:Wp (fa δ st) fun as st1=>∃ a b,as=[a,b]∧N ((δ.set i (some a)).set j (some b)) st1):Ws (fPar i j fa δ st) N B C R:=by
 unfold Ws fPar
 rw [yae]
 refine xab h fun as st1 q=>?_
 obtain ⟨a,b,rfl,q⟩:=q
 exact Xaa.mpr q
theorem xaD {n:Nat} {b:DSt→Dm Fl} {ds:List D} (h:Ws (b (ds.map some ++ List.replicate (n - ds.length) none) st) (fun _ st1=>R .non st1) (fun _ _=>False) (fun _ _=>False) R):Wp (fnF n b ds st) R:=by
 unfold fnF
 rw [yae]
 refine xab h fun fl st1 q=>?_
 cases fl with
 | nx δ1=>exact Xaa.mpr q
 | bk δ1=>exact q.elim
 | ct δ1=>exact q.elim
 | rt d=>exact Xaa.mpr q
theorem xaV {c:DSt→Dm Bool} {b:DSt→Dm Fl} (W:Nat→DSt→Store→Prop) (m:Nat) (hm:m < fuel) (h0:W m δ st)
  (step:∀ m δ st,W m δ st→Wp (c δ st) fun t st1=>(t=true→Ws (b δ st1) (fun δ2 st2=>∃ m',m' < m∧W m' δ2 st2) N (fun δ2 st2=>∃ m',m' < m∧W m' δ2 st2) R)∧(t=false→N δ st1)):Ws (fWhile c b δ st) N B C R:=by
 have key:∀ (k m:Nat) (δ:DSt) (st:Store),m < k→W m δ st→Ws (fWhileGo c b k δ st) N B C R:=by
  intro k
  induction k with
  | zero=>intro m δ st h;exact absurd h (Nat.not_lt_zero _)
  | succ k ih =>
   intro m δ st hk hw
   unfold Ws fWhileGo
   rw [yae]
   refine xab (step m δ st hw) fun t st1 q=>?_
   cases t with
   | false=>rw [if_neg Bool.false_ne_true];exact Xaa.mpr (q.2 rfl)
   | true =>
    rw [if_pos rfl,yae]
    refine xab (q.1 rfl) fun fl st2 q=>?_
    cases fl with
    | nx δ2=>obtain ⟨m',hm',w⟩:=q;exact ih m' δ2 st2 (by omega) w
    | ct δ2=>obtain ⟨m',hm',w⟩:=q;exact ih m' δ2 st2 (by omega) w
    | bk δ2=>exact Xaa.mpr q
    | rt d=>exact Xaa.mpr q
 exact key fuel m δ st hm h0
theorem xaJ {fi:DSt→Dm Src} {t:D→DSt→Dm DSt} {b:DSt→Dm Fl} (ds:List D) (Pv:Nat→DSt→Store→Prop) (hi:Wp (fi δ st) fun S st1=>S=.fix ds∧Pv 0 δ st1) (hl:ds.length < 100000)
  (step:∀ i d δ st,ds[i]?=some d→Pv i δ st→Wp (t d δ st) fun δ1 st1=>Ws (b δ1 st1) (Pv (i + 1)) N (Pv (i + 1)) R) (fin:∀ δ st,Pv ds.length δ st→N δ st):Ws (fFor fi t b δ st) N B C R:=by
 unfold Ws fFor
 rw [yae]
 refine xab hi fun S st0 q=>?_
 obtain ⟨rfl,h0⟩:=q
 have key:∀ (k i:Nat) (δ:DSt) (st:Store),i≤ds.length→ds.length - i < k→Pv i δ st→Ws (fForGo (.fix ds) t b k i δ st) N B C R:=by
  intro k
  induction k with
  | zero=>intro i δ st _ h;exact absurd h (Nat.not_lt_zero _)
  | succ k ih =>
   intro i δ st hi hk hw
   unfold Ws fForGo
   have e:Src.at (.fix ds) i st=some ds[i]?:=by show (if i≤ds.length then some ds[i]? else none)=_;rw [if_pos hi]
   rw [e]
   cases hd:ds[i]? with
   | none =>
    have:=List.getElem?_eq_none_iff.mp hd
    have e:i=ds.length:=by omega
    exact Xaa.mpr (fin δ st (e ▸ hw))
   | some d =>
    have hlt:=(List.getElem?_eq_some_iff.mp hd).1
    show Wp (bnd _ _) _
    rw [yae]
    refine xab (step i d δ st hd hw) fun δ1 st1 q=>?_
    rw [yae]
    refine xab q fun fl st2 q=>?_
    cases fl with
    | nx δ2=>exact ih (i + 1) δ2 st2 (by omega) (by omega) q
    | ct δ2=>exact ih (i + 1) δ2 st2 (by omega) (by omega) q
    | bk δ2=>exact Xaa.mpr q
    | rt d=>exact Xaa.mpr q
 exact key fuel 0 δ st0 (Nat.zero_le _) (Nat.lt_trans (by omega) (show 100000 < fuel by decide)) h0
theorem zbJ {fi:DSt→Dm Src} {t:D→DSt→Dm DSt} {b:DSt→Dm Fl} (ds:List D) (r:Nat) (Pv:Nat→DSt→Store→Prop) (hi:Wp (fi δ st) fun S st1=>S=.live r∧Pv 0 δ st1) (hl:ds.length < 100000) (hk:∀ i δ st,Pv i δ st→items st r=some ds)
  (step:∀ i d δ st,ds[i]?=some d→Pv i δ st→Wp (t d δ st) fun δ1 st1=>Ws (b δ1 st1) (Pv (i + 1)) N (Pv (i + 1)) R) (fin:∀ δ st,Pv ds.length δ st→N δ st):Ws (fFor fi t b δ st) N B C R:=by
 unfold Ws fFor
 rw [yae]
 refine xab hi fun S st0 q=>?_
 obtain ⟨rfl,h0⟩:=q
 have key:∀ (k i:Nat) (δ:DSt) (st:Store),i≤ds.length→ds.length - i < k→Pv i δ st→Ws (fForGo (.live r) t b k i δ st) N B C R:=by
  intro k
  induction k with
  | zero=>intro i δ st _ h;exact absurd h (Nat.not_lt_zero _)
  | succ k ih =>
   intro i δ st hi hk' hw
   unfold Ws fForGo
   have e:Src.at (.live r) i st=some ds[i]?:=by show (items st r).map _=_;rw [hk i δ st hw];rfl
   rw [e]
   cases hd:ds[i]? with
   | none =>
    have:=List.getElem?_eq_none_iff.mp hd
    have e:i=ds.length:=by omega
    exact Xaa.mpr (fin δ st (e ▸ hw))
   | some d =>
    have hlt:=(List.getElem?_eq_some_iff.mp hd).1
    show Wp (bnd _ _) _
    rw [yae]
    refine xab (step i d δ st hd hw) fun δ1 st1 q=>?_
    rw [yae]
    refine xab q fun fl st2 q=>?_
    cases fl with
    | nx δ2=>exact ih (i + 1) δ2 st2 (by omega) (by omega) q
    | ct δ2=>exact ih (i + 1) δ2 st2 (by omega) (by omega) q
    | bk δ2=>exact Xaa.mpr q
    | rt d=>exact Xaa.mpr q
 exact key fuel 0 δ st0 (Nat.zero_le _) (Nat.lt_trans (by omega) (show 100000 < fuel by decide)) h0
theorem Za4 {fi:DSt→Dm Src} {n:Nat} {js:List Nat} {t:D→DSt→Dm DSt} {c:DSt→Dm Bool} {f:DSt→Dm D} {Q:D→Store→Prop} (ds:List D) (Pv:Nat→List D→DSt→Store→Prop)
  (hi:Wp (fi δ st) fun S st1=>(∀ i ys δ st,i≤ds.length→Pv i ys δ st→S.at i st=some ds[i]?)∧Pv 0 [] (compD n js δ) st1) (hl:ds.length < 100000) (hy:∀ i ys δ st,Pv i ys δ st→ys.length≤i)
  (step:∀ i d ys δ st,ds[i]?=some d→Pv i ys δ st→Wp (t d δ st) fun δ1 st1=>Wp (c δ1 st1) fun b st2=>(b=true→Wp (f δ1 st2) fun y st3=>Pv (i + 1) (ys ++ [y]) δ1 st3)∧(b=false→Pv (i + 1) ys δ1 st2))
  (fin:∀ ys δ st,Pv ds.length ys δ st→Q (.ref st.length) (st ++ [.lst ys])):Wp (fComp fi n js t c f δ st) Q:=by
 unfold fComp
 rw [yae]
 refine xab hi fun S st0 q=>?_
 obtain ⟨hS,h0⟩:=q
 have key:∀ (k i:Nat) (ys:List D) (δ:DSt) (st:Store),i≤ds.length→ds.length - i < k→Pv i ys δ st→Wp (fCompGo S t c f k i ys δ st) fun zs st9=>∃ δ9,Pv ds.length zs δ9 st9:=by
  intro k
  induction k with
  | zero=>intro i ys δ st _ h;exact absurd h (Nat.not_lt_zero _)
  | succ k ih =>
   intro i ys δ st hi hk' hw
   unfold fCompGo
   have hlim:lim ys.length=true:=Nat.ble_eq_true_of_le (by have:=hy i ys δ st hw;omega)
   rw [if_pos hlim,hS i ys δ st hi hw]
   cases hd:ds[i]? with
   | none =>
    have:=List.getElem?_eq_none_iff.mp hd
    have e:i=ds.length:=by omega
    exact Xaa.mpr ⟨δ,e ▸ hw⟩
   | some d =>
    have hlt:=(List.getElem?_eq_some_iff.mp hd).1
    show Wp (bnd _ _) _
    rw [yae]
    refine xab (step i d ys δ st hd hw) fun δ1 st1 q=>?_
    rw [yae]
    refine xab q fun b st2 q=>?_
    cases b with
    | true =>
     rw [if_pos rfl,yae]
     exact xab (q.1 rfl) fun y st3 q=>ih (i + 1) _ δ1 st3 (by omega) (by omega) q
    | false =>
     rw [if_neg Bool.false_ne_true]
     exact ih (i + 1) ys δ1 st2 (by omega) (by omega) (q.2 rfl)
 rw [yae]
 exact xab (key fuel 0 [] _ st0 (Nat.zero_le _) (Nat.lt_trans (by omega) (show 100000 < fuel by decide)) h0) fun zs st9 ⟨δ9,q⟩=>Xaa.mpr (fin zs δ9 st9 q)
end
end L4
namespace L4
open PySem PySem.Spec L2
noncomputable def keyOf:D→Option Key
 | .int i=>some (.inl i)
 | .str x=>some (.inr x)
 | _=>none
noncomputable def dctOf (st:Store):D→Option (List (Key×D))
 | .ref i=>match st[i]? with
  | some (.dct kvs)=>some kvs
  | _=>none
 | _=>none
noncomputable def valD (kvs:List (Key×D)) (k:Key):Option D:=(kvs.find? fun kv=>decide (kv.1=k)).map (·.2)
noncomputable def putD (kvs:List (Key×D)) (k:Key) (v:D):List (Key×D) :=
 if (kvs.any fun kv=>decide (kv.1=k))=true then kvs.map (fun kv=>if kv.1=k then (kv.1,v) else kv) else kvs ++ [(k,v)]
section
variable {K:PySem.W.Frag} {ρ:List Addr} {H:Hp} {st:Store}
end
section
variable {K:PySem.W.Frag}
noncomputable def fDNew:DSt→Dm D:=fun _ st=>some (.ref st.length,st ++ [.dct []])
noncomputable def fDGet (fd fy:DSt→Dm D):DSt→Dm D:=fun δ st=>bnd (fd δ st) fun x st1=>bnd (fy δ st1) fun y st2=>match dctOf st2 x,keyOf y with
 | some kvs,some k=>match valD kvs k with
  | some v=>some (v,st2)
  | none=>none
 | _,_=>none
noncomputable def fDIn (neg:Bool) (fy fd:DSt→Dm D):DSt→Dm D:=fun δ st=>bnd (fy δ st) fun y st1=>bnd (fd δ st1) fun x st2=>match dctOf st2 x,keyOf y with
 | some kvs,some k=>some (.bl (if neg then !(valD kvs k).isSome else (valD kvs k).isSome),st2)
 | _,_=>none
noncomputable def fPNil:DSt→Dm (List (D×D)):=fun _ st=>some ([],st)
noncomputable def fPCons (fk fv:DSt→Dm D) (fr:DSt→Dm (List (D×D))):DSt→Dm (List (D×D)):=fun δ st=>bnd (fk δ st) fun k st1=>bnd (fv δ st1) fun v st2=>bnd (fr δ st2) fun r st3=>some ((k,v) :: r,st3)
noncomputable def keysOf:List (D×D)→Option (List (Key×D))
 | []=>some []
 | (k,v) :: r=>match keyOf k,keysOf r with
  | some k',some r'=>some ((k',v) :: r')
  | _,_=>none
noncomputable def mergeD (kvs more:List (Key×D)):List (Key×D):=more.foldl (fun acc kv=>putD acc kv.1 kv.2) kvs
noncomputable def fDisp (fp:DSt→Dm (List (D×D))):DSt→Dm D:=fun δ st=>bnd (fp δ (st ++ [.dct []])) fun ps st2=>match st2[st.length]?,keysOf ps with
 | some (.dct []),some kvs=>if kvs.length≤15 then some (.ref st.length,st2.set st.length (.dct (mergeD [] kvs))) else none
 | _,_=>none
end
section
variable {st:Store} {δ:DSt} {Q:D→Store→Prop}
theorem ybJ:Wp (fDNew δ st) Q↔Q (.ref st.length) (st ++ [.dct []]):=Xaa
theorem ZbJ {fd fy:DSt→Dm D}:Wp (fDGet fd fy δ st) Q↔Wp (fd δ st) fun x st1=>Wp (fy δ st1) fun y st2=>∃ kvs k v,dctOf st2 x=some kvs∧keyOf y=some k∧valD kvs k=some v∧Q v st2:=by
 unfold fDGet;rw [yae];simp only [yae]
 constructor <;> refine fun h=>xab h fun x s h=>xab h fun y s2 h=>?_
 ·split at h
  ·next kvs k h1 h2 =>
   split at h
   ·next v h3=>exact ⟨kvs,k,v,by assumption,by assumption,h3,Xaa.mp h⟩
   ·exact (zae.mp h).elim
  ·exact (zae.mp h).elim
 ·obtain ⟨kvs,k,v,h1,h2,h3,h⟩:=h
  rw [h1,h2]
  simp only [h3]
  exact Xaa.mpr h
theorem wp_din {neg:Bool} {fd fy:DSt→Dm D}:Wp (fDIn neg fy fd δ st) Q↔Wp (fy δ st) fun y st1=>Wp (fd δ st1) fun x st2=>∃ kvs k,dctOf st2 x=some kvs∧keyOf y=some k∧Q (.bl (if neg then !(valD kvs k).isSome else (valD kvs k).isSome)) st2:=by
 unfold fDIn;rw [yae];simp only [yae]
 constructor <;> refine fun h=>xab h fun x s h=>xab h fun y s2 h=>?_
 ·split at h
  ·next kvs k h1 h2=>exact ⟨kvs,k,by assumption,by assumption,Xaa.mp h⟩
  ·exact (zae.mp h).elim
 ·obtain ⟨kvs,k,h1,h2,h⟩:=h
  rw [h1,h2]
  exact Xaa.mpr h
theorem YbJ {R:List (D×D)→Store→Prop}:Wp (fPNil δ st) R↔R [] st:=Xaa
theorem ybw {fk fv:DSt→Dm D} {fr:DSt→Dm (List (D×D))} {R:List (D×D)→Store→Prop}:Wp (fPCons fk fv fr δ st) R↔Wp (fk δ st) fun k st1=>Wp (fv δ st1) fun v st2=>Wp (fr δ st2) fun r st3=>R ((k,v) :: r) st3:=by
 unfold fPCons;rw [yae];simp only [yae,Xaa]
theorem xbJ {fp:DSt→Dm (List (D×D))}:Wp (fDisp fp δ st) Q↔Wp (fp δ (st ++ [.dct []])) fun ps st2=>st2[st.length]?=some (.dct [])∧∃ kvs,keysOf ps=some kvs∧kvs.length≤15∧Q (.ref st.length) (st2.set st.length (.dct (mergeD [] kvs))):=by
 unfold fDisp;rw [yae]
 constructor <;> refine fun h=>xab h fun ps s h=>?_
 ·split at h
  ·next kvs h1 h2 =>
   rw [Zaq,Xaa,zae] at h
   split at h
   ·next hl=>exact ⟨by assumption,kvs,by assumption,hl,h⟩
   ·exact h.elim
  ·exact (zae.mp h).elim
 ·obtain ⟨h1,kvs,h2,h3,h⟩:=h
  rw [h1,h2]
  simp only [if_pos h3]
  exact Xaa.mpr h
end
end L4
namespace L4
open PySem PySem.Spec L2
structure Ex (c:List Nat) (st st':Store):Prop where
 len:st.length≤st'.length
 keep:∀ (i:Nat) (o:O),st[i]?=some o→i ∉ c→st'[i]?=some o
section
variable {c c':List Nat} {st st1 st2:Store} {i:Nat} {o:O} {ds:List D}
theorem Ex.refl:Ex c st st:=⟨Nat.le_refl _,fun _ _ h _=>h⟩
theorem Ex.trans (a:Ex c st st1) (b:Ex c st1 st2):Ex c st st2:=⟨Nat.le_trans a.len b.len,fun i o h n=>b.keep i o (a.keep i o h n) n⟩
theorem Ex.mono (a:Ex c st st1) (h:∀ x∈c,x∈c'):Ex c' st st1:=⟨a.len,fun i o e n=>a.keep i o e fun z=>n (h i z)⟩
theorem Ex.any (a:Ex [] st st1):Ex c st st1:=a.mono fun x h=>nomatch h
theorem xad {α:Type} {l:List α} {i:Nat} {o:α} (h:l[i]?=some o):i < l.length:=(List.getElem?_eq_some_iff.mp h).1
theorem yaj {l m:List O} (h:l[i]?=some o):(l ++ m)[i]?=some o:=by rw [List.getElem?_append_left (xad h)];exact h
theorem yah {l:List O}:(l ++ [o])[l.length]?=some o:=by rw [List.getElem?_append_right (Nat.le_refl _),Nat.sub_self];rfl
theorem Ex.app (a:Ex c st st1) (m:List O):Ex c st (st1 ++ m):=⟨by rw [List.length_append];exact Nat.le_trans a.len (Nat.le_add_right _ _),fun i o h n=>yaj (a.keep i o h n)⟩
theorem Ex.app0 (m:List O):Ex c st (st ++ m):=Ex.refl.app m
theorem Ex.put (a:Ex c st st1) (h:i∈c):Ex c st (st1.set i o):=⟨by rw [List.length_set];exact a.len,fun j u e n=>by rw [List.getElem?_set_ne (fun z=>n (by rw [← z];exact h))];exact a.keep j u e n⟩
theorem Ex.loc (a:Ex c st st1) (h:st.length≤i):Ex c st (st1.set i o):=⟨by rw [List.length_set];exact a.len,fun j u e n=>by rw [List.getElem?_set_ne (by have:=xad e;omega)];exact a.keep j u e n⟩
theorem Zad (h:st[i]?=some (.lst ds)):items st i=some ds:=by unfold items;rw [h]
theorem ybn (h:st[i]?=some (.fzn ds)):items st i=some ds:=by unfold items;rw [h]
theorem zan (h:st[i]?=some (.lst ds)):own st i=some ds:=by unfold own;rw [h]
theorem Zal:items (st ++ [.lst ds]) st.length=some ds:=Zad yah
theorem Zbn:own (st ++ [.lst ds]) st.length=some ds:=zan yah
theorem zbd {o':O}:items (st ++ [.lst ds] ++ [o']) st.length=some ds:=Zad (yaj yah)
theorem Zbw {o':O}:own (st ++ [.lst ds] ++ [o']) st.length=some ds:=zan (yaj yah)
theorem ybd {o' o2:O}:items (st ++ [.lst ds] ++ [o'] ++ [o2]) st.length=some ds:=Zad (yaj (yaj yah))
theorem Ybw {o' o2:O}:own (st ++ [.lst ds] ++ [o'] ++ [o2]) st.length=some ds:=zan (yaj (yaj yah))
theorem Ybn {lo hi:Int}:rngOf (st ++ [.rng lo hi]) (.ref st.length)=some (lo,hi):=by simp only [rngOf,yah]
theorem XbJ:seqOf st (.tup ds)=some ds:=rfl
theorem zbK:seqOf st (.ref i)=items st i:=rfl
theorem yaK (h:(items st i).isSome=true):tyD "list" st (.ref i)=true:=by simp only [tyD,h];rfl
theorem yam {n:Nat} (h:n≤100000):lim n=true:=Nat.ble_eq_true_of_le h
end
section
variable {st:Store} {Q:D→Store→Prop} {i j:Int} {k:Nat} {ds es:List D}
theorem xbw {a:D}:Wp (gListR [a] st) Q↔∃ p,rngOf st a=some p∧okR p.1 p.2=true∧Q (.ref st.length) (st ++ [.lst (rangeD p.1 (p.2 - p.1).toNat)]):=by
 show Wp (match rngOf st a with | some (lo,hi)=>if okR lo hi=true then some (D.ref st.length,st ++ [O.lst (rangeD lo (hi - lo).toNat)]) else none | none=>none) Q↔_
 cases rngOf st a with
 | none=>rw [zae];exact ⟨False.elim,fun ⟨_,e,_⟩=>by cases e⟩
 | some p =>
  obtain ⟨lo,hi⟩:=p
  show Wp (if okR lo hi=true then some (D.ref st.length,st ++ [O.lst (rangeD lo (hi - lo).toNat)]) else none) Q↔_
  rw [Zaq,Xaa,zae]
  split
  ·next h=>exact ⟨fun q=>⟨_,rfl,h,q⟩,fun ⟨_,e,_,q⟩=>by cases e;exact q⟩
  ·next h=>exact ⟨False.elim,fun ⟨_,e,q,_⟩=>by cases e;exact h q⟩
theorem xbn {a:D}:Wp (gTupleR [a] st) Q↔∃ p,rngOf st a=some p∧okR p.1 p.2=true∧Q (.tup (rangeD p.1 (p.2 - p.1).toNat)) st:=by
 show Wp (match rngOf st a with | some (lo,hi)=>if okR lo hi=true then some (D.tup (rangeD lo (hi - lo).toNat),st) else none | none=>none) Q↔_
 cases rngOf st a with
 | none=>rw [zae];exact ⟨False.elim,fun ⟨_,e,_⟩=>by cases e⟩
 | some p =>
  obtain ⟨lo,hi⟩:=p
  show Wp (if okR lo hi=true then some (D.tup (rangeD lo (hi - lo).toNat),st) else none) Q↔_
  rw [Zaq,Xaa,zae]
  split
  ·next h=>exact ⟨fun q=>⟨_,rfl,h,q⟩,fun ⟨_,e,_,q⟩=>by cases e;exact q⟩
  ·next h=>exact ⟨False.elim,fun ⟨_,e,q,_⟩=>by cases e;exact h q⟩
theorem wp_rep:Wp (gRep (.ref k) (.int j) st) Q↔∃ xs,own st k=some xs∧(-9223372036854775808≤j∧j < 9223372036854775808)∧lim (xs.length * j.toNat)=true∧Q (.ref st.length) (st ++ [.lst (List.replicate j.toNat xs).flatten]):=by
 show Wp (match own st k with | some a=>if (decide (-9223372036854775808≤j∧j < 9223372036854775808) && lim (a.length * j.toNat))=true then some (D.ref st.length,st ++ [O.lst (List.replicate j.toNat a).flatten]) else none | _=>none) Q↔_
 cases own st k with
 | none=>simp only [zae];exact ⟨False.elim,fun ⟨_,e,_⟩=>by cases e⟩
 | some xs =>
  show Wp (if (decide (-9223372036854775808≤j∧j < 9223372036854775808) && lim (xs.length * j.toNat))=true then some (D.ref st.length,st ++ [O.lst (List.replicate j.toNat xs).flatten]) else none) Q↔_
  rw [Zaq,Xaa,zae]
  split
  ·next h=>rw [Bool.and_eq_true,decide_eq_true_eq] at h;exact ⟨fun q=>⟨_,rfl,h.1,h.2,q⟩,fun ⟨_,e,_,_,q⟩=>by cases e;exact q⟩
  ·next h=>rw [Bool.and_eq_true,decide_eq_true_eq] at h;exact ⟨False.elim,fun ⟨_,e,q,q',_⟩=>by cases e;exact h ⟨q,q'⟩⟩
theorem Xbw:Wp (gPopAt (.ref k) [.int i] st) Q↔∃ xs j y,own st k=some xs∧(-9223372036854775808≤i∧i < 9223372036854775808)∧seqIndex? i xs.length=some j∧xs[j]?=some y∧Q y (st.set k (.lst (xs.eraseIdx j))):=by
 constructor
 ·rintro ⟨a,s,e,q⟩
  simp only [gPopAt] at e
  split at e
  ·next xs hx =>
   split at e
   ·next hk =>
    split at e
    ·next j hj =>
     split at e
     ·next y hy=>cases e;exact ⟨xs,j,_,hx,of_decide_eq_true hk,hj,hy,q⟩
     ·cases e
    ·cases e
   ·cases e
  ·cases e
 ·rintro ⟨xs,j,y,hx,hk,hj,hy,q⟩
  refine ⟨_,_,?_,q⟩
  simp only [gPopAt,hx,hj,hy,decide_eq_true hk]
  rfl
theorem Xbn {b:Nat}:Wp (gExtend (.ref k) [.ref b] st) Q↔∃ xs ys,own st k=some xs∧own st b=some ys∧lim (xs.length + ys.length)=true∧Q .non (st.set k (.lst (xs ++ ys))):=by
 constructor
 ·rintro ⟨a,s,e,q⟩
  simp only [gExtend] at e
  split at e
  ·next xs ys hx hy =>
   split at e
   ·next hl=>cases e;exact ⟨xs,ys,hx,hy,hl,q⟩
   ·cases e
  ·cases e
 ·rintro ⟨xs,ys,hx,hy,hl,q⟩
  refine ⟨_,_,?_,q⟩
  simp only [gExtend,hx,hy,hl]
  rfl
theorem zbx {v:Int}:Wp (gIndex (.tup ds) [.int v] st) Q↔∃ ns j,mapO iV ds=some ns∧ns.findIdx? (fun i=>decide (i=v))=some j∧Q (.int (j:Int)) st:=by
 constructor
 ·rintro ⟨a,s,e,q⟩
  simp only [gIndex] at e
  split at e
  ·next ns hn =>
   split at e
   ·next j hj=>cases e;exact ⟨ns,j,hn,hj,q⟩
   ·cases e
  ·cases e
 ·rintro ⟨ns,j,hn,hj,q⟩
  refine ⟨_,_,?_,q⟩
  simp only [gIndex,hn,hj]
theorem wp_all:Wp (gAll [.ref k] st) Q↔∃ ds bs,items st k=some ds∧mapO bV ds=some bs∧Q (.bl (bs.all id)) st:=by
 constructor
 ·rintro ⟨a,s,e,q⟩
  simp only [gAll] at e
  split at e
  ·next bs hb =>
   cases e
   obtain ⟨ds,h1,h2⟩:=Option.bind_eq_some_iff.mp hb
   exact ⟨ds,bs,h1,h2,q⟩
  ·cases e
 ·rintro ⟨ds,bs,h1,h2,q⟩
  refine ⟨_,_,?_,q⟩
  simp only [gAll,h1,Option.bind_some,h2]
theorem wp_in {neg:Bool} {a c:D}:Wp (gIn neg a c st) Q↔∃ x ds vs,sV a=some x∧seqOf st c=some ds∧mapO sV ds=some vs∧Q (.bl (if neg then !inV x vs else inV x vs)) st:=by
 constructor
 ·rintro ⟨b,s,e,q⟩
  simp only [gIn] at e
  split at e
  ·next x vs h1 h2 =>
   cases e
   obtain ⟨ds,h3,h4⟩:=Option.bind_eq_some_iff.mp h2
   exact ⟨x,ds,vs,h1,h3,h4,q⟩
  ·cases e
 ·rintro ⟨x,ds,vs,h1,h2,h3,q⟩
  refine ⟨_,_,?_,q⟩
  simp only [gIn,h1,h2,Option.bind_some,h3]
theorem zbo (ns:List Int):mapO sV (ns.map D.int)=some (ns.map V.int):=yaV (f:=sV) (g:=D.int) (k:=V.int) (fun _=>rfl) ns
theorem YbC {neg:Bool} {a b:D}:Wp (gEqD neg a b st) Q↔∃ p q,toP st 20 a=some p∧toP st 20 b=some q∧(PyData.canLay0 p=true∧PyData.canLay0 q=true∧min p.depth q.depth≤60)∧Q (.bl (if neg then !PyData.eqv p q else PyData.eqv p q)) st:=by
 constructor
 ·rintro ⟨c,s,e,q⟩
  simp only [gEqD] at e
  split at e
  ·next x y h1 h2 =>
   split at e
   ·next hs =>
    cases e
    rw [Bool.and_eq_true,Bool.and_eq_true,decide_eq_true_eq] at hs
    exact ⟨x,y,h1,h2,⟨hs.1.1,hs.1.2,hs.2⟩,q⟩
   ·cases e
  ·cases e
 ·rintro ⟨x,y,h1,h2,⟨h3,h4,h5⟩,q⟩
  refine ⟨_,_,?_,q⟩
  simp only [gEqD,h1,h2,h3,h4,decide_eq_true h5]
  rfl
theorem wp_ixS {z:Str}:Wp (gIxS (.str z) (.int i) st) Q↔∃ c,lim z.length=true∧atI z.cps.toList i=some c∧Q (.str ⟨#[c]⟩) st:=by
 constructor
 ·rintro ⟨c,s,e,q⟩
  simp only [gIxS] at e
  split at e
  ·next h1 =>
   split at e
   ·next c hc=>cases e;exact ⟨c,h1,hc,q⟩
   ·cases e
  ·cases e
 ·rintro ⟨c,h1,h2,q⟩
  refine ⟨_,_,?_,q⟩
  simp only [gIxS,h1,h2]
  rfl
theorem ybK {δ:DSt} {fa:DSt→Dm (List D)} {R:Src→Store→Prop}:Wp (iRng1F fa δ st) R↔Wp (fa δ st) fun as st1=>∃ j,as=[.int j]∧(-4611686018427387904≤j∧j < 4611686018427387904)∧R (.fix (rangeD 0 j.toNat)) st1:=by
 unfold iRng1F;rw [yae]
 constructor <;> refine fun h=>xab h fun as s h=>?_
 ·split at h
  ·next j =>
   rw [Zaq,Xaa,zae] at h
   split at h
   ·next hk=>exact ⟨j,rfl,of_decide_eq_true hk,h⟩
   ·exact h.elim
  ·exact (zae.mp h).elim
 ·obtain ⟨j,rfl,h1,h⟩:=h
  simp only [decide_eq_true h1,if_true]
  exact Xaa.mpr h
theorem ZbK {δ:DSt} {fa:DSt→Dm (List D)} {R:Src→Store→Prop}:Wp (iRng2F fa δ st) R↔Wp (fa δ st) fun as st1=>∃ i j,as=[.int i,.int j]∧((-4611686018427387904≤i∧i < 4611686018427387904)∧-4611686018427387904≤j∧j < 4611686018427387904)∧R (.fix (rangeD i (j - i).toNat)) st1:=by
 unfold iRng2F;rw [yae]
 constructor <;> refine fun h=>xab h fun as s h=>?_
 ·split at h
  ·next i j =>
   rw [Zaq,Xaa,zae] at h
   split at h
   ·next hk=>exact ⟨i,j,rfl,of_decide_eq_true hk,h⟩
   ·exact h.elim
  ·exact (zae.mp h).elim
 ·obtain ⟨i,j,rfl,h1,h⟩:=h
  simp only [decide_eq_true h1,if_true]
  exact Xaa.mpr h
theorem YbK {δ:DSt} {fa:DSt→Dm D} {R:Src→Store→Prop}:Wp (iTupF fa δ st) R↔Wp (fa δ st) fun a st1=>∃ ds,a=.tup ds∧R (.fix ds) st1:=by
 unfold iTupF;rw [yae]
 constructor <;> refine fun h=>xab h fun a s h=>?_
 ·cases a <;> simp only [Xaa,zae] at h
  exact ⟨_,rfl,h⟩
 ·obtain ⟨j,rfl,h⟩:=h
  exact Xaa.mpr h
theorem ybx {δ:DSt} {fa:DSt→Dm D} {R:Src→Store→Prop}:Wp (iListF fa δ st) R↔Wp (fa δ st) fun a st1=>∃ i ds,a=.ref i∧items st1 i=some ds∧R (.live i) st1:=by
 unfold iListF;rw [yae]
 constructor <;> refine fun h=>xab h fun a s h=>?_
 ·split at h
  ·split at h
   ·next i ds hd=>exact ⟨_,ds,rfl,hd,Xaa.mp h⟩
   ·exact (zae.mp h).elim
  ·exact (zae.mp h).elim
 ·obtain ⟨i,ds,rfl,hd,h⟩:=h
  simp only [hd]
  exact Xaa.mpr h
theorem Zbx {δ:DSt} {fa:DSt→Dm (List D)} {R:Src→Store→Prop}:Wp (iEnumF fa δ st) R↔Wp (fa δ st) fun as st1=>∃ ds,as=[.tup ds]∧R (.fix (enumD ds)) st1:=by
 unfold iEnumF;rw [yae]
 constructor <;> refine fun h=>xab h fun as s h=>?_
 ·split at h
  ·exact ⟨_,rfl,Xaa.mp h⟩
  ·exact (zae.mp h).elim
 ·obtain ⟨ds,rfl,h⟩:=h
  exact Xaa.mpr h
theorem XaV {i:Nat} {d:D} {δ:DSt} {R:DSt→Store→Prop}:Wp (hName i d δ st) R↔R (δ.set i (some d)) st:=Xaa
theorem xbK {δ:DSt} {R:DSt→Store→Prop}:Wp (hNil [] δ st) R↔R δ st:=Xaa
theorem Ybx {f:D→DSt→Dm DSt} {g:List D→DSt→Dm DSt} {d:D} {ds:List D} {δ:DSt} {R:DSt→Store→Prop}:Wp (hCons f g (d :: ds) δ st) R↔Wp (f d δ st) fun δ1 st1=>Wp (g ds δ1 st1) R:=yae
theorem XbK {n:Nat} {f:List D→DSt→Dm DSt} {ds:List D} {δ:DSt} {R:DSt→Store→Prop}:Wp (hTup n f (.tup ds) δ st) R↔ds.length=n∧Wp (f ds δ st) R:=by
 show Wp (if ds.length=n then f ds δ st else none) R↔_
 rw [Zaq,zae]
 split
 ·next h=>exact ⟨fun q=>⟨h,q⟩,fun q=>q.2⟩
 ·next h=>exact ⟨False.elim,fun q=>h q.1⟩
theorem zbL {fo fi:DSt→Dm D} {d:D} {δ:DSt} {R:DSt→Store→Prop}:Wp (hSub fo fi d δ st) R↔Wp (fo δ st) fun o st1=>Wp (fi δ st1) fun i st2=>∃ r k xs j,o=.ref r∧i=.int k∧own st2 r=some xs∧ixN xs.length k=some j∧R δ (st2.set r (.lst (xs.set j d))):=by
 unfold hSub;rw [yae];simp only [yae]
 constructor <;> refine fun h=>xab h fun o s h=>xab h fun i s2 h=>?_
 ·split at h
  ·split at h
   ·next xs hx =>
    split at h
    ·next j hj=>exact ⟨_,_,xs,j,rfl,rfl,hx,hj,Xaa.mp h⟩
    ·exact (zae.mp h).elim
   ·exact (zae.mp h).elim
  ·exact (zae.mp h).elim
 ·obtain ⟨r,k,xs,j,rfl,rfl,hx,hj,h⟩:=h
  simp only [hx,hj]
  exact Xaa.mpr h
theorem ybo {a:D} {c:String}:Wp (gIsinst [a,.ty c] st) Q↔tyNm st a=some c∧Q (.bl true) st:=by
 constructor
 ·rintro ⟨b,s,e,q⟩
  simp only [gIsinst] at e
  split at e
  ·next T hT =>
   split at e
   ·next h=>cases e;subst h;exact ⟨hT,q⟩
   ·cases e
  ·cases e
 ·rintro ⟨h,q⟩
  refine ⟨_,_,?_,q⟩
  simp only [gIsinst,h,if_true]
theorem Zbo {δ:DSt} {R:Bool→Store→Prop}:Wp (fTrue δ st) R↔R true st:=Xaa
end
theorem at0 {α:Type} (x:α) (xs:List α):atI (x :: xs) 0=some x:=by
 unfold atI ixN
 rw [if_pos (by decide),if_pos (by simp only [List.length_cons];omega)]
 rfl
theorem at1 {α:Type} (x y:α) (xs:List α):atI (x :: y :: xs) 1=some y:=by
 unfold atI ixN
 rw [if_pos (by decide),if_pos (by simp only [List.length_cons];omega)]
 rfl
theorem s_get0 {α:Type} {a:α} {l:List α}:(a :: l)[0]?=some a:=List.getElem?_cons_zero
theorem s_getS {α:Type} {a:α} {l:List α} {i:Nat}:(a :: l)[i + 1]?=l[i]?:=List.getElem?_cons_succ
theorem s_set0 {α:Type} {a b:α} {l:List α}:(a :: l).set 0 b=b :: l:=List.set_cons_zero
theorem s_setS {α:Type} {a b:α} {l:List α} {i:Nat}:(a :: l).set (i + 1) b=a :: l.set i b:=List.set_cons_succ
theorem s_some {α:Type} (a b:α):(some a=some b)=(a=b):=Option.some.injEq a b
theorem s_ex' {α:Type} {p:α→Prop} {a':α}:(∃ a,a'=a∧p a)↔p a':=exists_eq_left'
theorem s_ex {α:Type} {p:α→Prop} {a':α}:(∃ a,a=a'∧p a)↔p a':=exists_eq_left
theorem s_exa {α:Type} {p:α→Prop} {b:Prop}:(∃ x,b∧p x)↔b∧∃ x,p x:=exists_and_left
theorem s_int (a b:Int):(D.int a=D.int b)=(a=b):=D.int.injEq a b
theorem s_bl (a b:Bool):(D.bl a=D.bl b)=(a=b):=D.bl.injEq a b
theorem s_str (a b:Str):(D.str a=D.str b)=(a=b):=D.str.injEq a b
theorem s_tup (a b:List D):(D.tup a=D.tup b)=(a=b):=D.tup.injEq a b
theorem s_ref (a b:Nat):(D.ref a=D.ref b)=(a=b):=D.ref.injEq a b
theorem s_cons {α:Type} (a:α) (l:List α) (b:α) (m:List α):(a :: l=b :: m)=(a=b∧l=m):=List.cons.injEq a l b m
theorem s_pair {α β:Type} (a:α) (b:β) (c:α) (d:β):((a,b)=(c,d))=(a=c∧b=d):=Prod.mk.injEq a b c d
theorem s_andT (p:Prop):(p∧True)=p:=and_true p
theorem s_Tand (p:Prop):(True∧p)=p:=true_and p
theorem s_notT:(!true)=false:=rfl
theorem s_notF:(!false)=true:=rfl
theorem s_FT:(false=true)=False:=by simp
theorem s_ifF {α:Type} {h:Decidable False} (t e:α):@ite α False h t e=e:=if_false t e
theorem s_ifT {α:Type} {h:Decidable True} (t e:α):@ite α True h t e=t:=if_true t e
noncomputable def wpB:=And.intro @wp_var (And.intro @wp_c (And.intro @wp_op (And.intro @wp_un (And.intro @wp_cb (And.intro @wp_nil (And.intro @ybH (And.intro @wp_tup (And.intro @wp_lst (And.intro @ZbH (And.intro @wp_not (And.intro @wp_and (And.intro @wp_or (And.intro @wp_if (And.intro @YbH (And.intro @wp_orV (And.intro @xbH (And.intro @Ybm (And.intro @XbH (And.intro @wp_sl (And.intro @wp_bm (And.intro @wp_add (And.intro @wp_sub (And.intro @wp_lt (And.intro @wp_le (And.intro @wp_gt (And.intro @wp_ge (And.intro @wp_neg (And.intro @wp_mul (And.intro @zbI (And.intro @wp_mod (And.intro @wp_pow (And.intro @wp_eqI (And.intro @wp_eqS (And.intro @wp_ixT (And.intro @wp_ixL (And.intro @wp_slT (And.intro @wp_slL (And.intro @ybI (And.intro @wp_cat (And.intro @wp_len (And.intro @ZbI (And.intro @Xbv (And.intro @YbI (And.intro @xbI (And.intro @XbI (And.intro @zbw (And.intro @xbm (And.intro @Xbm (And.intro @zbn (And.intro @ybJ (And.intro @ZbJ (And.intro @wp_din (And.intro @YbJ (And.intro @ybw (And.intro @xbJ (And.intro @Zal (And.intro @Zbn (And.intro @zbd (And.intro @Zbw (And.intro @ybd (And.intro @Ybw (And.intro @Ybn (And.intro @XbJ (And.intro @zbK (And.intro @xbw (And.intro @xbn (And.intro @wp_rep (And.intro @Xbw (And.intro @Xbn (And.intro @zbx (And.intro @wp_all (And.intro @wp_ixS (And.intro @ybK (And.intro @ZbK (And.intro @YbK (And.intro @ybx (And.intro @Zbx (And.intro @XaV (And.intro @xbK (And.intro @Ybx (And.intro @XbK (And.intro @zbL (And.intro @ybo (And.intro @Zbo (And.intro @at0 (And.intro @at1 (And.intro @s_get0 (And.intro @s_getS (And.intro @s_set0 (And.intro @s_setS (And.intro @s_some (And.intro @s_ex' (And.intro @s_ex (And.intro @s_exa (And.intro @s_int (And.intro @s_bl (And.intro @s_str (And.intro @s_tup (And.intro @s_ref (And.intro @s_cons (And.intro @s_pair (And.intro @s_andT (And.intro @s_Tand (And.intro @s_notT (And.intro @s_notF (And.intro @s_FT (And.intro @s_ifF (@s_ifT))))))))))))))))))))))))))))))))))))))))))))))))))))))))))))))))))))))))))))))))))))))))))))))))))))))))))))
theorem zab {α:Type} {m:Option (α×Store)} {Q:α→Store→Prop} (h:∀ Q':α→Store→Prop,(∀ a st,Q a st→Q' a st)→Wp m Q'):Wp m Q:=h Q fun _ _ h=>h
end L4
namespace L4
open PySem PySem.Spec L2
section
variable {X:Cx} {K:PySem.W.Frag}
end
section
variable {st:Store} {Q:D→Store→Prop}
theorem xbx (n:Nat) (L:List Int):mapO (toP st (n + 1)) (L.map D.int)=some (intsD L):=yaV (f:=toP st (n + 1)) (g:=D.int) (k:=PyData.int) (fun _=>by simp only [toP]) L
theorem ya0 (a b:List PyData):PyData.eqv (.list a) (.list b)=PyData.eqvAll a b:=by simp only [PyData.eqv]
theorem Xbx (a b:List PyData):PyData.eqv (.tuple a) (.tuple b)=PyData.eqvAll a b:=by simp only [PyData.eqv]
theorem Ybo {neg:Bool} {a b:Nat} {L M:List Int} (ha:items st a=some (L.map D.int)) (hb:items st b=some (M.map D.int)):Wp (gEqD neg (.ref a) (.ref b) st) Q↔Q (.bl (if neg then !decide (L=M) else decide (L=M))) st:=by
 have p1:∀ (i:Nat) (N:List Int),items st i=some (N.map D.int)→toP st 20 (.ref i)=some (.list (intsD N)):=fun i N h=>by
  simp only [toP,h]
  rw [xbx];rfl
 have dp:∀ N:List Int,PyData.depth (.list (intsD N))≤1:=fun N=>by show PyData.depthAll (intsD N) + 1≤1;rw [zaS];omega
 rw [YbC]
 constructor
 ·rintro ⟨p,q,h1,h2,_,h⟩
  rw [p1 a L ha] at h1
  rw [p1 b M hb] at h2
  cases h1
  cases h2
  rw [ya0,zaU] at h
  exact h
 ·intro h
  refine ⟨_,_,p1 a L ha,p1 b M hb,⟨XaE L,XaE M,by have:=dp L;omega⟩,?_⟩
  rw [ya0,zaU]
  exact h
end
end L4
namespace L4
open PySem PySem.Spec L2
noncomputable def FeedIs (st:Store) (f:Nat):Prop:=∃ o m:Int,st[f]?=some (.lst [.int o,.int m])∧0≤o∧0≤m∧m < 4294967296
theorem ix2_0:ixN 2 0=some 0:=by decide
theorem ix2_1:ixN 2 1=some 1:=by decide
theorem zaF (n:Nat):rangeD 0 n=(Mth.upto n).map D.int:=by
 unfold rangeD Mth.upto
 rw [List.map_map]
 apply List.map_congr_left
 intro i _
 simp
theorem Zbd (L:List Int) (j:Nat):(L.map D.int).eraseIdx j=(L.eraseIdx j).map D.int:=by
 induction L generalizing j with
 | nil=>rfl
 | cons a r ih =>
  cases j with
  | zero=>rfl
  | succ j=>show D.int a :: (r.map D.int).eraseIdx j=_;rw [ih];rfl
theorem Ya4 {L:List Int} {j:Nat} (h:j < L.length):(L[j] :: L.eraseIdx j).Perm L:=by
 induction L generalizing j with
 | nil=>exact absurd h (Nat.not_lt_zero _)
 | cons a r ih =>
  cases j with
  | zero=>exact List.Perm.refl _
  | succ j =>
   have:=ih (j:=j) (by simpa using h)
   exact (List.Perm.swap _ _ _).trans (this.cons a)
theorem FeedIs.keep {st st':Store} {f:Nat} (h:FeedIs st f) (e:Ex [] st st'):FeedIs st' f:=by
 obtain ⟨o,m,e1,r⟩:=h
 exact ⟨o,m,e.keep _ _ e1 (by simp),r⟩
theorem FeedIs.ne {st:Store} {f i:Nat} {o:O} (h:FeedIs st f) (hi:i≠f):FeedIs (st.set i o) f:=by
 obtain ⟨x,m,e1,r⟩:=h
 exact ⟨x,m,by rw [List.getElem?_set_ne hi];exact e1,r⟩
theorem FeedIs.lt {st:Store} {f:Nat} (h:FeedIs st f):f < st.length:=let ⟨_,_,e,_⟩:=h;xad e
theorem ya8 {xs:List Int} {i:Int} (h0:0≤i) (h1:i < (xs.length:Int)):atI (xs.map D.int) i=some (.int (Mth.app xs i)):=by
 have e:(xs.map D.int)[i.toNat]?=some (.int (Mth.app xs i)):=by rw [List.getElem?_map,Mth.ZaA h0 h1];rfl
 have:=YaL e
 rwa [Int.toNat_of_nonneg h0] at this
theorem zby {xs:List Int} {i:Nat} {d:D} (h:(xs.map D.int)[i]?=some d):∃ x,xs[i]?=some x∧d=.int x:=by
 rw [List.getElem?_map] at h
 obtain ⟨x,h1,h2⟩:=Option.map_eq_some_iff.mp h
 exact ⟨x,h1,h2.symm⟩
theorem xaO (x:Int):∀ (ns:List Int),inV (.int x) (ns.map V.int)=ns.contains x
 | []=>rfl
 | n :: r=>by
  have e:=xaO x r
  unfold inV at e ⊢
  rw [List.map_cons,List.any_cons,e,List.contains_cons]
  congr 1
  show (n == x)=(x == n)
  exact Bool.beq_comm
theorem XaO {st:Store} {Q:D→Store→Prop} {neg:Bool} {x:Int} {c:D} {ns:List Int} (hc:seqOf st c=some (ns.map D.int)):Wp (gIn neg (.int x) c st) Q↔Q (.bl (if neg then !ns.contains x else ns.contains x)) st:=by
 rw [wp_in]
 constructor
 ·rintro ⟨v,ds,vs,h1,h2,h3,h⟩
  cases h1
  rw [hc] at h2
  cases h2
  rw [zbo] at h3
  cases h3
  rw [xaO] at h
  exact h
 ·intro h
  refine ⟨_,_,_,rfl,hc,zbo ns,?_⟩
  rw [xaO]
  exact h
noncomputable def flD (xs ys:List Int):D:=.tup [.tup (xs.map D.int),.tup (ys.map D.int)]
structure Two (st0 st:Store) (f r u:Nat) (n:Nat) (X Y:List Int):Prop where
 hr:st[r]?=some (.lst (X.map D.int))
 hu:st[u]?=some (.lst (Y.map D.int))
 ne:r≠u
 r0:st0.length≤r
 u0:st0.length≤u
 tX:Mth.Tn n X
 tY:Mth.Tn n Y
 fd:FeedIs st f
 ex:Ex [f] st0 st
section
variable {st0 st st':Store} {f r u n:Nat} {X Y Z:List Int} {o:O}
theorem Two.keep (h:Two st0 st f r u n X Y) (e:Ex [] st st'):Two st0 st' f r u n X Y:=⟨e.keep _ _ h.hr (by simp),e.keep _ _ h.hu (by simp),h.ne,h.r0,h.u0,h.tX,h.tY,h.fd.keep e,h.ex.trans e.any⟩
theorem Two.setR (h:Two st0 st f r u n X Y) (t:Mth.Tn n Z):Two st0 (st ++ [.lst (Z.map D.int)]) f st.length u n Z Y:=⟨yah,yaj h.hu,by have:=xad h.hu;omega,h.ex.len,h.u0,t,h.tY,h.fd.keep (Ex.app0 _),h.ex.app _⟩
theorem Two.setU (h:Two st0 st f r u n X Y) (t:Mth.Tn n Z):Two st0 (st ++ [.lst (Z.map D.int)]) f r st.length n X Z:=⟨yaj h.hr,yah,by have:=xad h.hr;omega,h.r0,h.ex.len,h.tX,t,h.fd.keep (Ex.app0 _),h.ex.app _⟩
theorem Two.put (h:Two st0 st f r u n X Y) (t:Mth.Tn n Z) (hf:f < st0.length):Two st0 (st.set r (.lst (Z.map D.int))) f r u n Z Y:=⟨List.getElem?_set_self (xad h.hr),by rw [List.getElem?_set_ne h.ne];exact h.hu,h.ne,h.r0,h.u0,t,h.tY,h.fd.ne (by have:=h.r0;omega),h.ex.loc h.r0⟩
end
theorem xbo (n:Nat):(Mth.form1 n).map D.int=rangeD 1 ((n:Int) - 1).toNat ++ [.int 0]:=by
 unfold Mth.form1 rangeD
 rw [List.map_append,List.map_map,show ((n:Int) - 1).toNat=n - 1 by omega]
 rfl
theorem ZaC {lo hi:Int} (h:0≤lo∧lo≤10000∧0≤hi∧hi≤10000):okR lo hi=true:=by
 unfold okR;rw [Bool.and_eq_true,decide_eq_true_eq];exact ⟨by omega,yam (by omega)⟩
theorem rowR_D (w n:Nat):(Mth.rowR w n).map D.int=rangeD 1 ((w:Int) - 1).toNat ++ [.int 0] ++ rangeD (w:Int) ((n:Int) - (w:Int)).toNat:=by
 unfold Mth.rowR rangeD
 rw [List.map_append,List.map_append,List.map_map,List.map_map,show ((w:Int) - 1).toNat=w - 1 by omega,show ((n:Int) - (w:Int)).toNat=n - w by omega]
 rfl
theorem XaH (xs:List D) (j:Nat):cutD xs none (some (j:Int))=xs.take j:=by
 unfold cutD
 rw [HT.za6,HT.zbh,List.drop_zero,Nat.sub_zero,List.take_eq_take_iff];omega
theorem Xbo (xs:List D) (i:Nat):cutD xs (some (i:Int)) none=xs.drop i:=by
 unfold cutD
 rw [HT.zbh,HT.za6]
 by_cases h:i≤xs.length
 ·rw [Nat.min_eq_left h,List.take_of_length_le (by rw [List.length_drop];exact Nat.le_refl _)]
 ·rw [Nat.min_eq_right (by omega),List.drop_eq_nil_of_le (Nat.le_refl _),List.drop_eq_nil_of_le (by omega)];simp
theorem colU_D {w n:Nat} (h0:0 < w) (h:w < n):(Mth.colU w n).map D.int=cutD ([D.int (w:Int)] ++ rangeD 1 ((w:Int) - 1).toNat ++ rangeD ((w:Int) + 1) ((n:Int) - ((w:Int) + 1)).toNat ++ [.int 0]) none (some (n:Int)):=by
 rw [XaH,List.take_of_length_le (by simp [Zac];omega)]
 unfold Mth.colU rangeD
 rw [List.map_append,List.map_append,List.map_append,List.map_map,List.map_map,show ((w:Int) - 1).toNat=w - 1 by omega,show ((n:Int) - ((w:Int) + 1)).toNat=n - (w + 1) by omega]
 rfl
noncomputable def IsFl (n:Nat) (xs ys:List Int):Prop:=Mth.Tn n xs∧Mth.Tn n ys∧∀ x:Int,0≤x→x < (n:Int)→Mth.Rch xs ys x
noncomputable def SrcOk (S:Src) (ds:List D) (st:Store):Prop:=∀ (i:Nat) (st2:Store),i≤ds.length→Ex [] st st2→S.at i st2=some ds[i]?
theorem zaI {st st':Store} {r:Nat} {ds:List D} (h:items st r=some ds) (e:Ex [] st st'):items st' r=some ds:=by
 unfold items at h ⊢
 cases hx:st[r]? with
 | none=>rw [hx] at h;cases h
 | some o=>rw [e.keep _ _ hx (by simp)];rw [hx] at h;exact h
theorem xa4 (ds:List D) (st:Store):SrcOk (.fix ds) ds st:=fun i st2 hi _=>by
 show (if i≤ds.length then some ds[i]? else none)=_
 rw [if_pos hi]
theorem yby {ds:List D} {st:Store} {r:Nat} (h:items st r=some ds):SrcOk (.live r) ds st:=fun i st2 hi e=>by
 show (items st2 r).map _=_
 rw [zaI h e];rfl
theorem xaS {δ:DSt} {st:Store} {fi:DSt→Dm Src} {js:List Nat} {f:DSt→Dm D} {Q:D→Store→Prop} (ds:List D) (h:D→D) (hi:Wp (fi δ st) fun S st1=>SrcOk S ds st1∧Ex [] st st1) (hl:ds.length < 100000)
  (step:∀ d∈ds,∀ st1,Ex [] st st1→Wp (f (some d :: js.map fun j=>δ.getD j none) st1) fun y st2=>y=h d∧Ex [] st1 st2) (fin:∀ st',Ex [] st st'→Q (.ref st'.length) (st' ++ [.lst (ds.map h)])):Wp (fComp fi 1 js (hName 0) fTrue f δ st) Q:=by
 obtain ⟨S,st1,e1,hS,k1⟩:=hi
 refine Za4 ds (fun i ys δ' st8=>(∃ v,δ'=v :: js.map fun j=>δ.getD j none)∧ys=(ds.take i).map h∧Ex [] st1 st8) ⟨S,st1,e1,fun i ys δ' st8 hi' hp=>hS i st8 hi' hp.2.2,⟨none,rfl⟩,rfl,Ex.refl⟩ hl ?_ ?_ ?_
 ·rintro i ys δ' st8 ⟨_,rfl,_⟩
  rw [List.length_map,List.length_take];omega
 ·rintro i d ys δ' st8 hd ⟨⟨v,rfl⟩,rfl,k8⟩
  rw [XaV]
  show Wp (fTrue _ _) _
  rw [Zbo]
  refine ⟨fun _=>?_,fun h=>absurd h (by decide)⟩
  refine xab (step d (List.mem_of_getElem? hd) st8 (k1.trans k8)) ?_
  rintro y st9 ⟨rfl,k9⟩
  refine ⟨⟨some d,rfl⟩,?_,k8.trans k9⟩
  obtain ⟨hlt,e⟩:=List.getElem?_eq_some_iff.mp hd
  rw [List.take_succ_eq_append_getElem hlt,List.map_append,e];rfl
 ·rintro ys δ' st8 ⟨_,rfl,k8⟩
  rw [List.take_length]
  exact fin st8 (k1.trans k8)
theorem Zby {xs:List Int} {d:D} (h:d∈xs.map D.int):∃ x∈xs,d=.int x:=by
 obtain ⟨x,hx,rfl⟩:=List.mem_map.mp h
 exact ⟨x,hx,rfl⟩
noncomputable def inD:D→Int
 | .int i=>i
 | _=>0
section
variable {st:Store} {Q:D→Store→Prop}
end
end L4
namespace L4
open PySem PySem.Spec L2
end L4
namespace L4
open PySem PySem.Spec L2
end L4
namespace L4
open PySem PySem.Spec L2
section
variable {X:Cx} {K:PySem.W.Frag}
end
end L4
namespace L4
open PySem PySem.Spec L2
section
variable {K:PySem.W.Frag}
noncomputable def gIsB (neg:Bool):D→D→Dm D
 | .bl a,.bl b,st=>some (.bl (if neg then !decide (a=b) else decide (a=b)),st)
 | _,_,_=>none
noncomputable def rIsB (neg:Bool):R2:=fun x y H Q=>∃ a b,x=.bl a∧y=.bl b∧Q (.bl (if neg then !decide (a=b) else decide (a=b))) H
theorem so_isB (neg:Bool):So2 K (rIsB neg) (gIsB neg):=by
 intro ρ H st x y a c b st' Q l rx ry e q
 unfold gIsB at e
 split at e
 ·cases e
  cases rx
  cases ry
  exact ⟨_,_,rfl,rfl,q _ H ρ .refl l (.bl _)⟩
 ·cases e
noncomputable def gIsN (neg:Bool):D→D→Dm D
 | a,.non,st=>some (.bl (match a with | .non=>!neg | _=>neg),st)
 | _,_,_=>none
noncomputable def rIsN' (neg:Bool):R2:=fun x y H Q=>y=.non∧Q (.bl (if neg then !decide (x=.non) else decide (x=.non))) H
theorem zbp (neg:Bool):So2 K (rIsN' neg) (gIsN neg):=by
 intro ρ H st x y a c b st' Q l rx ry e q
 unfold gIsN at e
 split at e
 ·cases e
  cases ry
  refine ⟨rfl,?_⟩
  have k:=q _ H ρ .refl l (.bl _)
  cases rx <;> cases neg <;> exact k
 ·cases e
end
section
variable {X:Cx}
theorem op_isB:OpR X (compareOp .Is) (rIsB false):=by
 intro pins s σ H x y v u Q I rx ry h
 obtain ⟨a,b,rfl,rfl,q⟩:=h
 cases rx
 cases ry
 exact PyProof.Rows.is_bool (Zah I q (by cases a <;> cases b <;> rfl))
theorem ybL:OpR X (compareOp .Is) (rIsN' false):=op_isN
theorem Za0:OpR X (compareOp .IsNot) (rIsN' true):=xbD
end
theorem at2 {α:Type} (x y z:α) (xs:List α):atI (x :: y :: z :: xs) 2=some z:=by
 unfold atI ixN
 rw [if_pos (by decide),if_pos (by simp only [List.length_cons];omega)]
 rfl
theorem at3 {α:Type} (x y z u:α) (xs:List α):atI (x :: y :: z :: u :: xs) 3=some u:=by
 unfold atI ixN
 rw [if_pos (by decide),if_pos (by simp only [List.length_cons];omega)]
 rfl
section
variable {st:Store} {Q:D→Store→Prop}
end
end L4
namespace L4
open PySem PySem.Spec L2
noncomputable def chD (x:Str):List D:=x.cps.toList.map fun c=>.str ⟨#[c]⟩
section
variable {K:PySem.W.Frag}
end
section
variable {st:Store} {Q:D→Store→Prop}
end
end L4
namespace L4
open PySem PySem.Spec L2
noncomputable def zsD:D→Option (List D)
 | .tup ds=>some ds
 | .str x=>some (chD x)
 | _=>none
noncomputable def zipD:List D→List D→List D
 | a :: r,b :: t=>.tup [a,b] :: zipD r t
 | _,_=>[]
theorem Za8:∀ {ds es:List D} {i:Nat} {d:D},(zipD ds es)[i]?=some d→∃ a b,ds[i]?=some a∧es[i]?=some b∧d=.tup [a,b]
 | a :: r,b :: t,0,d,h=>⟨a,b,rfl,rfl,(Option.some.inj h).symm⟩
 | a :: r,b :: t,i + 1,d,h=>Za8 (ds:=r) (es:=t) (i:=i) h
 | [],_,_,_,h=>by simp [zipD] at h
 | _ :: _,[],_,_,h=>by simp [zipD] at h
theorem Ya8:∀ {ds es:List D} {i:Nat},i≤(zipD ds es).length→(zipD ds es)[i]?=none→(i=ds.length∧i≤es.length)∨(i < ds.length∧i=es.length)
 | [],es,i,h,_=>by
  have:i=0:=by simpa [zipD] using h
  subst this
  exact .inl ⟨rfl,Nat.zero_le _⟩
 | a :: r,[],i,h,_=>by
  have:i=0:=by simpa [zipD] using h
  subst this
  exact .inr ⟨Nat.succ_pos _,rfl⟩
 | a :: r,b :: t,0,_,h=>by simp [zipD] at h
 | a :: r,b :: t,i + 1,h,hn=>by
  have h1:i≤(zipD r t).length:=by simp only [zipD,List.length_cons] at h;omega
  have h2:(zipD r t)[i]?=none:=by simpa [zipD] using hn
  have:=Ya8 (ds:=r) (es:=t) h1 h2
  simp only [List.length_cons]
  omega
section
variable {K:PySem.W.Frag}
theorem zs_of {ρ:List Addr} {H:Hp} {x:V} {a:D} {ds:List D} (r:Rp K ρ H x a) (h:zsD a=some ds):∃ src:ZS,src.val K H x∧∀ (ρ2:List Addr) (H2:Hp),Mn K ρ H ρ2 H2→∀ i,(∀ d,ds[i]?=some d→∃ v,src.has K H2 i v∧Rp K ρ2 H2 v d)∧(i=ds.length→src.fin K H2 i):=by
 cases r with
 | non=>cases h
 | bl b=>cases h
 | int i=>cases h
 | ty n=>cases h
 | ref e=>cases h
 | str x =>
  cases h
  refine ⟨.str x,rfl,fun ρ2 H2 m i=>⟨fun d hd=>?_,fun e=>?_⟩⟩
  ·unfold chD at hd
   rw [List.getElem?_map] at hd
   obtain ⟨c,hc,rfl⟩:=Option.map_eq_some_iff.mp hd
   exact ⟨_,⟨c,by simpa using hc,rfl⟩,.str _⟩
  ·show x.cps.size=i
   rw [e];simp [chD]
 | tup s r =>
  cases h
  refine ⟨.tup _,⟨rfl,_,s⟩,fun ρ2 H2 m i=>⟨fun d hd=>?_,fun e=>?_⟩⟩
  ·obtain ⟨v,hv,rv⟩:=r.got hd
   exact ⟨v,⟨_,m.t _ _ s,hv⟩,rv.mn m⟩
  ·exact ⟨_,m.t _ _ s,by rw [r.length];exact e.symm⟩
end
section
variable {st:Store}
end
section
variable {X:Cx} {K:PySem.W.Frag}
end
structure Con (K:PySem.W.Frag) (mg:Str→Option Value) (x:Str) (v:V) (d:D):Prop where
 ex:∃ u,mg x=some u∧RelV v u
 rp:∀ (ρ:List Addr) (H:Hp),Rp K ρ H v d
theorem pe_con {X:Cx} {K:PySem.W.Frag} {mg:Str→Option Value} {x:Str} {v:V} {d:D} {pos:Pos} (C:Con K mg x v d) (hg:Gl X x) (hX:X.mg=mg) (hd:(x == ("__debug__" : Str))=false):PE X (.Name x pos) (tC v):=by
 obtain ⟨u,h,r⟩:=C.ex
 subst hX
 exact ybe hg h r hd
theorem so_con {K:PySem.W.Frag} {mg:Str→Option Value} {x:Str} {v:V} {d:D} (C:Con K mg x v d):SoE K (tC v) (fC d):=so_c C.rp
theorem ZbL {K:PySem.W.Frag} {h:Heap} {mg:Str→Option Value} (X:K.In h) (G:h.Ns mainGlobals mg) {x:Str} {u:Value} {v:V} {d:D} (e:PySem.W.nsIn K mainGlobals x=some (some u)) (r:RelV v u) (rp:∀ (ρ:List Addr) (H:Hp),Rp K ρ H v d):∃ v,Con K mg x v d :=
 ⟨v,⟨u,PySem.W.mg_of X G e,r⟩,rp⟩
end L4
namespace L4
open PySem PySem.Spec L2
noncomputable def pU:Nat→D→Prop
 | _,.int _=>True
 | _,.str x=>PyData.canLay0 (.str x)=true
 | _,.non=>True
 | n + 1,.tup ds=>∀ d∈ds,pU n d
 | _,_=>False
noncomputable def tPn:Nat→D→PyData
 | _,.int i=>.int i
 | _,.str x=>.str x
 | n + 1,.tup ds=>.tuple (ds.map (tPn n))
 | _,_=>.none
theorem xa8 {α β:Type} {f:α→Option β} {g:α→β}:∀ {l:List α},(∀ x∈l,f x=some (g x))→mapO f l=some (l.map g)
 | [],_=>rfl
 | a :: r,h=>by
  have h1:=h a List.mem_cons_self
  have h2:=xa8 (f:=f) (g:=g) (l:=r) fun x hx=>h x (List.mem_cons_of_mem _ hx)
  simp only [mapO,h1,h2,List.map_cons]
theorem ybp:∀ (n:Nat) (d:D),pU n d→∀ (m:Nat),n < m→∀ st,toP st m d=some (tPn n d)
 | n,.int i,_,m + 1,_,st=>by cases n <;> rfl
 | n,.str x,_,m + 1,_,st=>by cases n <;> rfl
 | n,.non,_,m + 1,_,st=>by cases n <;> rfl
 | n,.bl b,h,_,_,_=>by cases n <;> exact h.elim
 | n,.ty b,h,_,_,_=>by cases n <;> exact h.elim
 | n,.ref b,h,_,_,_=>by cases n <;> exact h.elim
 | 0,.tup ds,h,_,_,_=>h.elim
 | n + 1,.tup ds,h,m + 1,hm,st=>by
  simp only [toP]
  rw [xa8 (g:=tPn n) fun x hx=>ybp n x (h x hx) m (by omega) st]
  rfl
theorem XaS:∀ {l:List PyData},(∀ x∈l,x.canLay0=true)→PyData.canLayAll0 l=true
 | [],_=>rfl
 | a :: r,h=>by
  simp only [PyData.canLayAll0,h a List.mem_cons_self,XaS fun x hx=>h x (List.mem_cons_of_mem _ hx),Bool.and_self]
theorem Ya0 {n:Nat}:∀ {l:List PyData},(∀ x∈l,x.depth≤n)→PyData.depthAll l≤n
 | [],_=>Nat.zero_le _
 | a :: r,h=>by
  have h1:=h a List.mem_cons_self
  have h2:=Ya0 fun x hx=>h x (List.mem_cons_of_mem _ hx)
  simp only [PyData.depthAll]
  omega
theorem Zbp:∀ (n:Nat) (d:D),pU n d→(tPn n d).canLay0=true∧(tPn n d).depth≤n
 | n,.int i,_=>by cases n <;> exact ⟨rfl,Nat.zero_le _⟩
 | n,.str x,h=>by cases n <;> exact ⟨h,Nat.zero_le _⟩
 | n,.non,_=>by cases n <;> exact ⟨rfl,Nat.zero_le _⟩
 | n,.bl b,h=>by cases n <;> exact h.elim
 | n,.ty b,h=>by cases n <;> exact h.elim
 | n,.ref b,h=>by cases n <;> exact h.elim
 | 0,.tup ds,h=>h.elim
 | n + 1,.tup ds,h=>by
  refine ⟨?_,?_⟩
  ·show PyData.canLayAll0 (ds.map (tPn n))=true
   exact XaS fun x hx=>by
    obtain ⟨d,hd,rfl⟩:=List.mem_map.mp hx
    exact (Zbp n d (h d hd)).1
  ·show PyData.depthAll (ds.map (tPn n)) + 1≤n + 1
   have:=Ya0 (n:=n) (l:=ds.map (tPn n)) fun x hx=>by
    obtain ⟨d,hd,rfl⟩:=List.mem_map.mp hx
    exact (Zbp n d (h d hd)).2
   omega
theorem Ybp {n:Nat} (ih:∀ a b:D,pU n a→pU n b→(PyData.eqv (tPn n a) (tPn n b)=true↔a=b)):∀ (l m:List D),(∀ x∈l,pU n x)→(∀ x∈m,pU n x)→(PyData.eqvAll (l.map (tPn n)) (m.map (tPn n))=true↔l=m)
 | [],[],_,_=>by simp [PyData.eqvAll]
 | [],_ :: _,_,_=>by simp [PyData.eqvAll]
 | _ :: _,[],_,_=>by simp [PyData.eqvAll]
 | a :: l,b :: m,h1,h2=>by
  have e1:=ih a b (h1 a List.mem_cons_self) (h2 b List.mem_cons_self)
  have e2:=Ybp ih l m (fun x hx=>h1 x (List.mem_cons_of_mem _ hx)) fun x hx=>h2 x (List.mem_cons_of_mem _ hx)
  simp only [List.map_cons,PyData.eqvAll,Bool.and_eq_true,e1,e2,List.cons.injEq]
theorem eqv_U:∀ (n:Nat) (a b:D),pU n a→pU n b→(PyData.eqv (tPn n a) (tPn n b)=true↔a=b):=by
 intro n
 induction n with
 | zero =>
  intro a b ha hb
  cases a <;> first | exact ha.elim | skip
  all_goals (cases b <;> first | exact hb.elim | simp [tPn,PyData.eqv])
 | succ n ih =>
  intro a b ha hb
  cases a <;> first | exact ha.elim | skip
  all_goals (cases b <;> first | exact hb.elim | skip)
  all_goals first
   | (simp [tPn,PyData.eqv];done)
   | skip
  next l m =>
   have:=Ybp ih l m ha hb
   show PyData.eqv (.tuple (l.map (tPn n))) (.tuple (m.map (tPn n)))=true↔_
   rw [Xbx,this]
   constructor
   ·rintro rfl;rfl
   ·intro h;exact D.tup.inj h
open Classical in
theorem wp_eqU {st:Store} {Q:D→Store→Prop} {neg:Bool} {n:Nat} {a b:D} (ha:pU n a) (hb:pU n b) (hn:n≤15):Wp (gEqD neg a b st) Q↔Q (.bl (if neg then !decide (a=b) else decide (a=b))) st:=by
 have e:PyData.eqv (tPn n a) (tPn n b)=decide (a=b):=by
  have:=eqv_U n a b ha hb
  cases h:PyData.eqv (tPn n a) (tPn n b) with
  | true=>exact (decide_eq_true (this.mp h)).symm
  | false=>exact (decide_eq_false fun z=>by rw [this.mpr z] at h;cases h).symm
 rw [YbC]
 constructor
 ·rintro ⟨p,q,h1,h2,_,h⟩
  rw [ybp n a ha 20 (by omega)] at h1
  rw [ybp n b hb 20 (by omega)] at h2
  cases h1
  cases h2
  rw [e] at h
  exact h
 ·intro h
  refine ⟨_,_,ybp n a ha 20 (by omega) st,ybp n b hb 20 (by omega) st,⟨(Zbp n a ha).1,(Zbp n b hb).1,?_⟩,?_⟩
  ·have:=(Zbp n a ha).2
   omega
  ·rw [e];exact h
end L4
namespace L4
open PySem PySem.Spec L2
section
variable {K:PySem.W.Frag}
end
end L4
namespace L4
open PySem PySem.Spec L2
section
variable {K:PySem.W.Frag}
end
section
variable {st:Store}
end
end L4
namespace L4
open PySem PySem.Spec L2
section
variable {K:PySem.W.Frag}
end
section
variable {st:Store} {Q:D→Store→Prop}
end
end L4
namespace L4
open PySem PySem.Spec L2
section
variable {K:PySem.W.Frag}
end
end L4
namespace L4
open PySem PySem.Spec L2
section
variable {K:PySem.W.Frag}
end
end L4
namespace L4
open PySem PySem.Spec L2
section
variable {K:PySem.W.Frag}
end
end L4
namespace L4
open PySem PySem.Spec L2
section
variable {K:PySem.W.Frag}
end
section
variable {δ:DSt} {st:Store} {N B C:DSt→Store→Prop} {R:D→Store→Prop}
theorem xbp {fi:DSt→Dm Src} {t:D→DSt→Dm DSt} {b:DSt→Dm Fl} (ds:List D) (Pv:Nat→DSt→Store→Prop) (hi:Wp (fi δ st) fun S st1=>(∀ i δ st,i≤ds.length→Pv i δ st→S.at i st=some ds[i]?)∧Pv 0 δ st1) (hl:ds.length < 100000)
  (step:∀ i d δ st,ds[i]?=some d→Pv i δ st→Wp (t d δ st) fun δ1 st1=>Ws (b δ1 st1) (Pv (i + 1)) N (Pv (i + 1)) R) (fin:∀ δ st,Pv ds.length δ st→N δ st):Ws (fFor fi t b δ st) N B C R:=by
 unfold Ws fFor
 rw [yae]
 refine xab hi fun S st0 q=>?_
 obtain ⟨hS,h0⟩:=q
 have key:∀ (k i:Nat) (δ:DSt) (st:Store),i≤ds.length→ds.length - i < k→Pv i δ st→Ws (fForGo S t b k i δ st) N B C R:=by
  intro k
  induction k with
  | zero=>intro i δ st _ h;exact absurd h (Nat.not_lt_zero _)
  | succ k ih =>
   intro i δ st hi hk' hw
   unfold Ws fForGo
   rw [hS i δ st hi hw]
   cases hd:ds[i]? with
   | none =>
    have:=List.getElem?_eq_none_iff.mp hd
    have e:i=ds.length:=by omega
    exact Xaa.mpr (fin δ st (e ▸ hw))
   | some d =>
    have hlt:=(List.getElem?_eq_some_iff.mp hd).1
    show Wp (bnd _ _) _
    rw [yae]
    refine xab (step i d δ st hd hw) fun δ1 st1 q=>?_
    rw [yae]
    refine xab q fun fl st2 q=>?_
    cases fl with
    | nx δ2=>exact ih (i + 1) δ2 st2 (by omega) (by omega) q
    | ct δ2=>exact ih (i + 1) δ2 st2 (by omega) (by omega) q
    | bk δ2=>exact Xaa.mpr q
    | rt d=>exact Xaa.mpr q
 exact key fuel 0 δ st0 (Nat.zero_le _) (Nat.lt_trans (by omega) (show 100000 < fuel by decide)) h0
end
end L4
namespace L4
open PySem PySem.Spec L2
section
variable {K:PySem.W.Frag}
end
section
variable {δ:DSt} {st:Store} {N B C:DSt→Store→Prop} {R:D→Store→Prop}
end
end L4
namespace L4
open PySem PySem.Spec L2
section
variable {K:PySem.W.Frag}
end
end L4
namespace L4
open PySem PySem.Spec L2
section
variable {K:PySem.W.Frag}
end
end L4
namespace L4
open PySem PySem.Spec L2
section
variable {K:PySem.W.Frag}
end
section
variable {st:Store} {Q:D→Store→Prop} {i:Nat}
end
end L4
namespace L4
open PySem PySem.Spec L2
section
variable {K:PySem.W.Frag}
end
section
variable {st:Store} {Q:D→Store→Prop} {δ:DSt}
end
end L4
namespace L4
open PySem PySem.Spec L2
section
variable {K:PySem.W.Frag}
end
section
variable {st:Store} {Q:D→Store→Prop}
end
end L4
namespace L4
open PySem PySem.Spec L2
noncomputable def zW (ds es:List D):List D:=List.zipWith (fun a b=>D.tup [a,b]) ds es
theorem Xbp:∀ ds es:List D,zW ds es=zipD ds es
 | [],es=>by simp [zW,zipD]
 | a :: r,[]=>by simp [zW,zipD]
 | a :: r,b :: t=>by
  have:=Xbp r t
  simp only [zW,zipD,List.zipWith_cons_cons] at this ⊢
  rw [this]
theorem at_zl {r i:Nat} {es:List D} {st:Store} {o:Option D} (h:Src.at (.zl r es) i st=some o):∃ ds,items st r=some ds∧i≤(zipD ds es).length∧(zipD ds es)[i]?=o:=by
 simp only [Src.at] at h
 obtain ⟨ds,h1,h2⟩:=Option.bind_eq_some_iff.mp h
 refine ⟨ds,h1,?_⟩
 rw [← Xbp]
 split at h2
 ·next hl=>exact ⟨hl,Option.some.inj h2⟩
 ·cases h2
noncomputable def iZipLF (fa:DSt→Dm (List D)):DSt→Dm Src:=fun δ st=>bnd (fa δ st) fun as st1=>match as with
 | [.ref r,b]=>match items st1 r,zsD b with
  | some _,some es=>some (.zl r es,st1)
  | _,_=>none
 | _=>none
section
variable {K:PySem.W.Frag}
theorem Xa8 {ρ2:List Addr} {H2:Hp} {st2:Store} {s1 s2:ZS} {i:Nat} {ds es:List D} (l2:Rl K ρ2 H2 st2)
  (g1:(∀ d,ds[i]?=some d→∃ v,s1.has K H2 i v∧Rp K ρ2 H2 v d)∧(i=ds.length→s1.fin K H2 i)) (g2:(∀ d,es[i]?=some d→∃ v,s2.has K H2 i v∧Rp K ρ2 H2 v d)∧(i=es.length→s2.fin K H2 i)) (hl:i≤(zipD ds es).length) :
  ((zipD ds es)[i]?=none→(Itz K s1 s2).stop i H2)∧∀ d,(zipD ds es)[i]?=some d→(Itz K s1 s2).go i H2∧∀ x H3,(Itz K s1 s2).yld i H2 x H3→Mn K ρ2 H2 ρ2 H3∧Rl K ρ2 H3 st2∧Rp K ρ2 H3 x d:=by
 refine ⟨fun hn=>?_,fun d h=>?_⟩
 ·have has2:i < es.length→∃ y,s2.has K H2 i y:=fun hi=>by
   obtain ⟨v,hv,_⟩:=g2.1 es[i] (List.getElem?_eq_getElem hi)
   exact ⟨v,hv⟩
  rcases Ya8 hl hn with ⟨e1,e2⟩ | ⟨e1,e2⟩
  ·refine .inl ⟨g1.2 e1,?_⟩
   rcases Nat.lt_or_ge i es.length with hi | hi
   ·exact .inr (has2 hi)
   ·exact .inl (g2.2 (by omega))
  ·obtain ⟨v,hv,_⟩:=g1.1 ds[i] (List.getElem?_eq_getElem e1)
   exact .inr ⟨⟨v,hv⟩,g2.2 e2⟩
 ·obtain ⟨c,b,hc,hb,rfl⟩:=Za8 h
  obtain ⟨v,hv,rv⟩:=g1.1 c hc
  obtain ⟨w,hw,rw'⟩:=g2.1 b hb
  refine ⟨⟨v,w,hv,hw⟩,fun z H3 hz=>?_⟩
  obtain ⟨p,v',w',rfl,hp,rfl,k1,k2⟩:=hz
  cases k1 _ hv
  cases k2 _ hw
  have m3:Mn K ρ2 H2 ρ2 (upd H2 p (.tup [v,w])):=Mn.same (Same.up hp)
  exact ⟨m3,l2.same (Same.up hp),.tup (SqT.of yag) (.cons (rv.mn m3) (.one (rw'.mn m3)))⟩
theorem xbC {ρ2:List Addr} {H2:Hp} {st2:Store} {k:Nat} {p:Addr} {ds:List D} (l2:Rl K ρ2 H2 st2) (hi:ρ2[k]?=some p) (h:items st2 k=some ds) (i:Nat):(∀ d,ds[i]?=some d→∃ v,(ZS.lst p).has K H2 i v∧Rp K ρ2 H2 v d)∧(i=ds.length→(ZS.lst p).fin K H2 i):=by
 obtain ⟨vs,s,r⟩:=l2.items hi h
 refine ⟨fun d hd=>?_,fun e=>?_⟩
 ·obtain ⟨v,hv,rv⟩:=r.got hd
  exact ⟨v,⟨_,s,hv⟩,rv⟩
 ·exact ⟨_,s,by rw [r.length];exact e.symm⟩
theorem Yby {t:TA} {fa:DSt→Dm (List D)} (ha:SoA K t fa):SoI K (iZip K t) (iZipLF fa):=by
 intro ρ σ H δ st S st' Q l rs e q
 obtain ⟨as,st1,e1,e⟩:=Zab e
 split at e
 ·next r b =>
  split at e
  ·next ds0 es h1 h2 =>
   cases e
   refine ha ρ σ H δ st _ _ _ l rs e1 fun xs H1 ρ1 m1 l1 r1=>?_
   obtain ⟨x,y,rfl,rx,ry⟩:=r1.two'
   cases rx with
   | ref hi =>
    obtain ⟨vs,s,_⟩:=l1.items hi h1
    obtain ⟨s2,v2,g2⟩:=zs_of ry h2
    refine ⟨_,y,.lst _,s2,rfl,⟨rfl,_,s⟩,v2,q _ H1 ρ1 m1 l1 fun ρ2 H2 st2 i m2 l2=>⟨fun h=>?_,fun d h=>?_⟩⟩
    ·obtain ⟨ds,h3,hl,h4⟩:=at_zl h
     exact (Xa8 l2 (xbC l2 (m2.r _ _ hi) h3 i) (g2 ρ2 H2 m2 i) hl).1 h4
    ·obtain ⟨ds,h3,hl,h4⟩:=at_zl h
     exact (Xa8 l2 (xbC l2 (m2.r _ _ hi) h3 i) (g2 ρ2 H2 m2 i) hl).2 d h4
  ·cases e
 ·cases e
end
section
variable {st:Store} {δ:DSt}
theorem xby {fa:DSt→Dm (List D)} {R:Src→Store→Prop}:Wp (iZipLF fa δ st) R↔Wp (fa δ st) fun as st1=>∃ r b ds es,as=[.ref r,b]∧items st1 r=some ds∧zsD b=some es∧R (.zl r es) st1:=by
 unfold iZipLF;rw [yae]
 constructor <;> refine fun h=>xab h fun as s h=>?_
 ·split at h
  ·next r b =>
   split at h
   ·next ds es h1 h2=>exact ⟨r,b,ds,es,rfl,h1,h2,Xaa.mp h⟩
   ·exact (zae.mp h).elim
  ·exact (zae.mp h).elim
 ·obtain ⟨r,b,ds,es,rfl,h1,h2,h⟩:=h
  simp only [h1,h2]
  exact Xaa.mpr h
theorem zl_at {r i:Nat} {ds es:List D} (h:items st r=some ds) (hi:i≤(zipD ds es).length):Src.at (.zl r es) i st=some (zipD ds es)[i]?:=by
 simp only [Src.at,h,Option.bind_some]
 rw [← Xbp] at hi ⊢
 exact if_pos hi
theorem src_zl {r:Nat} {ds es:List D} (h:items st r=some ds):SrcOk (.zl r es) (zipD ds es) st:=fun i st2 hi k=>zl_at (zaI h k) hi
end
end L4
namespace L4
open PySem PySem.Spec L2
section
variable {K:PySem.W.Frag}
end
theorem Xby {δ:DSt} {st:Store} {fi:DSt→Dm Src} {js:List Nat} {c:DSt→Dm Bool} {f:DSt→Dm D} {Q:D→Store→Prop} (ds:List D) (q:D→Bool) (h:D→D) (hi:Wp (fi δ st) fun S st1=>SrcOk S ds st1∧Ex [] st st1) (hl:ds.length < 100000)
  (cond:∀ d∈ds,∀ st1,Ex [] st st1→Wp (c (some d :: js.map fun j=>δ.getD j none) st1) fun b st2=>b=q d∧Ex [] st1 st2)
  (step:∀ d∈ds,q d=true→∀ st1,Ex [] st st1→Wp (f (some d :: js.map fun j=>δ.getD j none) st1) fun y st2=>y=h d∧Ex [] st1 st2) (fin:∀ st',Ex [] st st'→Q (.ref st'.length) (st' ++ [.lst ((ds.filter q).map h)])):Wp (fComp fi 1 js (hName 0) c f δ st) Q:=by
 obtain ⟨S,st1,e1,hS,k1⟩:=hi
 refine Za4 ds (fun i ys δ' st8=>(∃ v,δ'=v :: js.map fun j=>δ.getD j none)∧ys=((ds.take i).filter q).map h∧Ex [] st1 st8) ⟨S,st1,e1,fun i ys δ' st8 hi' hp=>hS i st8 hi' hp.2.2,⟨none,rfl⟩,rfl,Ex.refl⟩ hl ?_ ?_ ?_
 ·rintro i ys δ' st8 ⟨_,rfl,_⟩
  rw [List.length_map]
  refine Nat.le_trans (List.length_filter_le _ _) ?_
  rw [List.length_take];omega
 ·rintro i d ys δ' st8 hd ⟨⟨v,rfl⟩,rfl,k8⟩
  obtain ⟨hlt,e⟩:=List.getElem?_eq_some_iff.mp hd
  have hm:=List.mem_of_getElem? hd
  rw [XaV]
  refine xab (cond d hm st8 (k1.trans k8)) ?_
  rintro b st9 ⟨rfl,k9⟩
  refine ⟨fun hq=>xab (step d hm hq st9 (k1.trans (k8.trans k9))) ?_,fun hq=>⟨⟨some d,rfl⟩,?_,k8.trans k9⟩⟩
  ·rintro y st10 ⟨rfl,k10⟩
   refine ⟨⟨some d,rfl⟩,?_,(k8.trans k9).trans k10⟩
   rw [List.take_succ_eq_append_getElem hlt,List.filter_append,List.map_append,e,List.filter_cons_of_pos hq];rfl
  ·rw [List.take_succ_eq_append_getElem hlt,List.filter_append,List.map_append,e,List.filter_cons_of_neg (by rw [hq];decide)]
   simp
 ·rintro ys δ' st8 ⟨_,rfl,k8⟩
  rw [List.take_length]
  exact fin st8 (k1.trans k8)
end L4
namespace L4
open PySem PySem.Spec L2
section
variable {K:PySem.W.Frag}
end
end L4
namespace L4
open PySem PySem.Spec L2
section
variable {K:PySem.W.Frag}
end
section
variable {st:Store} {Q:D→Store→Prop}
end
end L4
namespace L4
open PySem PySem.Spec L2
section
variable {K:PySem.W.Frag}
end
end L4
namespace L4
open PySem PySem.Spec L2
section
variable {K:PySem.W.Frag} {ρ:List Addr} {H:Hp} {st:Store}
end
section
variable {K:PySem.W.Frag}
end
section
variable {st:Store} {δ:DSt} {Q:D→Store→Prop}
end
end L4
namespace L4
open PySem PySem.Spec L2
section
variable {K:PySem.W.Frag}
end
section
variable {st:Store} {δ:DSt} {Q:D→Store→Prop}
end
end L4
namespace L4
open PySem PySem.Spec L2
section
variable {K:PySem.W.Frag} {ρ:List Addr} {H:Hp} {st:Store} {a:Addr} {i:Nat} {ho:HO} {o:O}
end
section
variable {K:PySem.W.Frag}
end
section
variable {st:Store} {δ:DSt}
end
end L4
namespace L4
open PySem PySem.Spec L2
noncomputable def raisedD (d:D) (st:Store):Bool:=match d with
 | .ref i=>match st[i]? with
  | some (.exc _ _)=>true
  | _=>false
 | _=>false
theorem Ybd {d:D} {st:Store} (h:raisedD d st=true):∃ i c fs,d=.ref i∧st[i]?=some (.exc c fs):=by
 unfold raisedD at h
 split at h
 ·next i =>
  split at h
  ·next c fs e=>exact ⟨i,c,fs,rfl,e⟩
  ·cases h
 ·cases h
theorem zbz {a C:Addr} {dx tr:Option Addr} {xs:List (List Int×Addr×Value)} (e:DU a xs=XO a C dx tr):False:=by
 unfold DU XO at e
 injection e with q
 let ob:Obj:={ cls:=.ref C,dict:=dx,data:=.fields #[.none,trV tr] }
 let h0:Heap:={ objs:=Array.replicate (a + 1) ob }
 have e0:h0.get? a=some ob:=by
  refine Heap.get?_some_iff.mpr ⟨?_,rfl⟩
  simp [h0]
 have z:=(congrFun q h0).mpr ⟨ob,_,e0,rfl,rfl,rfl,rfl⟩
 obtain ⟨_,_,o,es,ep,e1,_,e2,_⟩:=z
 rw [e0] at e1;cases e1
 cases e2
section
variable {K:PySem.W.Frag} {ρ ρ':List Addr} {H H' H2:Hp} {st st':Store} {a:Addr}
theorem zaW (y:XS a H H2) {b:Addr} {u:HO} (h:H b=some u) (n:∀ φ,u≠.ext φ):H2 b=some u:=by
 obtain ⟨⟨C,dx,tr,tr',e1,e2⟩,k⟩:=y
 exact k b (fun z=>by rw [z,e1] at h;cases h;exact n _ rfl) u h
theorem Mn.xs (y:XS a H H2):Mn K ρ H ρ H2:=⟨fun _ _ h=>h,fun b vs q=>by
  rcases q with (q | ⟨o,q⟩) | q
  ·exact .inl (.inl (zaW y q fun φ z=>nomatch z))
  ·exact .inl (.inr ⟨o,zaW y q fun φ z=>nomatch z⟩)
  ·exact .inr q
  ,fun b o u h=>zaW y h (fun φ z=>by cases z),fun b ws h=>zaW y h (fun φ z=>by cases z)⟩
theorem Rl.xs (l:Rl K ρ H st) (y:XS a H H2):Rl K ρ H2 st:=by
 have m:Mn K ρ H ρ H2:=Mn.xs y
 refine ⟨l.len,l.nd,fun i b o h1 h2=>?_⟩
 have r:=l.obj i b o h1 h2
 by_cases hb:b=a
 ·subst hb
  have y0:=y
  obtain ⟨⟨C,dx,tr,tr',e1,e2⟩,k⟩:=y0
  cases o with
  | lst ds=>obtain ⟨vs,e,_⟩:=r;rw [e1] at e;cases e
  | fzn ds =>
   obtain ⟨vs,e,q⟩:=r
   refine ⟨vs,?_,q.mn m⟩
   rcases e with ⟨u,e⟩ | e
   ·rw [e1] at e;cases e
   ·exact .inr e
  | dct kvs=>obtain ⟨vs,e,_⟩:=r;rw [e1] at e;cases e
  | dcu kvs=>obtain ⟨vs,e,_⟩:=r;rw [e1] at e;exact (zbz (Option.some.inj e).symm).elim
  | exc c fs =>
   obtain ⟨C',dx',tr2,n,e,q⟩:=r
   rw [e1] at e
   obtain ⟨rfl,rfl⟩:=XO.inj (Option.some.inj e)
   exact ⟨C,dx,tr',n,e2,q.mn m⟩
  | any=>trivial
  | rng lo hi=>have z:H b=some (.rng lo hi):=r;rw [e1] at z;cases z
 ·exact r.keep m fun u e=>y.2 b hb u e
noncomputable def GoX (K:PySem.W.Frag) (W:Addr→Hp→Prop) (ρ:List Addr) (H:Hp) (st':Store) (E:Ends):Fl→Prop
 | .rt d=>(raisedD d st'=true→∀ a H' ρ',Mn K ρ H ρ' H'→Rl K ρ' H' st'→Rp K ρ' H' (.ref a) d→W a H')∧(raisedD d st'=false→Go K ρ H st' E (.rt d))
 | fl=>Go K ρ H st' E fl
theorem GoX.mn {W:Addr→Hp→Prop} {ρ1:List Addr} {H1:Hp} {E:Ends} {fl:Fl} (g:GoX K W ρ H st' E fl) (m:Mn K ρ H ρ1 H1):GoX K W ρ1 H1 st' E fl:=by
 cases fl with
 | rt d=>exact ⟨fun h a H' ρ' m' l r=>g.1 h a H' ρ' (m.trans m') l r,fun h=>Go.mn (g.2 h) m⟩
 | nx δ=>exact Go.mn (fl:=.nx δ) g m
 | bk δ=>exact Go.mn (fl:=.bk δ) g m
 | ct δ=>exact Go.mn (fl:=.ct δ) g m
noncomputable def SoX (K:PySem.W.Frag) (W:Addr→Hp→Prop) (t:TS) (f:DSt→Dm Fl):Prop :=
 ∀ (ρ:List Addr) (σ:St) (H:Hp) (δ:DSt) (st:Store) (fl:Fl) (st':Store) (E:Ends),Rl K ρ H st→Rs K ρ H σ δ→f δ st=some (fl,st')→GoX K W ρ H st' E fl→t E σ H
noncomputable def fPl (f:DSt→Dm Fl):DSt→Dm Fl:=fun δ st=>bnd (f δ st) fun fl st1=>match fl with
 | .rt d=>if raisedD d st1=true then none else some (.rt d,st1)
 | x=>some (x,st1)
theorem zaP {W:Addr→Hp→Prop} {t:TS} {f:DSt→Dm Fl} (hf:SoS K t f):SoX K W t (fPl f):=by
 intro ρ σ H δ st fl st' E l rs e q
 obtain ⟨x,st1,e1,e⟩:=Zab e
 cases x with
 | rt d =>
  dsimp only at e
  split at e
  ·cases e
  ·next hn=>cases e;exact hf ρ σ H δ st _ _ E l rs e1 (q.2 (by simpa using hn))
 | nx δ1=>cases e;exact hf ρ σ H δ st _ _ E l rs e1 q
 | bk δ1=>cases e;exact hf ρ σ H δ st _ _ E l rs e1 q
 | ct δ1=>cases e;exact hf ρ σ H δ st _ _ E l rs e1 q
theorem yaF {W:Addr→Hp→Prop} {t u:TS} {f g:DSt→Dm Fl} (hf:SoX K W t f) (hg:SoX K W u g):SoX K W (tSeq t u) (fSeq f g):=by
 intro ρ σ H δ st fl st' E l rs e q
 obtain ⟨x,st1,e1,e⟩:=Zab e
 refine hf ρ σ H δ st x st1 _ l rs e1 ?_
 cases x with
 | nx δ1=>exact fun σ1 H1 ρ1 m1 l1 r1=>hg ρ1 σ1 H1 δ1 st1 fl st' E l1 r1 e (q.mn m1)
 | bk δ1=>cases e;exact q
 | ct δ1=>cases e;exact q
 | rt d=>cases e;exact q
theorem Xa4 {W:Addr→Hp→Prop} {c:TT} {t u:TS} {fc:DSt→Dm Bool} {f g:DSt→Dm Fl} (hc:SoT K c fc) (hf:SoX K W t f) (hg:SoX K W u g):SoX K W (tIfS c t u) (fIf fc f g):=by
 intro ρ σ H δ st fl st' E l rs e q
 obtain ⟨a,st1,e1,e⟩:=Zab e
 refine hc ρ σ H δ st _ _ _ l rs e1 fun x H1 ρ1 m1 l1 r1=>?_
 subst r1
 cases x with
 | true =>
  refine iteT ?_
  rw [if_pos rfl] at e
  exact hf ρ1 σ H1 δ st1 fl st' E l1 (rs.mn m1) e (q.mn m1)
 | false =>
  refine iteF ?_
  rw [if_neg Bool.false_ne_true] at e
  exact hg ρ1 σ H1 δ st1 fl st' E l1 (rs.mn m1) e (q.mn m1)
theorem xbd {c:Str} {fs:List (Str×D)}:raisedD (.ref st.length) (st ++ [.exc c fs])=true:=by
 simp [raisedD]
noncomputable def spX (K:PySem.W.Frag) (n:Nat) (F:List D→Dm D):Sp:=fun vs H Q E=>vs.length=n∧∃ (ρ:List Addr) (st:Store) (ds:List D) (b:D) (st':Store),Rl K ρ H st∧Rps K ρ H vs ds∧F ds st=some (b,st') ∧
 (raisedD b st'=true→∀ a H' ρ',Mn K ρ H ρ' H'→Rl K ρ' H' st'→Rp K ρ' H' (.ref a) b→E (.ref a) none H')∧(raisedD b st'=false→∀ v H' ρ',Mn K ρ H ρ' H'→Rl K ρ' H' st'→Rp K ρ' H' v b→Q v H')
theorem zbq {N:List Str} {k n:Nat} {t:TS} {b:DSt→Dm Fl} {vs:List V} {H:Hp} {Q:VK} {E:XK} (hb:SoX K (fun a H'=>E (.ref a) none H') t b) (hn:N.length=n) (h:spX K k (fnF n b) vs H Q E):t { nx:=fun _ H'=>Q .non H',rt:=Q } (start N vs) H:=by
 obtain ⟨hk,ρ,st,ds,d,st',l,r,e,q1,q2⟩:=h
 subst hn
 obtain ⟨fl,st1,e1,e⟩:=Zab e
 refine hb ρ _ H _ st fl st1 _ l (Rs.start r N) e1 ?_
 cases fl with
 | rt v=>cases e;exact ⟨q1,q2⟩
 | nx δ=>cases e;exact fun σ' H' ρ' m l' r'=>q2 rfl .non H' ρ' m l' .non
 | bk δ=>cases e
 | ct δ=>cases e
noncomputable def SoY (K:PySem.W.Frag) (t:(St→Addr→Hp→Prop)→TS) (f:DSt→Dm Fl):Prop :=
 ∀ (ρ:List Addr) (σ:St) (H:Hp) (δ:DSt) (st:Store) (fl:Fl) (st':Store) (E:Ends) (W:St→Addr→Hp→Prop),Rl K ρ H st→Rs K ρ H σ δ→f δ st=some (fl,st')→GoX K (W σ) ρ H st' E fl→t W E σ H
noncomputable def fAsgX (F:List D→Dm D) (fa:DSt→Dm (List D)) (i:Nat):DSt→Dm Fl:=fun δ st=>bnd (fa δ st) fun as st1=>bnd (F as st1) fun b st2=>if raisedD b st2=true then some (.rt b,st2) else some (.nx (δ.set i (some b)),st2)
theorem YbL {n i:Nat} {F:List D→Dm D} {ta:TA} {fa:DSt→Dm (List D)} (ha:SoA K ta fa) (hn:∀ δ st as st',fa δ st=some (as,st')→as.length=n):SoY K (fun W=>tAsg (tCallX (spX K n F) W ta) (gName i)) (fAsgX F fa i):=by
 intro ρ σ H δ st fl st' E W l rs e q
 obtain ⟨as,st1,e1,e⟩:=Zab e
 obtain ⟨b,st2,e2,e⟩:=Zab e
 refine ha ρ σ H δ st as st1 _ l rs e1 fun vs H1 ρ1 m1 l1 r1=>⟨by rw [r1.length];exact hn _ _ _ _ e1,ρ1,st1,as,b,st2,l1,r1,e2,fun hr a H3 ρ3 m3 l3 r3=>?_,fun hr v H3 ρ3 m3 l3 r3=>?_⟩
 ·rw [if_pos hr] at e
  cases e
  exact ⟨a,rfl,q.1 hr a H3 ρ3 (m1.trans m3) l3 r3⟩
 ·rw [hr,if_neg Bool.false_ne_true] at e
  cases e
  exact q _ H3 ρ3 (m1.trans m3) l3 ((rs.mn (m1.trans m3)).set r3)
noncomputable def catches (sub:Str→Bool) (d:D) (st:Store):Bool:=match d with
 | .ref i=>match st[i]? with
  | some (.exc c _)=>sub c
  | _=>false
 | _=>false
noncomputable def fTry (f:DSt→Dm Fl) (sub:Str→Bool) (i:Nat) (fs:DSt→Dm Fl):DSt→Dm Fl:=fun δ st=>bnd (f δ st) fun fl st1=>match fl with
 | .rt d=>if raisedD d st1=true then (if catches sub d st1=true then bnd (fs (δ.set i (some d)) st1) (fun fl2 st2=>match fl2 with
   | .nx δ2=>some (.nx (δ2.set i none),st2)
   | .rt x=>some (.rt x,st2)
   | _=>none) else none) else some (.rt d,st1)
 | x=>some (x,st1)
theorem Rs.unset {σ:St} {δ:DSt} {i:Nat} (h:Rs K ρ H σ δ):Rs K ρ H (σ.set i none) (δ.set i none):=by
 refine ⟨by rw [List.length_set,List.length_set];exact h.1,fun j e hj=>?_⟩
 by_cases hij:i=j
 ·subst hij
  have hl:i < δ.length:=by
   have:=(List.getElem?_eq_some_iff.mp hj).1
   rwa [List.length_set] at this
  rw [List.getElem?_set_self hl] at hj
  cases hj
 ·rw [List.getElem?_set_ne hij] at hj
  obtain ⟨w,hw,rw'⟩:=h.2 j e hj
  exact ⟨w,by rw [List.getElem?_set_ne hij];exact hw,rw'⟩
theorem so_try {t:(St→Addr→Hp→Prop)→TS} {ts:TS} {f fs:DSt→Dm Fl} {sub:Str→Bool} {F:Addr} {i:Nat} (hf:SoY K t f) (hs:SoS K ts fs) (hsub:∀ c C,sub c=true→PySem.W.nsIn K mainGlobals c=some (some (.ref C))→PySem.W.mroIn K C (.ref F)=some true) :
  SoS K (tTry K t F i ts) (fTry f sub i fs):=by
 intro ρ σ H δ st fl st' E l rs e q
 obtain ⟨x,st1,e1,e⟩:=Zab e
 refine hf ρ σ H δ st x st1 E _ l rs e1 ?_
 cases x with
 | nx δ1=>cases e;exact q
 | bk δ1=>cases e;exact q
 | ct δ1=>cases e;exact q
 | rt d =>
  dsimp only at e
  refine ⟨fun hr a H' ρ' m' l' r'=>?_,fun hr=>?_⟩
  ·rw [if_pos hr] at e
   obtain ⟨j,c,gs,rfl,hj⟩:=Ybd hr
   split at e
   ·next hca =>
    have hc:sub c=true:=by simpa [catches,hj] using hca
    obtain ⟨y,st2,e2,e⟩:=Zab e
    cases r' with
    | ref hra =>
     obtain ⟨C,dx,tr,hn,ea,_⟩:=l'.obj j a _ hra hj
     refine ⟨C,dx,tr,ea,hsub c C hc hn,hs ρ' _ H' _ st1 y st2 _ l' ((rs.mn m').set (.ref hra)) e2 ?_⟩
     cases y with
     | nx δ2=>cases e;exact fun σ3 H3 ρ3 m3 l3 r3=>q _ H3 ρ3 (m'.trans m3) l3 r3.unset
     | rt v=>cases e;exact fun v3 H3 ρ3 m3 l3 r3=>q v3 H3 ρ3 (m'.trans m3) l3 r3
     | bk δ2=>cases e
     | ct δ2=>cases e
   ·cases e
  ·rw [hr,if_neg Bool.false_ne_true] at e
   cases e
   exact q
noncomputable def fIsX (ans:Str→Option Bool) (f:DSt→Dm D):DSt→Dm D:=fun δ st=>bnd (f δ st) fun d st1=>match d with
 | .ref i=>match st1[i]? with
  | some (.exc c _)=>match ans c with
   | some b=>some (.bl b,st1)
   | none=>none
  | _=>none
 | _=>none
theorem za9 {dx:Option Addr} {fs:List (Str×D)} (h:Xd K ρ H dx fs):∀ d,dx=some d→∃ ws,H d=some (.xd ws):=fun d e=>by
 subst e;obtain ⟨ws,e,_⟩:=h;exact ⟨ws,e⟩
theorem XbC {te:TE} {f:DSt→Dm D} {v:V} {cv:Value} {ans:Str→Option Bool} (hf:SoE K te f) (hv:clsV v=some cv)
  (h:∀ c C b,ans c=some b→PySem.W.nsIn K mainGlobals c=some (some (.ref C))→ExI K C∧PySem.W.kitOne K (.ref C) cv=some b):SoE K (tCB (rIsX K) (tCons te (tCons (tC v) tNil))) (fIsX ans f):=by
 intro ρ σ H δ st b st' Q l rs e q
 obtain ⟨d,st1,e1,e⟩:=Zab e
 refine hf ρ σ H δ st d st1 _ l rs e1 fun x H1 ρ1 m1 l1 r1=>?_
 split at e
 ·split at e
  ·next c fs hj =>
   split at e
   ·next b0 hb =>
    cases e
    cases r1 with
    | ref hra =>
     obtain ⟨C,dx,tr,hn,ea,hx⟩:=l1.obj _ _ _ hra hj
     obtain ⟨ei,k⟩:=h c C b0 hb hn
     exact ⟨_,C,dx,tr,v,b0,rfl,ea,za9 hx,ei,.inl ⟨cv,hv,k⟩,q _ H1 ρ1 m1 l1 (.bl b0)⟩
   ·cases e
  ·cases e
 ·cases e
theorem so_isT {te:TE} {f:DSt→Dm D} {tcs:TA} {vs:List V} {cs:List Value} {ans:Str→Option Bool} (hf:SoE K te f) (ht:∀ σ H Q,Q vs H→tcs σ H Q) (hl:vs.length≤sizeLine) (hv:clsVs vs=some cs)
  (h:∀ c C b,ans c=some b→PySem.W.nsIn K mainGlobals c=some (some (.ref C))→ExI K C∧PySem.W.kitAny K (.ref C) cs=some b):SoE K (tCB (rIsX K) (tCons te (tCons (tTup tcs) tNil))) (fIsX ans f):=by
 intro ρ σ H δ st b st' Q l rs e q
 obtain ⟨d,st1,e1,e⟩:=Zab e
 refine hf ρ σ H δ st d st1 _ l rs e1 fun x H1 ρ1 m1 l1 r1=>ht σ H1 _ ⟨hl,fun p hp=>?_⟩
 have sm:Same H1 (upd H1 p (.tup vs)):=Same.up hp
 have m2:Mn K ρ1 H1 ρ1 (upd H1 p (.tup vs)):=Mn.same sm
 have l2:=l1.same sm
 have r2:=r1.mn m2
 split at e
 ·split at e
  ·next c fs hj =>
   split at e
   ·next b0 hb =>
    cases e
    cases r2 with
    | ref hra =>
     obtain ⟨C,dx,tr,hn,ea,hx⟩:=l2.obj _ _ _ hra hj
     obtain ⟨ei,k⟩:=h c C b0 hb hn
     exact ⟨_,C,dx,tr,_,b0,rfl,ea,za9 hx,ei,.inr ⟨p,vs,cs,rfl,yag,hv,k⟩,q _ _ ρ1 (m1.trans m2) l2 (.bl b0)⟩
   ·cases e
  ·cases e
 ·cases e
noncomputable def ans1 (x:Str) (b:Bool):Str→Option Bool:=fun c=>if c=x then some b else none
noncomputable def sub1 (x:Str):Str→Bool:=fun c=>decide (c=x)
theorem za5 {x:Str} {C0:Addr} {b0:Bool} {R:Addr→Bool→Prop} (hn:PySem.W.nsIn K mainGlobals x=some (some (.ref C0))) (k:R C0 b0):∀ c C b,ans1 x b0 c=some b→PySem.W.nsIn K mainGlobals c=some (some (.ref C))→R C b:=fun c C b h n=>by
 unfold ans1 at h
 split at h
 ·next e=>subst e;cases h;rw [hn] at n;cases n;exact k
 ·cases h
theorem xbL {x:Str} {C0 F:Addr} (hn:PySem.W.nsIn K mainGlobals x=some (some (.ref C0))) (k:PySem.W.mroIn K C0 (.ref F)=some true):∀ c C,sub1 x c=true→PySem.W.nsIn K mainGlobals c=some (some (.ref C))→PySem.W.mroIn K C (.ref F)=some true:=fun c C h n=>by
 have e:c=x:=of_decide_eq_true h
 subst e
 rw [hn] at n;cases n;exact k
abbrev bmV:List Value:=[.type "ValueError",.type "Exception",.type "BaseException",.type "object"]
theorem yaW:bootBuiltins "ValueError" = some (.type "ValueError"):=by decide +kernel
noncomputable def IsXQ (ans:Str→Option Bool) (d:D) (st1:Store) (Q:D→Store→Prop):Prop:=∃ i c fs b,d=.ref i∧st1[i]?=some (.exc c fs)∧ans c=some b∧Q (.bl b) st1
theorem isxq {x:Str} {b:Bool} {i:Nat} {fs:List (Str×D)} {st:Store} {Q:D→Store→Prop} (hi:st[i]?=some (.exc x fs)) (q:Q (.bl b) st):IsXQ (ans1 x b) (.ref i) st Q:=⟨i,x,fs,b,rfl,hi,by unfold ans1;rw [if_pos rfl],q⟩
theorem zbD {f:DSt→Dm D} {δ:DSt} {st:Store} {ans:Str→Option Bool} {Q:D→Store→Prop}:Wp (fIsX ans f δ st) Q↔Wp (f δ st) fun d st1=>IsXQ ans d st1 Q:=by
 constructor
 ·rintro ⟨d,st',e,q⟩
  obtain ⟨x,st1,e1,e⟩:=Zab e
  refine ⟨x,st1,e1,?_⟩
  split at e
  ·split at e
   ·next c fs hj =>
    split at e
    ·next b hb=>cases e;exact ⟨_,c,fs,b,rfl,hj,hb,q⟩
    ·cases e
   ·cases e
  ·cases e
 ·rintro ⟨x,st1,e1,i,c,fs,b,rfl,hj,hb,q⟩
  refine ⟨.bl b,st1,?_,q⟩
  unfold fIsX
  rw [e1]
  simp [bnd,hj,hb]
end
section
variable {st:Store} {δ:DSt} {N B C:DSt→Store→Prop} {R:D→Store→Prop} {f g:DSt→Dm Fl}
theorem ya5 (h:Ws (f δ st) N B C (fun d s=>raisedD d s=false∧R d s)):Ws (fPl f δ st) N B C R:=by
 obtain ⟨fl,s1,e,q⟩:=h
 unfold fPl
 rw [e]
 cases fl with
 | rt d=>refine ⟨.rt d,s1,?_,q.2⟩;simp [bnd,q.1]
 | nx δ1=>exact ⟨.nx δ1,s1,rfl,q⟩
 | bk δ1=>exact ⟨.bk δ1,s1,rfl,q⟩
 | ct δ1=>exact ⟨.ct δ1,s1,rfl,q⟩
theorem ws_try {sub:Str→Bool} {i:Nat} {fs:DSt→Dm Fl} (h:Ws (f δ st) N B C (fun d s=>(raisedD d s=false→R d s)∧(raisedD d s=true→catches sub d s=true∧Ws (fs (δ.set i (some d)) s) (fun δ2 s2=>N (δ2.set i none) s2) (fun _ _=>False) (fun _ _=>False) R))) :
  Ws (fTry f sub i fs δ st) N B C R:=by
 obtain ⟨fl,s1,e,q⟩:=h
 unfold fTry
 rw [e]
 cases fl with
 | rt d =>
  cases hr:raisedD d s1 with
  | false=>refine ⟨.rt d,s1,?_,q.1 hr⟩;simp [bnd,hr]
  | true =>
   obtain ⟨hc,fl2,s2,e2,q2⟩:=q.2 hr
   cases fl2 with
   | rt x=>refine ⟨.rt x,s2,?_,q2⟩;simp [bnd,hr,hc,e2]
   | nx δ1=>refine ⟨.nx (δ1.set i none),s2,?_,q2⟩;simp [bnd,hr,hc,e2]
   | bk δ1=>exact q2.elim
   | ct δ1=>exact q2.elim
 | nx δ1=>exact ⟨.nx δ1,s1,rfl,q⟩
 | bk δ1=>exact ⟨.bk δ1,s1,rfl,q⟩
 | ct δ1=>exact ⟨.ct δ1,s1,rfl,q⟩
theorem XbL {i:Nat} {F:List D→Dm D} {fa:DSt→Dm (List D)} (h:Wp (fa δ st) fun as s1=>Wp (F as s1) fun b s2=>(raisedD b s2=true→R b s2)∧(raisedD b s2=false→N (δ.set i (some b)) s2)):Ws (fAsgX F fa i δ st) N B C R:=by
 obtain ⟨as,s1,e,b,s2,e2,q⟩:=h
 unfold fAsgX
 rw [e]
 cases hr:raisedD b s2 with
 | true=>refine ⟨.rt b,s2,?_,q.1 hr⟩;simp [bnd,e2,hr]
 | false=>refine ⟨.nx (δ.set i (some b)),s2,?_,q.2 hr⟩;simp [bnd,e2,hr]
end
end L4
namespace L4
open PySem PySem.Spec L2
section
variable {K:PySem.W.Frag}
end
end L4
namespace L4
open PySem PySem.Spec L2
section
variable {K:PySem.W.Frag} {ρ ρ':List Addr} {H H' H2:Hp} {st st':Store} {a:Addr}
theorem ybz {a b:Addr} {o u:HO} (n:a≠b):upd (upd H a o) b u=upd (upd H b u) a o:=by
 funext c
 unfold upd
 by_cases c1:c=b
 ·subst c1;rw [if_pos rfl,if_neg (Ne.symm n),if_pos rfl]
 ·rw [if_neg c1]
  by_cases c2:c=a
  ·rw [if_pos c2,if_pos c2]
  ·rw [if_neg c2,if_neg c2,if_neg c1]
theorem Rl.newX {C d:Addr} {c:Str} {fs:List (Str×D)} {ws:List (Str×V)} (l:Rl K ρ H st) (ha:H a=none) (hd:H d=none) (da:d≠a) (hc:PySem.W.nsIn K mainGlobals c=some (some (.ref C))) (hw:∀ f e,fs.lookup f=some e→∃ v,ws.lookup f=some v∧Rp K ρ H v e) :
  Rl K (ρ ++ [a]) (upd (upd H a (XO a C (some d) none)) d (.xd ws)) (st ++ [.exc c fs])∧Mn K ρ H (ρ ++ [a]) (upd (upd H a (XO a C (some d) none)) d (.xd ws)):=by
 rw [ybz (Ne.symm da)]
 have m1:Mn K ρ H ρ (upd H d (.xd ws)):=Mn.same (Same.up hd)
 have l1:=l.same (Same.up (o:=.xd ws) hd)
 have ha1:upd H d (.xd ws) a=none:=by rw [Yae (Ne.symm da)];exact ha
 have m2:Mn K ρ (upd H d (.xd ws)) (ρ ++ [a]) (upd (upd H d (.xd ws)) a (XO a C (some d) none)):=Mn.new ha1
 refine ⟨l1.new ha1 ⟨C,some d,none,hc,yag,ws,by rw [Yae da,yag],fun f e h=>?_⟩,m1.trans m2⟩
 obtain ⟨v,h1,h2⟩:=hw f e h
 exact ⟨v,h1,h2.mn (m1.trans m2)⟩
noncomputable def fRaiseN (c:Str) (fs:List Str) (fa:DSt→Dm (List D)):DSt→Dm Fl:=fun δ st=>bnd (fa δ st) fun ds st1=>some (.rt (.ref st1.length),st1 ++ [.exc c (fs.zip ds)])
theorem yaI {C:Addr} {c f1 f2:Str} {E0:XK} {ta:TA} {fa:DSt→Dm (List D)} (ha:SoA K ta fa) (hn:∀ δ st as st',fa δ st=some (as,st')→as.length=2) (hc:PySem.W.nsIn K mainGlobals c=some (some (.ref C))) (es:ExS K C)
  (t1:PySem.W.takerIn K C f1=some none) (t2:PySem.W.takerIn K C f2=some none) (hm:PySem.W.mroIn K C (.type "BaseException")=some true) (ht:PySem.W.typeIn K (.ref C)=some (.type "type")) (hne:(f1 == f2)=false) :
  SoX K (fun a H'=>E0 (.ref a) none H') (tRaiseE K (tXMake C (spI2 K f1 f2) ta) E0) (fRaiseN c [f1,f2] fa):=by
 intro ρ σ H δ st fl st' E l rs e q
 obtain ⟨ds,st1,e1,e⟩:=Zab e
 cases e
 refine ha ρ σ H δ st ds st1 _ l rs e1 fun vs H1 ρ1 m1 l1 r1=>?_
 have hl:=hn _ _ _ _ e1
 have hv:vs.length=2:=by rw [r1.length];exact hl
 match vs,ds,r1,hl,hv with
 | [v1,v2],[d1,d2],.cons a1 (.cons a2 .nil),_,_ =>
  refine ⟨(show 2≤10 by decide),fun a hna=>⟨a,C,none,v1,v2,rfl,yag,es,t1,t2,fun d hd da=>⟨rfl,a,C,some d,rfl,?_,hm,ht,fun H2 y=>?_⟩⟩⟩
  ·rw [Yae (Ne.symm da),yag]
  ·have hd1:H1 d=none:=by rw [Yae da] at hd;exact hd
   rw [Xbd] at y
   obtain ⟨l2,m2⟩:=l1.newX (c:=c) (C:=C) (fs:=[(f1,d1),(f2,d2)]) (ws:=[(f2,v2),(f1,v1)]) hna hd1 da hc fun f e h=>by
    simp only [List.lookup_cons,List.lookup_nil] at h ⊢
    by_cases z1:(f == f1)=true
    ·rw [z1] at h;cases h
     have z2:(f == f2)=false:=by rw [beq_iff_eq.mp z1];exact hne
     rw [z2,z1];exact ⟨v1,rfl,a1⟩
    ·have z1:(f == f1)=false:=by simpa using z1
     rw [z1] at h
     by_cases z2:(f == f2)=true
     ·rw [z2] at h;cases h;rw [z2];exact ⟨v2,rfl,a2⟩
     ·have z2:(f == f2)=false:=by simpa using z2
      rw [z2] at h;cases h
   exact q.1 xbd a H2 (ρ1 ++ [a]) ((m1.trans m2).trans (Mn.xs y)) (l2.xs y) (.ref (newR l1))
noncomputable def fDropX (F:List D→Dm D) (fa:DSt→Dm (List D)):DSt→Dm Fl:=fun δ st=>bnd (fa δ st) fun as st1=>bnd (F as st1) fun b st2=>if raisedD b st2=true then some (.rt b,st2) else some (.nx δ,st2)
theorem ZaW {n:Nat} {F:List D→Dm D} {ta:TA} {fa:DSt→Dm (List D)} {E0:XK} (ha:SoA K ta fa) (hn:∀ δ st as st',fa δ st=some (as,st')→as.length=n):SoX K (fun a H'=>E0 (.ref a) none H') (tDrop (tCall (spX K n F) [] E0 ta)) (fDropX F fa):=by
 intro ρ σ H δ st fl st' E l rs e q
 obtain ⟨as,st1,e1,e⟩:=Zab e
 obtain ⟨b,st2,e2,e⟩:=Zab e
 refine ha ρ σ H δ st as st1 _ l rs e1 fun vs H1 ρ1 m1 l1 r1=>⟨?_,ρ1,st1,as,b,st2,l1,?_,e2,fun hr a H3 ρ3 m3 l3 r3=>?_,fun hr v H3 ρ3 m3 l3 r3=>?_⟩
 ·rw [List.append_nil,r1.length];exact hn _ _ _ _ e1
 ·rw [List.append_nil];exact r1
 ·rw [if_pos hr] at e
  cases e
  exact q.1 hr a H3 ρ3 (m1.trans m3) l3 r3
 ·rw [hr,if_neg Bool.false_ne_true] at e
  cases e
  exact q σ H3 ρ3 (m1.trans m3) l3 (rs.mn (m1.trans m3))
theorem ybq {W:Addr→Hp→Prop} {wi:TI} {tg:TG} {tb:TS} {fi:DSt→Dm Src} {g:D→DSt→Dm DSt} {b:DSt→Dm Fl} (hi:SoI K wi fi) (hg:SoG K tg g) (hb:SoX K W tb b):SoX K W (tFor wi tg tb) (fFor fi g b):=by
 intro ρ σ H δ st fl st' E l rs e q
 obtain ⟨S,st0,e0,e⟩:=Zab e
 refine hi ρ σ H δ st S st0 _ l rs e0 fun J H0 ρ0 m0 l0 ok=>?_
 refine ⟨fun i m σ1 H1=>∃ ρ1 δ1 st1,Mn K ρ0 H0 ρ1 H1∧Rl K ρ1 H1 st1∧Rs K ρ1 H1 σ1 δ1∧fForGo S g b m i δ1 st1=some (fl,st'),⟨fuel,ρ0,δ,st0,.refl,l0,rs.mn m0,e⟩,?_⟩
 rintro i m σ1 H1 ⟨ρ1,δ1,st1,m1,l1,rs1,e1⟩
 cases m with
 | zero=>cases e1
 | succ m =>
  obtain ⟨hstop,hgo⟩:=ok ρ1 H1 st1 i m1 l1
  unfold fForGo at e1
  split at e1
  ·cases e1
  ·next hs=>cases e1;exact .inl ⟨hstop hs,q.mn (m0.trans m1) σ1 H1 ρ1 .refl l1 rs1⟩
  ·next d hs =>
   obtain ⟨δ2,st2,e2,e1⟩:=Zab e1
   obtain ⟨f3,st3,e3,e1⟩:=Zab e1
   obtain ⟨go,yld⟩:=hgo d hs
   refine .inr ⟨go,fun σ3 H3=>∃ m',m' < m + 1∧∃ ρ1 δ1 st1,Mn K ρ0 H0 ρ1 H3∧Rl K ρ1 H3 st1∧Rs K ρ1 H3 σ3 δ1∧fForGo S g b m' (i + 1) δ1 st1=some (fl,st'),fun _ _ h=>h,fun x H2 hy=>?_⟩
   obtain ⟨m2,l2,r2⟩:=yld x H2 hy
   refine hg ρ1 σ1 H2 δ1 st1 x d δ2 st2 _ l2 (rs1.mn m2) r2 e2 fun σ4 H4 ρ4 m4 l4 r4=>hb ρ4 σ4 H4 δ2 st2 f3 st3 _ l4 r4 e3 ?_
   have m5:=((m1.trans m2).trans m4)
   cases f3 with
   | nx δ3=>exact fun σ5 H5 ρ5 m6 l5 r5=>⟨m,Nat.lt_succ_self m,ρ5,δ3,st3,m5.trans m6,l5,r5,e1⟩
   | ct δ3=>exact fun σ5 H5 ρ5 m6 l5 r5=>⟨m,Nat.lt_succ_self m,ρ5,δ3,st3,m5.trans m6,l5,r5,e1⟩
   | bk δ3=>cases e1;exact Go.mn (fl:=.nx δ3) q (m0.trans m5)
   | rt d=>cases e1;exact GoX.mn q (m0.trans m5)
noncomputable def fXGet (sub:Str→Bool) (f:Str) (fa:DSt→Dm D):DSt→Dm D:=fun δ st=>bnd (fa δ st) fun d st1=>match d with
 | .ref i=>match st1[i]? with
  | some (.exc c fs)=>if sub c=true then (match fs.lookup f with
   | some e=>some (e,st1)
   | none=>none) else none
  | _=>none
 | _=>none
theorem Zbq {te:TE} {fa:DSt→Dm D} {sub:Str→Bool} {f:Str} (ha:SoE K te fa) (h:∀ c C,sub c=true→PySem.W.nsIn K mainGlobals c=some (some (.ref C))→ExI K C∧PySem.W.findIn K (.ref C) f=some none):SoE K (tXg K te f) (fXGet sub f fa):=by
 intro ρ σ H δ st b st' Q l rs e q
 obtain ⟨d,st1,e1,e⟩:=Zab e
 refine ha ρ σ H δ st d st1 _ l rs e1 fun x H1 ρ1 m1 l1 r1=>?_
 split at e
 ·split at e
  ·next c fs hj =>
   split at e
   ·next hs =>
    split at e
    ·next e0 he =>
     cases e
     cases r1 with
     | ref hra =>
      obtain ⟨C,dx,tr,hn,ea,hx⟩:=l1.obj _ _ _ hra hj
      obtain ⟨ei,hf⟩:=h c C hs hn
      cases dx with
      | none=>rw [show fs=[] from hx] at he;cases he
      | some dd =>
       obtain ⟨ws,ed,hw⟩:=hx
       obtain ⟨v,hv,rv⟩:=hw f _ he
       exact ⟨_,C,dd,tr,ws,v,rfl,ea,ed,hv,ei,hf,q v H1 ρ1 m1 l1 rv⟩
    ·cases e
   ·cases e
  ·cases e
 ·cases e
end
section
variable {st:Store} {δ:DSt} {N B C:DSt→Store→Prop} {R:D→Store→Prop}
theorem yaP {c:Str} {fs:List Str} {fa:DSt→Dm (List D)} (h:Wp (fa δ st) fun ds s1=>R (.ref s1.length) (s1 ++ [.exc c (fs.zip ds)])):Ws (fRaiseN c fs fa δ st) N B C R:=by
 obtain ⟨ds,s1,e,q⟩:=h
 exact ⟨_,_,by unfold fRaiseN;rw [e];rfl,q⟩
theorem YaW {F:List D→Dm D} {fa:DSt→Dm (List D)} (h:Wp (fa δ st) fun as s1=>Wp (F as s1) fun b s2=>(raisedD b s2=true→R b s2)∧(raisedD b s2=false→N δ s2)):Ws (fDropX F fa δ st) N B C R:=by
 obtain ⟨as,s1,e,b,s2,e2,q⟩:=h
 unfold fDropX
 rw [e]
 cases hr:raisedD b s2 with
 | true=>refine ⟨.rt b,s2,?_,q.1 hr⟩;simp [bnd,e2,hr]
 | false=>refine ⟨.nx δ,s2,?_,q.2 hr⟩;simp [bnd,e2,hr]
noncomputable def XGetQ (sub:Str→Bool) (f:Str) (d:D) (st:Store) (Q:D→Store→Prop):Prop:=∃ i c fs e,d=.ref i∧st[i]?=some (.exc c fs)∧sub c=true∧fs.lookup f=some e∧Q e st
theorem xgetq {x f:Str} {i:Nat} {fs:List (Str×D)} {e:D} {Q:D→Store→Prop} (hi:st[i]?=some (.exc x fs)) (he:fs.lookup f=some e) (q:Q e st):XGetQ (sub1 x) f (.ref i) st Q:=⟨i,x,fs,e,rfl,hi,by unfold sub1;simp,he,q⟩
theorem Ybq {sub:Str→Bool} {f:Str} {fa:DSt→Dm D} {Q:D→Store→Prop} (h:Wp (fa δ st) fun d s1=>XGetQ sub f d s1 Q):Wp (fXGet sub f fa δ st) Q:=by
 obtain ⟨d,s1,e,i,c,fs,x,rfl,hi,hs,hl,q⟩:=h
 refine ⟨x,s1,?_,q⟩
 unfold fXGet
 rw [e]
 simp [bnd,hi,hs,hl]
end
section
variable {K:PySem.W.Frag}
noncomputable def fChain (g g':D→D→Dm D) (fa fb fc:DSt→Dm D):DSt→Dm D:=fun δ st=>bnd (fa δ st) fun a st1=>bnd (fb δ st1) fun b st2=>bnd (g a b st2) fun z st3=>match z with
 | .bl true=>bnd (fc δ st3) fun c st4=>g' b c st4
 | .bl false=>some (.bl false,st3)
 | _=>none
theorem Zbz {r r':R2} {g g':D→D→Dm D} {ta tb tc:TE} {fa fb fc:DSt→Dm D} (hr:So2 K r g) (hr':So2 K r' g') (ha:SoE K ta fa) (hb:SoE K tb fb) (hc:SoE K tc fc):SoE K (tChain r r' ta tb tc) (fChain g g' fa fb fc):=by
 intro ρ σ H δ st v st' Q l rs e q
 obtain ⟨a,st1,e1,e⟩:=Zab e
 obtain ⟨b,st2,e2,e⟩:=Zab e
 obtain ⟨z,st3,e3,e⟩:=Zab e
 refine ha ρ σ H δ st a st1 _ l rs e1 fun x H1 ρ1 m1 l1 r1=>hb ρ1 σ H1 δ st1 b st2 _ l1 (rs.mn m1) e2 fun y H2 ρ2 m2 l2 r2=>?_
 refine hr ρ2 H2 st2 x y a b z st3 _ l2 (r1.mn m2) r2 e3 fun w H3 ρ3 m3 l3 r3=>?_
 split at e
 ·obtain ⟨c,st4,e4,e⟩:=Zab e
  cases r3
  refine ⟨true,rfl,?_⟩
  rw [if_pos rfl]
  refine hc ρ3 σ H3 δ st3 c st4 _ l3 (rs.mn ((m1.trans m2).trans m3)) e4 fun u H4 ρ4 m4 l4 r4=>?_
  exact hr' ρ4 H4 st4 y u b c v st' Q l4 (r2.mn (m3.trans m4)) r4 e fun v' H5 ρ5 m5 l5 r5=>q v' H5 ρ5 ((((m1.trans m2).trans m3).trans m4).trans m5) l5 r5
 ·cases e
  cases r3
  refine ⟨false,rfl,?_⟩
  rw [if_neg Bool.false_ne_true]
  exact q _ H3 ρ3 ((m1.trans m2).trans m3) l3 (.bl _)
 ·cases e
theorem Ybz {g g':D→D→Dm D} {fa fb fc:DSt→Dm D} {δ:DSt} {st:Store} {Q:D→Store→Prop}:Wp (fChain g g' fa fb fc δ st) Q↔Wp (fa δ st) fun a st1=>Wp (fb δ st1) fun b st2=>Wp (g a b st2) fun z st3=>(z=.bl true∧Wp (fc δ st3) fun c st4=>Wp (g' b c st4) Q)∨(z=.bl false∧Q (.bl false) st3):=by
 unfold fChain
 rw [yae]
 constructor
 ·rintro ⟨a,st1,e1,b,st2,e2,h⟩
  obtain ⟨b',st2',e2',h'⟩:=Zab e2
  obtain ⟨z,st3,e3,h''⟩:=Zab h'
  refine ⟨a,st1,e1,b',st2',e2',z,st3,e3,?_⟩
  split at h''
  ·obtain ⟨c,st4,e4,e5⟩:=Zab h''
   exact .inl ⟨rfl,c,st4,e4,b,st2,e5,h⟩
  ·cases h'';exact .inr ⟨rfl,h⟩
  ·cases h''
 ·rintro ⟨a,st1,e1,b,st2,e2,z,st3,e3,⟨rfl,c,st4,e4,v,st5,e5,h⟩ | ⟨rfl,h⟩⟩
  ·refine ⟨a,st1,e1,v,st5,?_,h⟩
   simp [bnd,e2,e3,e4,e5]
  ·refine ⟨a,st1,e1,.bl false,st3,?_,h⟩
   simp [bnd,e2,e3]
end
theorem ya9 {K:PySem.W.Frag} {x:Str} {C0:Addr} {R:Addr→Prop} (hn:PySem.W.nsIn K mainGlobals x=some (some (.ref C0))) (k:R C0):∀ c C,sub1 x c=true→PySem.W.nsIn K mainGlobals c=some (some (.ref C))→R C:=fun c C h n=>by
 have e:c=x:=of_decide_eq_true h
 subst e
 rw [hn] at n;cases n;exact k
end L4
namespace My
open PySem L2 L4
noncomputable def top (i:Nat):Stmt:=PySem.Challenge.pw_shearfloor_k06_the_first_thing_amiss.main.body.getD i (.Pass ⟨0,0,0,0⟩)
structure Txt (mg:Str→Option Value):Prop where
 n_ValueError:mg "ValueError" = none
 n_enumerate:mg "enumerate" = none
 n_int:mg "int" = none
 n_isinstance:mg "isinstance" = none
 n_len:mg "len" = none
 n_list:mg "list" = none
 n_max:mg "max" = none
 n_range:mg "range" = none
 n_tuple:mg "tuple" = none
 n_zip:mg "zip" = none
noncomputable def Za9:Stmt:=match top 3 with
 | .ClassDef _ _ _ b _ _ _ _ _ _ _=>b.getD 0 (.Pass ⟨0,0,0,0⟩)
 | _=>.Pass ⟨0,0,0,0⟩
theorem zbM:FnScope ["self","word","at"] ["self","word","at"] (defScope Za9):=⟨rfl,rfl,rfl,by decide +kernel,rfl,by decide +kernel,by decide +kernel⟩
structure XF (K:PySem.W.Frag) (mg:Str→Option Value) (cNoFloor cFloorError cNoName cNoRow cNoSlope cNoTable cNoText cTooMany cI:Addr):Prop where
 m_NoFloor:mg "NoFloor" = some (.ref cNoFloor)
 m_FloorError:mg "FloorError" = some (.ref cFloorError)
 m_NoName:mg "NoName" = some (.ref cNoName)
 m_NoRow:mg "NoRow" = some (.ref cNoRow)
 m_NoSlope:mg "NoSlope" = some (.ref cNoSlope)
 m_NoTable:mg "NoTable" = some (.ref cNoTable)
 m_NoText:mg "NoText" = some (.ref cNoText)
 m_TooMany:mg "TooMany" = some (.ref cTooMany)
 n_NoFloor:PySem.W.nsIn K mainGlobals "NoFloor" = some (some (.ref cNoFloor))
 n_FloorError:PySem.W.nsIn K mainGlobals "FloorError" = some (some (.ref cFloorError))
 n_NoName:PySem.W.nsIn K mainGlobals "NoName" = some (some (.ref cNoName))
 n_NoRow:PySem.W.nsIn K mainGlobals "NoRow" = some (some (.ref cNoRow))
 n_NoSlope:PySem.W.nsIn K mainGlobals "NoSlope" = some (some (.ref cNoSlope))
 n_NoTable:PySem.W.nsIn K mainGlobals "NoTable" = some (some (.ref cNoTable))
 n_NoText:PySem.W.nsIn K mainGlobals "NoText" = some (some (.ref cNoText))
 n_TooMany:PySem.W.nsIn K mainGlobals "TooMany" = some (some (.ref cTooMany))
 n_init:PySem.W.findIn K (.ref cNoFloor) "__init__" = some (some (.ref cI))
 x_FloorError:PySem.W.excIn K cFloorError bmV "ValueError.__new__" = true
 s_FloorError:PySem.W.mroIn K cNoFloor (.ref cFloorError)=some true
 xi_NoFloor:excInI K cNoFloor bmV "ValueError.__new__" cI=true
 fn_NoFloor:PySem.W.isFn K (.ref cI)=true
 kp_NoFloor:PySem.W.keepIn K (.ref cNoFloor)=true
 bx_NoFloor:PySem.W.mroIn K cNoFloor (.type "BaseException")=some true
 ty_NoFloor:PySem.W.typeIn K (.ref cNoFloor)=some (.type "type")
 t_word:PySem.W.takerIn K cNoFloor "word" = some none
 t_at:PySem.W.takerIn K cNoFloor "at" = some none
 f_at:PySem.W.findIn K (.ref cNoFloor) "at" = some none
 f_word:PySem.W.findIn K (.ref cNoFloor) "word" = some none
 k0:PySem.W.kitAny K (.ref cNoFloor) [.ref cNoName,.ref cNoRow,.ref cNoSlope,.ref cNoTable,.ref cNoText,.ref cTooMany]=some false
 k1:PySem.W.kitOne K (.ref cNoFloor) (.ref cNoFloor)=some true
 k2:PySem.W.kitOne K (.ref cNoFloor) (.type "ValueError")=some true
 i_NoFloor:ExI K cNoFloor
 es_NoFloor:ExS K cNoFloor
 I:∃ dI,Fun K "__init__" "NoFloor.__init__" Za9 cI dI∧Binds K dI ["self","word","at"] []
theorem xf_mk {K:PySem.W.Frag} {mg:Str→Option Value} {h:Heap} {cNoFloor cFloorError cNoName cNoRow cNoSlope cNoTable cNoText cTooMany cI:Addr} (KX:K.In h) (G:h.Ns mainGlobals mg) (n_NoFloor:PySem.W.nsIn K mainGlobals "NoFloor" = some (some (.ref cNoFloor))) (n_FloorError:PySem.W.nsIn K mainGlobals "FloorError" = some (some (.ref cFloorError))) (n_NoName:PySem.W.nsIn K mainGlobals "NoName" = some (some (.ref cNoName))) (n_NoRow:PySem.W.nsIn K mainGlobals "NoRow" = some (some (.ref cNoRow))) (n_NoSlope:PySem.W.nsIn K mainGlobals "NoSlope" = some (some (.ref cNoSlope))) (n_NoTable:PySem.W.nsIn K mainGlobals "NoTable" = some (some (.ref cNoTable))) (n_NoText:PySem.W.nsIn K mainGlobals "NoText" = some (some (.ref cNoText))) (n_TooMany:PySem.W.nsIn K mainGlobals "TooMany" = some (some (.ref cTooMany))) (n_init:PySem.W.findIn K (.ref cNoFloor) "__init__" = some (some (.ref cI))) (x_FloorError:PySem.W.excIn K cFloorError bmV "ValueError.__new__" = true) (s_FloorError:PySem.W.mroIn K cNoFloor (.ref cFloorError)=some true) (xi_NoFloor:excInI K cNoFloor bmV "ValueError.__new__" cI=true) (fn_NoFloor:PySem.W.isFn K (.ref cI)=true) (kp_NoFloor:PySem.W.keepIn K (.ref cNoFloor)=true) (bx_NoFloor:PySem.W.mroIn K cNoFloor (.type "BaseException")=some true) (ty_NoFloor:PySem.W.typeIn K (.ref cNoFloor)=some (.type "type")) (t_word:PySem.W.takerIn K cNoFloor "word" = some none) (t_at:PySem.W.takerIn K cNoFloor "at" = some none) (f_at:PySem.W.findIn K (.ref cNoFloor) "at" = some none) (f_word:PySem.W.findIn K (.ref cNoFloor) "word" = some none) (k0:PySem.W.kitAny K (.ref cNoFloor) [.ref cNoName,.ref cNoRow,.ref cNoSlope,.ref cNoTable,.ref cNoText,.ref cTooMany]=some false) (k1:PySem.W.kitOne K (.ref cNoFloor) (.ref cNoFloor)=some true) (k2:PySem.W.kitOne K (.ref cNoFloor) (.type "ValueError")=some true) (i_NoFloor:ExI K cNoFloor) (es_NoFloor:ExS K cNoFloor) (I:∃ dI,Fun K "__init__" "NoFloor.__init__" Za9 cI dI∧Binds K dI ["self","word","at"] []):XF K mg cNoFloor cFloorError cNoName cNoRow cNoSlope cNoTable cNoText cTooMany cI :=
 ⟨PySem.W.mg_of KX G n_NoFloor,PySem.W.mg_of KX G n_FloorError,PySem.W.mg_of KX G n_NoName,PySem.W.mg_of KX G n_NoRow,PySem.W.mg_of KX G n_NoSlope,PySem.W.mg_of KX G n_NoTable,PySem.W.mg_of KX G n_NoText,PySem.W.mg_of KX G n_TooMany,n_NoFloor,n_FloorError,n_NoName,n_NoRow,n_NoSlope,n_NoTable,n_NoText,n_TooMany,n_init,x_FloorError,s_FloorError,xi_NoFloor,fn_NoFloor,kp_NoFloor,bx_NoFloor,ty_NoFloor,t_word,t_at,f_at,f_word,k0,k1,k2,i_NoFloor,es_NoFloor,I⟩
theorem ybM {P:Program} {w:World} {K:PySem.W.Frag} {mg:Str→Option Value} {base:Heap} {cI:Addr} {dI:FuncData} (I:Fun K "__init__" "NoFloor.__init__" Za9 cI dI):FnOk P w K mg base CX0 1 cI dI ["self","word","at"] (spI2 K "word" "at"):=by
 exact I.ok zbM (fun vs H Q E h=>ybu h) (fun cdv A outer s H vs Q E hr h=>⟨_,(yab (zbk (pv 0) (pv 1) rfl) (Xac (zbk (pv 0) (pv 2) rfl))),Xbb h⟩)
section
variable {P:Program} {w:World} {K:PySem.W.Frag} {mg:Str→Option Value} {base:Heap}
noncomputable def xaA:DSt→Dm Fl :=
 (fSeq (fAsg (fOp gAdd (fOp gMul (fC (.int 7901)) (fVar 1)) (fC (.int 24697))) (hName 2))
 (fSeq (fIf (fTest (fOp gLt (fVar 1) (fCB gLen (fCons (fVar 0) fNil)))) (fAsg (fOp gIxL (fVar 0) (fVar 1)) (hName 2)) (fIf (fTest (fOp gGt (fCB gLen (fCons (fVar 0) fNil)) (fC (.int 0)))) (fAsg (fOp gAdd (fOp gMul (fOp gMod (fOp gIxL (fVar 0) (fOp gMod (fVar 1) (fCB gLen (fCons (fVar 0) fNil)))) (fC (.int 2147483629))) (fC (.int 31))) (fOp gMul (fC (.int 7901)) (fVar 1))) (hName 2)) fNext))
 (fSeq (fAsg (fC (.int 0)) (hName 3))
 (fSeq (fIf (fTest (fOp gGe (fVar 2) (fOp gPow (fC (.int 10)) (fC (.int 18))))) (fAsg (fVar 2) (hName 3)) fNext)
 (fRet (fLst (fCons (fVar 3) (fCons (fOp gAdd (fOp gMod (fOp gPow (fOp gAdd (fOp gMul (fOp gMod (fVar 2) (fC (.int 2147483629))) (fC (.int 48271))) (fOp gMul (fC (.int 40692)) (fVar 1))) (fC (.int 5))) (fC (.int 2147483629))) (fC (.int 1))) fNil))))))))
noncomputable def xaw:List D→Dm D:=fnF 4 xaA
noncomputable def Xaw:Stmt:=top 16
theorem Yao:FnScope ["_law_script","_law_k","_law_cell","_law_own"] ["_law_script","_law_k"] (defScope Xaw):=⟨rfl,rfl,rfl,by decide +kernel,rfl,by decide +kernel,by decide +kernel⟩
theorem xa0 {f:Addr} {fd:FuncData} (D:Def K mg "_law_feed" Xaw ["_law_script","_law_k"] f fd) (T:Txt mg)  :FnOk P w K mg base CX0 1 f fd ["_law_script","_law_k"] (spF K 2 xaw):=by
 refine D.F.ok Yao (fun vs H Q E h=>h.1) (fun cdv A outer s H vs Q E hr h=>?_)
 have hu:=hr.units
 have hu1:=YaD hr
 refine ⟨_,(yab (xaf (i:=2) Yao.nd rfl (by first | exact Or.inl rfl | exact Or.inr rfl) (Zag yap (Zag YaI zac (pv 1)) zac))
  (yab (yau (Xae xa1 (pv 1) (Yaf yad (by rfl) T.n_len Yal (zaa (pv 0) Yaa)) (nomark _)) (Xac (xaf (i:=2) Yao.nd rfl (by first | exact Or.inl rfl | exact Or.inr rfl) (Xaj xak (pv 0) (pv 1) (fun _ _=>rfl)))) (Xac (yau (Xae Ybr (Yaf yad (by rfl) T.n_len Yal (zaa (pv 0) Yaa)) zac (nomark _)) (Xac (xaf (i:=2) Yao.nd rfl (by first | exact Or.inl rfl | exact Or.inr rfl) (Zag yap (Zag YaI (Zag xaI (Xaj xak (pv 0) (Zag xaI (pv 1) (Yaf yad (by rfl) T.n_len Yal (zaa (pv 0) Yaa))) (fun _ _=>rfl)) zac) zac) (Zag YaI zac (pv 1))))) Xag)))
  (yab (xaf (i:=3) Yao.nd rfl (by first | exact Or.inl rfl | exact Or.inr rfl) zac)
  (yab (yau (Xae op_ge (pv 2) (Zag Ybf zac zac) (nomark _)) (Xac (xaf (i:=3) Yao.nd rfl (by first | exact Or.inl rfl | exact Or.inr rfl) (pv 2))) Xag)
  (Xac (Yai (Zap (zaa (pv 3) (zaa (Zag yap (Zag xaI (Zag Ybf (Zag yap (Zag YaI (Zag xaI (pv 2) zac) zac) (Zag YaI zac (pv 1))) zac) zac) zac) Yaa))))))))),?_⟩
 exact xaH (b:=xaA) (Yad (xae (Yac zaq (Yac ZaJ (yac _) (Zaa 1)) (yac _)) (Yab 2))
  (Yad (zam (Zae (Yac xa3 (Zaa 1) (Yag xal (yaa (Zaa 0) xaa)))) (xae (Yac yaq (Zaa 0) (Zaa 1)) (Yab 2)) (zam (Zae (Yac zbv (Yag xal (yaa (Zaa 0) xaa)) (yac _))) (xae (Yac zaq (Yac ZaJ (Yac YaJ (Yac yaq (Zaa 0) (Yac YaJ (Zaa 1) (Yag xal (yaa (Zaa 0) xaa)))) (yac _)) (yac _)) (Yac ZaJ (yac _) (Zaa 1))) (Yab 2)) zah))
  (Yad (xae (yac _) (Yab 3))
  (Yad (zam (Zae (Yac so_ge (Zaa 2) (Yac Zbl (yac _) (yac _)))) (xae (Zaa 2) (Yab 3)) zah)
  (xai (Xap (yaa (Zaa 3) (yaa (Yac zaq (Yac YaJ (Yac Zbl (Yac zaq (Yac ZaJ (Yac YaJ (Zaa 2) (yac _)) (yac _)) (Yac ZaJ (yac _) (Zaa 1))) (yac _)) (yac _)) (yac _)) xaa)))))))) rfl h
noncomputable def XaA:DSt→Dm Fl :=
 (fSeq (fIf (fTest (fOp gGt (fOp gIxL (fVar 0) (fC (.int 0))) (fC (.int 0)))) (fSeq (fAsg (fOp gMod (fOp gIxL (fVar 0) (fC (.int 0))) (fVar 1)) (hName 2))
 (fSeq (fAsg (fOp gFdiv (fOp gIxL (fVar 0) (fC (.int 0))) (fVar 1)) (hSub (fVar 0) (fC (.int 0))))
 (fRet (fVar 2)))) fNext)
 (fSeq (fAsg (fOp gMod (fOp gMul (fOp gIxL (fVar 0) (fC (.int 1))) (fC (.int 48271))) (fC (.int 2147483647))) (hName 3))
 (fSeq (fAsg (fOp gAdd (fOp gMod (fOp gAdd (fOp gMul (fVar 3) (fC (.int 40692))) (fC (.int 30103))) (fC (.int 2147483399))) (fC (.int 1))) (hSub (fVar 0) (fC (.int 1))))
 (fRet (fOp gMod (fOp gFdiv (fOp gAdd (fOp gMul (fVar 3) (fC (.int 2147483647))) (fOp gIxL (fVar 0) (fC (.int 1)))) (fC (.int 8191))) (fVar 1))))))
noncomputable def xac:List D→Dm D:=fnF 4 XaA
noncomputable def Xak:Stmt:=top 17
theorem YaC:FnScope ["_law_feed_here","_law_many","_law_digit","_law_one"] ["_law_feed_here","_law_many"] (defScope Xak):=⟨rfl,rfl,rfl,by decide +kernel,rfl,by decide +kernel,by decide +kernel⟩
theorem Xa0 {f:Addr} {fd:FuncData} (D:Def K mg "_law_take" Xak ["_law_feed_here","_law_many"] f fd) (T:Txt mg)  :FnOk P w K mg base CX0 1 f fd ["_law_feed_here","_law_many"] (spF K 2 xac):=by
 refine D.F.ok YaC (fun vs H Q E h=>h.1) (fun cdv A outer s H vs Q E hr h=>?_)
 have hu:=hr.units
 have hu1:=YaD hr
 refine ⟨_,(yab (yau (Xae Ybr (Xaj xak (pv 0) zac (fun _ _=>rfl)) zac (nomark _)) (yab (xaf (i:=2) YaC.nd rfl (by first | exact Or.inl rfl | exact Or.inr rfl) (Zag xaI (Xaj xak (pv 0) zac (fun _ _=>rfl)) (pv 1)))
  (yab (xa5 (Zag Zbf (Xaj xak (pv 0) zac (fun _ _=>rfl)) (pv 1)) (YaR (pv 0) zac zaD))
  (Xac (Yai (pv 2))))) Xag)
  (yab (xaf (i:=3) YaC.nd rfl (by first | exact Or.inl rfl | exact Or.inr rfl) (Zag xaI (Zag YaI (Xaj xak (pv 0) zac (fun _ _=>rfl)) zac) zac))
  (yab (xa5 (Zag yap (Zag xaI (Zag yap (Zag YaI (pv 3) zac) zac) zac) zac) (YaR (pv 0) zac zaD))
  (Xac (Yai (Zag xaI (Zag Zbf (Zag yap (Zag YaI (pv 3) zac) (Xaj xak (pv 0) zac (fun _ _=>rfl))) zac) (pv 1))))))),?_⟩
 exact xaH (b:=XaA) (Yad (zam (Zae (Yac zbv (Yac yaq (Zaa 0) (yac _)) (yac _))) (Yad (xae (Yac YaJ (Yac yaq (Zaa 0) (yac _)) (Zaa 1)) (Yab 2))
  (Yad (xae (Yac ybl (Yac yaq (Zaa 0) (yac _)) (Zaa 1)) (YaH (Zaa 0) (yac _)))
  (xai (Zaa 2)))) zah)
  (Yad (xae (Yac YaJ (Yac ZaJ (Yac yaq (Zaa 0) (yac _)) (yac _)) (yac _)) (Yab 3))
  (Yad (xae (Yac zaq (Yac YaJ (Yac zaq (Yac ZaJ (Zaa 3) (yac _)) (yac _)) (yac _)) (yac _)) (YaH (Zaa 0) (yac _)))
  (xai (Yac YaJ (Yac ybl (Yac zaq (Yac ZaJ (Zaa 3) (yac _)) (Yac yaq (Zaa 0) (yac _))) (yac _)) (Zaa 1)))))) rfl h
noncomputable def xat:DSt→Dm Fl :=
 (fSeq (fAsg (fCB gListR (fCons (fCB gRange1 (fCons (fVar 1) fNil)) fNil)) (hName 2))
 (fSeq (fAsg (fTup fNil) (hName 3))
 (fSeq (fWhile (fTest (fOp (gEqD true) (fVar 2) (fLst fNil))) (fAsg (fOp gCatT (fVar 3) (fTup (fCons (fBM "list" gPopAt (fVar 2) (fCons (fCB xac (fCons (fVar 0) (fCons (fCB gLen (fCons (fVar 2) fNil)) fNil))) fNil)) fNil))) (hName 3)))
 (fRet (fVar 3)))))
noncomputable def zai:List D→Dm D:=fnF 4 xat
noncomputable def Zan:Stmt:=top 18
theorem Yaq:FnScope ["_law_feed_here","_law_n","_law_left","_law_found"] ["_law_feed_here","_law_n"] (defScope Zan):=⟨rfl,rfl,rfl,by decide +kernel,rfl,by decide +kernel,by decide +kernel⟩
theorem ZaP {f:Addr} {fd:FuncData} (D:Def K mg "_law_turning" Zan ["_law_feed_here","_law_n"] f fd) (T:Txt mg)  {f_law_take:Addr} {d_law_take:FuncData} (D_law_take:Def K mg "_law_take" Xak ["_law_feed_here","_law_many"] f_law_take d_law_take) (G_law_take:FnOk P w K mg base CX0 1 f_law_take d_law_take ["_law_feed_here","_law_many"] (spF K 2 xac)):FnOk P w K mg base CX0 2 f fd ["_law_feed_here","_law_n"] (spF K 2 zai):=by
 refine D.F.ok Yaq (fun vs H Q E h=>h.1) (fun cdv A outer s H vs Q E hr h=>?_)
 have hu:=hr.units
 have hu1:=YaD hr
 refine ⟨_,(yab (xaf (i:=2) Yaq.nd rfl (by first | exact Or.inl rfl | exact Or.inr rfl) (Xad (Yah rfl) (by rfl) T.n_list xas (zaa (Xad xaE (by rfl) T.n_range zav (zaa (pv 1) Yaa)) Yaa)))
  (yab (xaf (i:=3) Yaq.nd rfl (by first | exact Or.inl rfl | exact Or.inr rfl) (zak Yaa))
  (yab (YaT PassesOwn.never (Xae (ya6 hu) (pv 2) (Zap Yaa) (nomark _)) (Xac (xaf (i:=3) Yaq.nd rfl (by first | exact Or.inl rfl | exact Or.inr rfl) (Zag yav (pv 3) (zak (zaa (zbs PySem.F.plainAttrs_list PySem.F.slot_list_pop PySem.F.type_list_pop ybs (pv 2) (zaa (Xaf G_law_take (hr.mono (by decide)) rfl D_law_take.m D_law_take.F.kp D_law_take.b .nil pass0 (zaa (pv 0) (zaa (Yaf yad (by rfl) T.n_len Yal (zaa (pv 2) Yaa)) Yaa))) Yaa)) Yaa))))))
  (Xac (Yai (pv 3)))))),?_⟩
 exact xaH (b:=xat) (Yad (xae (Yag Zav (yaa (Yag xaN (yaa (Zaa 1) xaa)) xaa)) (Yab 2))
  (Yad (xae (yal xaa) (Yab 3))
  (Yad (YaV (Zae (Yac (Ya7 true) (Zaa 2) (Xap xaa))) (xae (Yac YaA (Zaa 3) (yal (yaa (ybv Zbv (Zaa 2) (yaa (zag (F:=xac) (yaa (Zaa 0) (yaa (Yag xal (yaa (Zaa 2) xaa)) xaa)) (Xab (Xab (fun _ _ _ _ h=>zaf h)))) xaa)) xaa))) (Yab 3)))
  (xai (Zaa 3))))) rfl h
noncomputable def yaD:DSt→Dm Fl :=
 (fSeq (fAsg (fLst (fCons (fC (.int 0)) fNil)) (hName 1))
 (fSeq (fFor (iRng1F (fCons (fOp gAdd (fC (.int 1)) (fCB gLen (fCons (fOp gIxT (fVar 0) (fC (.int 0))) fNil))) fNil)) (hName 2) (fFor (iTupF (fVar 0)) (hName 3) (fFor (iListF (fCB gList (fCons (fVar 1) fNil))) (hName 4) (fIf (fTest (fOp (gIn true) (fOp gIxT (fVar 3) (fVar 4)) (fVar 1))) (fDrop (fBM "list" gAppend (fVar 1) (fCons (fOp gIxT (fVar 3) (fVar 4)) fNil))) fNext))))
 (fRet (fVar 1))))
noncomputable def Zaj:List D→Dm D:=fnF 5 yaD
noncomputable def Zaw:Stmt:=top 19
theorem zax:FnScope ["_law_floor_here","_law_found","_law_turn","_law_turning_here","_law_one"] ["_law_floor_here"] (defScope Zaw):=⟨rfl,rfl,rfl,by decide +kernel,rfl,by decide +kernel,by decide +kernel⟩
theorem Za5 {f:Addr} {fd:FuncData} (D:Def K mg "_law_met" Zaw ["_law_floor_here"] f fd) (T:Txt mg)  :FnOk P w K mg base CX0 1 f fd ["_law_floor_here"] (spF K 1 Zaj):=by
 refine D.F.ok zax (fun vs H Q E h=>h.1) (fun cdv A outer s H vs Q E hr h=>?_)
 have hu:=hr.units
 have hu1:=YaD hr
 refine ⟨_,(yab (xaf (i:=1) zax.nd rfl (by first | exact Or.inl rfl | exact Or.inr rfl) (Zap (zaa zac Yaa)))
  (yab (XaB PassesOwn.never rfl (zap rfl T.n_range (zaa (Zag yap zac (Yaf yad (by rfl) T.n_len Yal (zaa (Xaj Zao (pv 0) zac (fun _ _=>rfl)) Yaa))) Yaa)) (Yak (i:=2) zax.nd rfl (by first | exact Or.inl rfl | exact Or.inr rfl)) (Xac (XaB PassesOwn.never rfl (zbf (pv 0)) (Yak (i:=3) zax.nd rfl (by first | exact Or.inl rfl | exact Or.inr rfl)) (Xac (XaB PassesOwn.never rfl (Xbe (Xad xax (by rfl) T.n_list xas (zaa (pv 1) Yaa))) (Yak (i:=4) zax.nd rfl (by first | exact Or.inl rfl | exact Or.inr rfl)) (Xac (yau (Xae Yax (Xaj Zao (pv 3) (pv 4) (fun _ _=>rfl)) (pv 1) (by with_unfolding_all rfl)) (Xac (xaG (zbs PySem.F.plainAttrs_list PySem.F.slot_list_append PySem.F.type_list_append XaL (pv 1) (zaa (Xaj Zao (pv 3) (pv 4) (fun _ _=>rfl)) Yaa)))) Xag)))))))
  (Xac (Yai (pv 1))))),?_⟩
 exact xaH (b:=yaD) (Yad (xae (Xap (yaa (yac _) xaa)) (Yab 1))
  (Yad (yaG (Yav (yaa (Yac zaq (yac _) (Yag xal (yaa (Yac yan (Zaa 0) (yac _)) xaa))) xaa)) (Yab 2) (yaG (za4 (Zaa 0)) (Yab 3) (yaG (za8 (Yag ZaV (yaa (Zaa 1) xaa))) (Yab 4) (zam (Zae (Yac (xaZ true) (Yac yan (Zaa 3) (Zaa 4)) (Zaa 1))) (Xa3 (ybv XaN (Zaa 1) (yaa (Yac yan (Zaa 3) (Zaa 4)) xaa))) zah))))
  (xai (Zaa 1)))) rfl h
noncomputable def Yay:DSt→Dm Fl :=
 (fSeq (fAsg (fCB xac (fCons (fVar 0) (fCons (fC (.int 6)) fNil))) (hName 2))
 (fSeq (fPar 3 4 (fCons (fCB gList (fCons (fCB zai (fCons (fVar 0) (fCons (fVar 1) fNil))) fNil)) (fCons (fCB gList (fCons (fCB zai (fCons (fVar 0) (fCons (fVar 1) fNil))) fNil)) fNil)))
 (fSeq (fIf (fTest (fOp (gEq false) (fVar 2) (fC (.int 0)))) (fAsg (fOp gCat (fCB gListR (fCons (fCB gRange2 (fCons (fC (.int 1)) (fCons (fVar 1) fNil))) fNil)) (fLst (fCons (fC (.int 0)) fNil))) (hName 3)) fNext)
 (fSeq (fIf (fTest (fOp (gEq false) (fVar 2) (fC (.int 1)))) (fPar 3 4 (fCons (fCB gListR (fCons (fCB gRange1 (fCons (fVar 1) fNil)) fNil)) (fCons (fOp gCat (fCB gListR (fCons (fCB gRange2 (fCons (fC (.int 1)) (fCons (fVar 1) fNil))) fNil)) (fLst (fCons (fC (.int 0)) fNil))) fNil))) fNext)
 (fSeq (fIf (fTest (fOp (gEq false) (fVar 2) (fC (.int 2)))) (fSeq (fAsg (fOp gAdd (fC (.int 1)) (fCB xac (fCons (fVar 0) (fCons (fVar 1) fNil)))) (hName 5))
 (fSeq (fAsg (fOp gCat (fOp gCat (fCB gListR (fCons (fCB gRange2 (fCons (fC (.int 1)) (fCons (fVar 5) fNil))) fNil)) (fLst (fCons (fC (.int 0)) fNil))) (fCB gListR (fCons (fCB gRange2 (fCons (fVar 5) (fCons (fVar 1) fNil))) fNil))) (hName 3))
 (fSeq (fAsg (fSl gSlL (fOp gCat (fOp gCat (fOp gCat (fLst (fCons (fVar 5) fNil)) (fCB gListR (fCons (fCB gRange2 (fCons (fC (.int 1)) (fCons (fVar 5) fNil))) fNil))) (fCB gListR (fCons (fCB gRange2 (fCons (fOp gAdd (fVar 5) (fC (.int 1))) (fCons (fVar 1) fNil))) fNil))) (fLst (fCons (fC (.int 0)) fNil))) fNoPart (fPart (fVar 1))) (hName 4))
 (fIf (fTest (fOp (gEq false) (fVar 5) (fVar 1))) (fAsg (fCB gListR (fCons (fCB gRange1 (fCons (fVar 1) fNil)) fNil)) (hName 4)) fNext)))) fNext)
 (fSeq (fAsg (fTup (fCons (fCB gTuple (fCons (fVar 3) fNil)) (fCons (fCB gTuple (fCons (fVar 4) fNil)) fNil))) (hName 6))
 (fSeq (fAsg (fComp (iRng1F (fCons (fVar 1) fNil)) 1 [6] (hName 0) (fTest (fOp (gIn true) (fVar 0) (fCB Zaj (fCons (fVar 1) fNil)))) (fVar 0)) (hName 7))
 (fSeq (fWhile (fTest (fOp (gEqD true) (fVar 7) (fLst fNil))) (fSeq (fAsg (fOp gIxL (fVar 7) (fC (.int 0))) (hName 8))
 (fSeq (fAsg (fTup (fCons (fOp gIxL (fVar 3) (fVar 8)) (fCons (fOp gIxL (fVar 3) (fC (.int 0))) fNil))) (hTup 2 (hCons (hSub (fVar 3) (fC (.int 0))) (hCons (hSub (fVar 3) (fVar 8)) hNil))))
 (fSeq (fAsg (fTup (fCons (fCB gTuple (fCons (fVar 3) fNil)) (fCons (fCB gTuple (fCons (fVar 4) fNil)) fNil))) (hName 6))
 (fAsg (fComp (iRng1F (fCons (fVar 1) fNil)) 1 [6] (hName 0) (fTest (fOp (gIn true) (fVar 0) (fCB Zaj (fCons (fVar 1) fNil)))) (fVar 0)) (hName 7))))))
 (fRet (fVar 6))))))))))
noncomputable def yak:List D→Dm D:=fnF 9 Yay
noncomputable def xao:Stmt:=top 20
theorem Zaf:FnScope ["_law_feed_here","_law_n","_law_form","_law_right","_law_up","_law_wide","_law_found","_law_apart","_law_m"] ["_law_feed_here","_law_n"] (defScope xao):=⟨rfl,rfl,rfl,by decide +kernel,rfl,by decide +kernel,by decide +kernel⟩
theorem xaW {f:Addr} {fd:FuncData} (D:Def K mg "_law_floor" xao ["_law_feed_here","_law_n"] f fd) (T:Txt mg)  {f_law_take:Addr} {d_law_take:FuncData} (D_law_take:Def K mg "_law_take" Xak ["_law_feed_here","_law_many"] f_law_take d_law_take) (G_law_take:FnOk P w K mg base CX0 1 f_law_take d_law_take ["_law_feed_here","_law_many"] (spF K 2 xac)) {f_law_turning:Addr} {d_law_turning:FuncData} (D_law_turning:Def K mg "_law_turning" Zan ["_law_feed_here","_law_n"] f_law_turning d_law_turning) (G_law_turning:FnOk P w K mg base CX0 2 f_law_turning d_law_turning ["_law_feed_here","_law_n"] (spF K 2 zai)) {f_law_met:Addr} {d_law_met:FuncData} (D_law_met:Def K mg "_law_met" Zaw ["_law_floor_here"] f_law_met d_law_met) (G_law_met:FnOk P w K mg base CX0 1 f_law_met d_law_met ["_law_floor_here"] (spF K 1 Zaj)):FnOk P w K mg base CX0 3 f fd ["_law_feed_here","_law_n"] (spF K 2 yak):=by
 refine D.F.ok Zaf (fun vs H Q E h=>h.1) (fun cdv A outer s H vs Q E hr h=>?_)
 have hu:=hr.units
 have hu1:=YaD hr
 refine ⟨_,(yab (xaf (i:=2) Zaf.nd rfl (by first | exact Or.inl rfl | exact Or.inr rfl) (Xaf G_law_take (hr.mono (by decide)) rfl D_law_take.m D_law_take.F.kp D_law_take.b .nil pass0 (zaa (pv 0) (zaa zac Yaa))))
  (yab (ZbA (i:=3) (j:=4) rfl Zaf.nd rfl rfl (by decide) rfl rfl (zaa (Xad xax (by rfl) T.n_list xas (zaa (Xaf G_law_turning (hr.mono (by decide)) rfl D_law_turning.m D_law_turning.F.kp D_law_turning.b .nil pass0 (zaa (pv 0) (zaa (pv 1) Yaa))) Yaa)) (zaa (Xad xax (by rfl) T.n_list xas (zaa (Xaf G_law_turning (hr.mono (by decide)) rfl D_law_turning.m D_law_turning.F.kp D_law_turning.b .nil pass0 (zaa (pv 0) (zaa (pv 1) Yaa))) Yaa)) Yaa)) rfl)
  (yab (yau (Xae yaL (pv 2) zac (nomark _)) (Xac (xaf (i:=3) Zaf.nd rfl (by first | exact Or.inl rfl | exact Or.inr rfl) (Zag xaF (Xad (Yah rfl) (by rfl) T.n_list xas (zaa (Xad Xas (by rfl) T.n_range zav (zaa zac (zaa (pv 1) Yaa))) Yaa)) (Zap (zaa zac Yaa))))) Xag)
  (yab (yau (Xae yaL (pv 2) zac (nomark _)) (Xac (ZbA (i:=3) (j:=4) rfl Zaf.nd rfl rfl (by decide) rfl rfl (zaa (Xad (Yah rfl) (by rfl) T.n_list xas (zaa (Xad xaE (by rfl) T.n_range zav (zaa (pv 1) Yaa)) Yaa)) (zaa (Zag xaF (Xad (Yah rfl) (by rfl) T.n_list xas (zaa (Xad Xas (by rfl) T.n_range zav (zaa zac (zaa (pv 1) Yaa))) Yaa)) (Zap (zaa zac Yaa))) Yaa)) rfl)) Xag)
  (yab (yau (Xae yaL (pv 2) zac (nomark _)) (yab (xaf (i:=5) Zaf.nd rfl (by first | exact Or.inl rfl | exact Or.inr rfl) (Zag yap zac (Xaf G_law_take (hr.mono (by decide)) rfl D_law_take.m D_law_take.F.kp D_law_take.b .nil pass0 (zaa (pv 0) (zaa (pv 1) Yaa)))))
  (yab (xaf (i:=3) Zaf.nd rfl (by first | exact Or.inl rfl | exact Or.inr rfl) (Zag xaF (Zag xaF (Xad (Yah rfl) (by rfl) T.n_list xas (zaa (Xad Xas (by rfl) T.n_range zav (zaa zac (zaa (pv 5) Yaa))) Yaa)) (Zap (zaa zac Yaa))) (Xad (Yah rfl) (by rfl) T.n_list xas (zaa (Xad Xas (by rfl) T.n_range zav (zaa (pv 5) (zaa (pv 1) Yaa))) Yaa))))
  (yab (xaf (i:=4) Zaf.nd rfl (by first | exact Or.inl rfl | exact Or.inr rfl) (Xam ya2 (Zag xaF (Zag xaF (Zag xaF (Zap (zaa (pv 5) Yaa)) (Xad (Yah rfl) (by rfl) T.n_list xas (zaa (Xad Xas (by rfl) T.n_range zav (zaa zac (zaa (pv 5) Yaa))) Yaa))) (Xad (Yah rfl) (by rfl) T.n_list xas (zaa (Xad Xas (by rfl) T.n_range zav (zaa (Zag yap (pv 5) zac) (zaa (pv 1) Yaa))) Yaa))) (Zap (zaa zac Yaa))) Zas (Yas (pv 1))))
  (Xac (yau (Xae yaL (pv 5) (pv 1) (nomark _)) (Xac (xaf (i:=4) Zaf.nd rfl (by first | exact Or.inl rfl | exact Or.inr rfl) (Xad (Yah rfl) (by rfl) T.n_list xas (zaa (Xad xaE (by rfl) T.n_range zav (zaa (pv 1) Yaa)) Yaa)))) Xag))))) Xag)
  (yab (xaf (i:=6) Zaf.nd rfl (by first | exact Or.inl rfl | exact Or.inr rfl) (zak (zaa (Xad Xah (by rfl) T.n_tuple Xax (zaa (pv 3) Yaa)) (zaa (Xad Xah (by rfl) T.n_tuple Xax (zaa (pv 4) Yaa)) Yaa))))
  (yab (za3 (i:=7) (own:=["_law_s"]) (fr:=["_law_found"]) (js:=[6]) rfl Zaf.nd rfl rfl ⟨⟨rfl,by decide +kernel,by decide +kernel,by dsimp only [cxOf,cxComp,Cx.nox,Cx.wish,PyProof.Rows.envOfC,compEnvC,relabel,Env.kindOf];decide +kernel,by decide +kernel⟩,rfl⟩ (zap rfl T.n_range (zaa (pv 1) Yaa)) (fun _ _ _ _ _=>(Yak (i:=0) (show ((["_law_s"]:List Str) ++ (["_law_found"]:List Str)).Nodup by decide +kernel) rfl (by first | exact Or.inl rfl | exact Or.inr rfl))) (fun _ _ _ _ _=>(Xbh (Xae (yaA (K:=K) rfl) (pv 0) (Xaf G_law_met (hr.mono (by decide)) rfl D_law_met.m D_law_met.F.kp D_law_met.b .nil pass0 (zaa (pv 1) Yaa)) (by with_unfolding_all rfl)))) (fun _ _ _ _ _=>(pv 0)))
  (yab (YaT PassesOwn.never (Xae (ya6 hu) (pv 7) (Zap Yaa) (nomark _)) (yab (xaf (i:=8) Zaf.nd rfl (by first | exact Or.inl rfl | exact Or.inr rfl) (Xaj xak (pv 7) zac (fun _ _=>rfl)))
  (yab (xa5 (zak (zaa (Xaj xak (pv 3) (pv 8) (fun _ _=>rfl)) (zaa (Xaj xak (pv 3) zac (fun _ _=>rfl)) Yaa))) (ZaX (n:=2) rfl (Zat (YaR (pv 3) zac zaD) (Zat (YaR (pv 3) (pv 8) zaD) zaL))))
  (yab (xaf (i:=6) Zaf.nd rfl (by first | exact Or.inl rfl | exact Or.inr rfl) (zak (zaa (Xad Xah (by rfl) T.n_tuple Xax (zaa (pv 3) Yaa)) (zaa (Xad Xah (by rfl) T.n_tuple Xax (zaa (pv 4) Yaa)) Yaa))))
  (Xac (za3 (i:=7) (own:=["_law_s"]) (fr:=["_law_found"]) (js:=[6]) rfl Zaf.nd rfl rfl ⟨⟨rfl,by decide +kernel,by decide +kernel,by dsimp only [cxOf,cxComp,Cx.nox,Cx.wish,PyProof.Rows.envOfC,compEnvC,relabel,Env.kindOf];decide +kernel,by decide +kernel⟩,rfl⟩ (zap rfl T.n_range (zaa (pv 1) Yaa)) (fun _ _ _ _ _=>(Yak (i:=0) (show ((["_law_s"]:List Str) ++ (["_law_found"]:List Str)).Nodup by decide +kernel) rfl (by first | exact Or.inl rfl | exact Or.inr rfl))) (fun _ _ _ _ _=>(Xbh (Xae (yaA (K:=K) rfl) (pv 0) (Xaf G_law_met (hr.mono (by decide)) rfl D_law_met.m D_law_met.F.kp D_law_met.b .nil pass0 (zaa (pv 1) Yaa)) (by with_unfolding_all rfl)))) (fun _ _ _ _ _=>(pv 0))))))))
  (Xac (Yai (pv 6))))))))))),?_⟩
 exact xaH (b:=Yay) (Yad (xae (zag (F:=xac) (yaa (Zaa 0) (yaa (yac _) xaa)) (Xab (Xab (fun _ _ _ _ h=>zaf h)))) (Yab 2))
  (Yad (ybC (yaa (Yag ZaV (yaa (zag (F:=zai) (yaa (Zaa 0) (yaa (Zaa 1) xaa)) (Xab (Xab (fun _ _ _ _ h=>zaf h)))) xaa)) (yaa (Yag ZaV (yaa (zag (F:=zai) (yaa (Zaa 0) (yaa (Zaa 1) xaa)) (Xab (Xab (fun _ _ _ _ h=>zaf h)))) xaa)) xaa)))
  (Yad (zam (Zae (Yac ZaN (Zaa 2) (yac _))) (xae (Yac zaG (Yag Zav (yaa (Yag xaz (yaa (yac _) (yaa (Zaa 1) xaa))) xaa)) (Xap (yaa (yac _) xaa))) (Yab 3)) zah)
  (Yad (zam (Zae (Yac ZaN (Zaa 2) (yac _))) (ybC (yaa (Yag Zav (yaa (Yag xaN (yaa (Zaa 1) xaa)) xaa)) (yaa (Yac zaG (Yag Zav (yaa (Yag xaz (yaa (yac _) (yaa (Zaa 1) xaa))) xaa)) (Xap (yaa (yac _) xaa))) xaa))) zah)
  (Yad (zam (Zae (Yac ZaN (Zaa 2) (yac _))) (Yad (xae (Yac zaq (yac _) (zag (F:=xac) (yaa (Zaa 0) (yaa (Zaa 1) xaa)) (Xab (Xab (fun _ _ _ _ h=>zaf h))))) (Yab 5))
  (Yad (xae (Yac zaG (Yac zaG (Yag Zav (yaa (Yag xaz (yaa (yac _) (yaa (Zaa 5) xaa))) xaa)) (Xap (yaa (yac _) xaa))) (Yag Zav (yaa (Yag xaz (yaa (Zaa 5) (yaa (Zaa 1) xaa))) xaa))) (Yab 3))
  (Yad (xae (ZaH xbl (Yac zaG (Yac zaG (Yac zaG (Xap (yaa (Zaa 5) xaa)) (Yag Zav (yaa (Yag xaz (yaa (yac _) (yaa (Zaa 5) xaa))) xaa))) (Yag Zav (yaa (Yag xaz (yaa (Yac zaq (Zaa 5) (yac _)) (yaa (Zaa 1) xaa))) xaa))) (Xap (yaa (yac _) xaa))) Xai (zat (Zaa 1))) (Yab 4))
  (zam (Zae (Yac ZaN (Zaa 5) (Zaa 1))) (xae (Yag Zav (yaa (Yag xaN (yaa (Zaa 1) xaa)) xaa)) (Yab 4)) zah)))) zah)
  (Yad (xae (yal (yaa (Yag yay (yaa (Zaa 3) xaa)) (yaa (Yag yay (yaa (Zaa 4) xaa)) xaa))) (Yab 6))
  (Yad (xae (ZaO (Yav (yaa (Zaa 1) xaa)) (Yab 0) (Zae (Yac (xaZ true) (Zaa 0) (zag (F:=Zaj) (yaa (Zaa 1) xaa) (Xab (fun _ _ _ _ h=>zaf h))))) (Zaa 0)) (Yab 7))
  (Yad (YaV (Zae (Yac (Ya7 true) (Zaa 7) (Xap xaa))) (Yad (xae (Yac yaq (Zaa 7) (yac _)) (Yab 8))
  (Yad (xae (yal (yaa (Yac yaq (Zaa 3) (Zaa 8)) (yaa (Yac yaq (Zaa 3) (yac _)) xaa))) (yaO (Yat (YaH (Zaa 3) (yac _)) (Yat (YaH (Zaa 3) (Zaa 8)) zaO))))
  (Yad (xae (yal (yaa (Yag yay (yaa (Zaa 3) xaa)) (yaa (Yag yay (yaa (Zaa 4) xaa)) xaa))) (Yab 6))
  (xae (ZaO (Yav (yaa (Zaa 1) xaa)) (Yab 0) (Zae (Yac (xaZ true) (Zaa 0) (zag (F:=Zaj) (yaa (Zaa 1) xaa) (Xab (fun _ _ _ _ h=>zaf h))))) (Zaa 0)) (Yab 7))))))
  (xai (Zaa 6)))))))))) rfl h
noncomputable def xav:DSt→Dm Fl :=
 (fSeq (fAsg (fCB gLen (fCons (fOp gIxT (fVar 0) (fC (.int 0))) fNil)) (hName 2))
 (fRet (fCB gTuple (fCons (fComp (iRng1F (fCons (fC (.int 2)) fNil)) 1 [0,1,2] (hName 0) fTrue (fOp gCatT (fOp gIxT (fVar 1) (fVar 0)) (fCB gTuple (fCons (fComp (iTupF (fOp gIxT (fVar 2) (fVar 0))) 1 [3] (hName 0) fTrue (fOp gAdd (fVar 1) (fVar 0))) fNil)))) fNil))))
noncomputable def xaq:List D→Dm D:=fnF 3 xav
noncomputable def Xaq:Stmt:=top 25
theorem ZaE:FnScope ["_law_one","_law_other","_law_n"] ["_law_one","_law_other"] (defScope Xaq):=⟨rfl,rfl,rfl,by decide +kernel,rfl,by decide +kernel,by decide +kernel⟩
theorem YaQ {f:Addr} {fd:FuncData} (D:Def K mg "_law_beside" Xaq ["_law_one","_law_other"] f fd) (T:Txt mg)  :FnOk P w K mg base CX0 1 f fd ["_law_one","_law_other"] (spF K 2 xaq):=by
 refine D.F.ok ZaE (fun vs H Q E h=>h.1) (fun cdv A outer s H vs Q E hr h=>?_)
 have hu:=hr.units
 have hu1:=YaD hr
 refine ⟨_,(yab (xaf (i:=2) ZaE.nd rfl (by first | exact Or.inl rfl | exact Or.inr rfl) (Yaf yad (by rfl) T.n_len Yal (zaa (Xaj Zao (pv 0) zac (fun _ _=>rfl)) Yaa)))
  (Xac (Yai (Xad Xah (by rfl) T.n_tuple Xax (zaa (zbi (own:=["_law_k"]) (fr:=["_law_one","_law_other","_law_n"]) (js:=[0,1,2]) rfl ⟨⟨rfl,by decide +kernel,by decide +kernel,by dsimp only [cxOf,cxComp,Cx.nox,Cx.wish,PyProof.Rows.envOfC,compEnvC,relabel,Env.kindOf];decide +kernel,by decide +kernel⟩,rfl⟩ (zap rfl T.n_range (zaa zac Yaa)) (fun _ _ _ _ _=>(Yak (i:=0) (show ((["_law_k"]:List Str) ++ (["_law_one","_law_other","_law_n"]:List Str)).Nodup by decide +kernel) rfl (by first | exact Or.inl rfl | exact Or.inr rfl))) (fun _ _ _ _ _=>ybB) (fun _ _ _ _ _=>(Zag (Zbi (K:=K) rfl) (Xaj (ybi (K:=K) rfl) (pv 1) (pv 0) (fun _ _=>rfl)) (Xad (yaQ (K:=K) rfl) (by rfl) T.n_tuple Xax (zaa (zbi (own:=["_law_s"]) (fr:=["_law_n"]) (js:=[3]) rfl ⟨Xbc ⟨rfl,by decide +kernel,by decide +kernel,by dsimp only [cxOf,Cx.nox,Cx.wish,PyProof.Rows.envOfC];decide +kernel,by decide +kernel⟩,rfl⟩ (YbE (K:=K) rfl (Xaj (ybi (K:=K) rfl) (pv 2) (pv 0) (fun _ _=>rfl))) (fun _ _ _ _ _=>(Yak (i:=0) (show ((["_law_s"]:List Str) ++ (["_law_n"]:List Str)).Nodup by decide +kernel) rfl (by first | exact Or.inl rfl | exact Or.inr rfl))) (fun _ _ _ _ _=>ybB) (fun _ _ _ _ _=>(Zag yap (pv 1) (pv 0)))) Yaa))))) Yaa))))),?_⟩
 exact xaH (b:=xav) (Yad (xae (Yag xal (yaa (Yac yan (Zaa 0) (yac _)) xaa)) (Yab 2))
  (xai (Yag yay (yaa (ZaO (Yav (yaa (yac _) xaa)) (Yab 0) Zbm (Yac YaA (Yac yan (Zaa 1) (Zaa 0)) (Yag yay (yaa (ZaO (za4 (Yac yan (Zaa 2) (Zaa 0))) (Yab 0) Zbm (Yac zaq (Zaa 1) (Zaa 0))) xaa)))) xaa)))) rfl h
noncomputable def zaB:DSt→Dm Fl :=
 (fSeq (fAsg (fCB xac (fCons (fVar 0) (fCons (fC (.int 7)) fNil))) (hName 2))
 (fSeq (fAsg (fCB xac (fCons (fVar 0) (fCons (fOp gAdd (fCB gLen (fCons (fVar 1) fNil)) (fC (.int 1))) fNil))) (hName 3))
 (fSeq (fAsg (fOp gIxL (fLst (fCons (fUn gNeg (fC (.int 1))) (fCons (fCB gLen (fCons (fVar 1) fNil)) (fCons (fOp gSub (fC (.int 0)) (fCB gLen (fCons (fVar 1) fNil))) (fCons (fOp gPow (fC (.int 10)) (fC (.int 18))) fNil))))) (fCB xac (fCons (fVar 0) (fCons (fC (.int 4)) fNil)))) (hName 4))
 (fSeq (fIf (fOr (fTest (fOp (gEq false) (fVar 2) (fC (.int 0)))) (fTest (fOp (gEq false) (fVar 3) (fCB gLen (fCons (fVar 1) fNil))))) (fRet (fOp gCatT (fOp gCatT (fSl gSlT (fVar 1) fNoPart (fPart (fVar 3))) (fTup (fCons (fVar 4) fNil))) (fSl gSlT (fVar 1) (fPart (fVar 3)) fNoPart))) fNext)
 (fSeq (fIf (fTest (fOp (gEq false) (fVar 2) (fC (.int 1)))) (fRet (fOp gCatT (fSl gSlT (fVar 1) fNoPart (fPart (fVar 3))) (fSl gSlT (fVar 1) (fPart (fOp gAdd (fVar 3) (fC (.int 1)))) fNoPart))) fNext)
 (fSeq (fIf (fTest (fOp (gEq false) (fVar 2) (fC (.int 2)))) (fRet (fOp gCatT (fOp gCatT (fSl gSlT (fVar 1) fNoPart (fPart (fVar 3))) (fTup (fCons (fVar 4) fNil))) (fSl gSlT (fVar 1) (fPart (fOp gAdd (fVar 3) (fC (.int 1)))) fNoPart))) fNext)
 (fSeq (fAsg (fCB xac (fCons (fVar 0) (fCons (fCB gLen (fCons (fVar 1) fNil)) fNil))) (hName 5))
 (fSeq (fIf (fTest (fOp (gEq false) (fVar 2) (fC (.int 3)))) (fRet (fOp gCatT (fOp gCatT (fSl gSlT (fVar 1) fNoPart (fPart (fVar 3))) (fTup (fCons (fOp gIxT (fVar 1) (fVar 5)) fNil))) (fSl gSlT (fVar 1) (fPart (fOp gAdd (fVar 3) (fC (.int 1)))) fNoPart))) fNext)
 (fSeq (fAsg (fCB gList (fCons (fVar 1) fNil)) (hName 6))
 (fSeq (fAsg (fTup (fCons (fOp gIxL (fVar 6) (fVar 5)) (fCons (fOp gIxL (fVar 6) (fVar 3)) fNil))) (hTup 2 (hCons (hSub (fVar 6) (fVar 3)) (hCons (hSub (fVar 6) (fVar 5)) hNil))))
 (fRet (fCB gTuple (fCons (fVar 6) fNil)))))))))))))
noncomputable def yao:List D→Dm D:=fnF 7 zaB
noncomputable def yax:Stmt:=top 24
theorem Xao:FnScope ["_law_feed_here","_law_numbers","_law_form","_law_at","_law_number","_law_other","_law_found"] ["_law_feed_here","_law_numbers"] (defScope yax):=⟨rfl,rfl,rfl,by decide +kernel,rfl,by decide +kernel,by decide +kernel⟩
theorem za1 {f:Addr} {fd:FuncData} (D:Def K mg "_law_bent" yax ["_law_feed_here","_law_numbers"] f fd) (T:Txt mg)  {f_law_take:Addr} {d_law_take:FuncData} (D_law_take:Def K mg "_law_take" Xak ["_law_feed_here","_law_many"] f_law_take d_law_take) (G_law_take:FnOk P w K mg base CX0 1 f_law_take d_law_take ["_law_feed_here","_law_many"] (spF K 2 xac)):FnOk P w K mg base CX0 2 f fd ["_law_feed_here","_law_numbers"] (spF K 2 yao):=by
 refine D.F.ok Xao (fun vs H Q E h=>h.1) (fun cdv A outer s H vs Q E hr h=>?_)
 have hu:=hr.units
 have hu1:=YaD hr
 refine ⟨_,(yab (xaf (i:=2) Xao.nd rfl (by first | exact Or.inl rfl | exact Or.inr rfl) (Xaf G_law_take (hr.mono (by decide)) rfl D_law_take.m D_law_take.F.kp D_law_take.b .nil pass0 (zaa (pv 0) (zaa zac Yaa))))
  (yab (xaf (i:=3) Xao.nd rfl (by first | exact Or.inl rfl | exact Or.inr rfl) (Xaf G_law_take (hr.mono (by decide)) rfl D_law_take.m D_law_take.F.kp D_law_take.b .nil pass0 (zaa (pv 0) (zaa (Zag yap (Yaf yad (by rfl) T.n_len Yal (zaa (pv 1) Yaa)) zac) Yaa))))
  (yab (xaf (i:=4) Xao.nd rfl (by first | exact Or.inl rfl | exact Or.inr rfl) (Xaj xak (Zap (zaa (pe_un un_neg zac) (zaa (Yaf yad (by rfl) T.n_len Yal (zaa (pv 1) Yaa)) (zaa (Zag op_sub zac (Yaf yad (by rfl) T.n_len Yal (zaa (pv 1) Yaa))) (zaa (Zag Ybf zac zac) Yaa))))) (Xaf G_law_take (hr.mono (by decide)) rfl D_law_take.m D_law_take.F.kp D_law_take.b .nil pass0 (zaa (pv 0) (zaa zac Yaa))) (fun _ _=>rfl)))
  (yab (yau (PW.pt (XaK (Xae yaL (pv 2) zac (nomark _)) (xaK (Xae yaL (pv 3) (Yaf yad (by rfl) T.n_len Yal (zaa (pv 1) Yaa)) (nomark _))))) (Xac (Yai (Zag yav (Zag yav (Xam zaz (pv 1) Zas (Yas (pv 3))) (zak (zaa (pv 4) Yaa))) (Xam zaz (pv 1) (Yas (pv 3)) Zas)))) Xag)
  (yab (yau (Xae yaL (pv 2) zac (nomark _)) (Xac (Yai (Zag yav (Xam zaz (pv 1) Zas (Yas (pv 3))) (Xam zaz (pv 1) (Yas (Zag yap (pv 3) zac)) Zas)))) Xag)
  (yab (yau (Xae yaL (pv 2) zac (nomark _)) (Xac (Yai (Zag yav (Zag yav (Xam zaz (pv 1) Zas (Yas (pv 3))) (zak (zaa (pv 4) Yaa))) (Xam zaz (pv 1) (Yas (Zag yap (pv 3) zac)) Zas)))) Xag)
  (yab (xaf (i:=5) Xao.nd rfl (by first | exact Or.inl rfl | exact Or.inr rfl) (Xaf G_law_take (hr.mono (by decide)) rfl D_law_take.m D_law_take.F.kp D_law_take.b .nil pass0 (zaa (pv 0) (zaa (Yaf yad (by rfl) T.n_len Yal (zaa (pv 1) Yaa)) Yaa))))
  (yab (yau (Xae yaL (pv 2) zac (nomark _)) (Xac (Yai (Zag yav (Zag yav (Xam zaz (pv 1) Zas (Yas (pv 3))) (zak (zaa (Xaj Zao (pv 1) (pv 5) (fun _ _=>rfl)) Yaa))) (Xam zaz (pv 1) (Yas (Zag yap (pv 3) zac)) Zas)))) Xag)
  (yab (xaf (i:=6) Xao.nd rfl (by first | exact Or.inl rfl | exact Or.inr rfl) (Xad xax (by rfl) T.n_list xas (zaa (pv 1) Yaa)))
  (yab (xa5 (zak (zaa (Xaj xak (pv 6) (pv 5) (fun _ _=>rfl)) (zaa (Xaj xak (pv 6) (pv 3) (fun _ _=>rfl)) Yaa))) (ZaX (n:=2) rfl (Zat (YaR (pv 6) (pv 3) zaD) (Zat (YaR (pv 6) (pv 5) zaD) zaL))))
  (Xac (Yai (Xad Xah (by rfl) T.n_tuple Xax (zaa (pv 6) Yaa)))))))))))))),?_⟩
 exact xaH (b:=zaB) (Yad (xae (zag (F:=xac) (yaa (Zaa 0) (yaa (yac _) xaa)) (Xab (Xab (fun _ _ _ _ h=>zaf h)))) (Yab 2))
  (Yad (xae (zag (F:=xac) (yaa (Zaa 0) (yaa (Yac zaq (Yag xal (yaa (Zaa 1) xaa)) (yac _)) xaa)) (Xab (Xab (fun _ _ _ _ h=>zaf h)))) (Yab 3))
  (Yad (xae (Yac yaq (Xap (yaa (so_un so_neg (yac _)) (yaa (Yag xal (yaa (Zaa 1) xaa)) (yaa (Yac so_sub (yac _) (Yag xal (yaa (Zaa 1) xaa))) (yaa (Yac Zbl (yac _) (yac _)) xaa))))) (zag (F:=xac) (yaa (Zaa 0) (yaa (yac _) xaa)) (Xab (Xab (fun _ _ _ _ h=>zaf h))))) (Yab 4))
  (Yad (zam (yaN (Zae (Yac ZaN (Zaa 2) (yac _))) (Zae (Yac ZaN (Zaa 3) (Yag xal (yaa (Zaa 1) xaa))))) (xai (Yac YaA (Yac YaA (ZaH yaE (Zaa 1) Xai (zat (Zaa 3))) (yal (yaa (Zaa 4) xaa))) (ZaH yaE (Zaa 1) (zat (Zaa 3)) Xai))) zah)
  (Yad (zam (Zae (Yac ZaN (Zaa 2) (yac _))) (xai (Yac YaA (ZaH yaE (Zaa 1) Xai (zat (Zaa 3))) (ZaH yaE (Zaa 1) (zat (Yac zaq (Zaa 3) (yac _))) Xai))) zah)
  (Yad (zam (Zae (Yac ZaN (Zaa 2) (yac _))) (xai (Yac YaA (Yac YaA (ZaH yaE (Zaa 1) Xai (zat (Zaa 3))) (yal (yaa (Zaa 4) xaa))) (ZaH yaE (Zaa 1) (zat (Yac zaq (Zaa 3) (yac _))) Xai))) zah)
  (Yad (xae (zag (F:=xac) (yaa (Zaa 0) (yaa (Yag xal (yaa (Zaa 1) xaa)) xaa)) (Xab (Xab (fun _ _ _ _ h=>zaf h)))) (Yab 5))
  (Yad (zam (Zae (Yac ZaN (Zaa 2) (yac _))) (xai (Yac YaA (Yac YaA (ZaH yaE (Zaa 1) Xai (zat (Zaa 3))) (yal (yaa (Yac yan (Zaa 1) (Zaa 5)) xaa))) (ZaH yaE (Zaa 1) (zat (Yac zaq (Zaa 3) (yac _))) Xai))) zah)
  (Yad (xae (Yag ZaV (yaa (Zaa 1) xaa)) (Yab 6))
  (Yad (xae (yal (yaa (Yac yaq (Zaa 6) (Zaa 5)) (yaa (Yac yaq (Zaa 6) (Zaa 3)) xaa))) (yaO (Yat (YaH (Zaa 6) (Zaa 3)) (Yat (YaH (Zaa 6) (Zaa 5)) zaO))))
  (xai (Yag yay (yaa (Zaa 6) xaa))))))))))))) rfl h
noncomputable def Xav:DSt→Dm Fl :=
 (fSeq (fAsg (fCB xac (fCons (fVar 0) (fCons (fC (.int 10)) fNil))) (hName 2))
 (fSeq (fIf (fTest (fOp (gEq false) (fVar 2) (fC (.int 0)))) (fRet (fCB xaq (fCons (fVar 1) (fCons (fCB yak (fCons (fVar 0) (fCons (fOp gAdd (fC (.int 1)) (fCB xac (fCons (fVar 0) (fCons (fC (.int 4)) fNil)))) fNil))) fNil)))) fNext)
 (fSeq (fIf (fTest (fOp (gEq false) (fVar 2) (fC (.int 1)))) (fRet (fOp gIxL (fLst (fCons (fTup (fCons (fTup fNil) (fCons (fTup fNil) fNil))) (fCons (fTup (fCons (fOp gIxT (fVar 1) (fC (.int 0))) (fCons (fTup fNil) fNil))) (fCons (fTup (fCons (fTup fNil) (fCons (fOp gIxT (fVar 1) (fC (.int 1))) fNil))) fNil)))) (fCB xac (fCons (fVar 0) (fCons (fC (.int 3)) fNil))))) fNext)
 (fSeq (fIf (fTest (fOp gLt (fVar 2) (fC (.int 6)))) (fRet (fTup (fCons (fCB yao (fCons (fVar 0) (fCons (fOp gIxT (fVar 1) (fC (.int 0))) fNil))) (fCons (fOp gIxT (fVar 1) (fC (.int 1))) fNil)))) fNext)
 (fRet (fTup (fCons (fOp gIxT (fVar 1) (fC (.int 0))) (fCons (fCB yao (fCons (fVar 0) (fCons (fOp gIxT (fVar 1) (fC (.int 1))) fNil))) fNil))))))))
noncomputable def zar:List D→Dm D:=fnF 3 Xav
noncomputable def yar:Stmt:=top 26
theorem YaE:FnScope ["_law_feed_here","_law_floor_here","_law_form"] ["_law_feed_here","_law_floor_here"] (defScope yar):=⟨rfl,rfl,rfl,by decide +kernel,rfl,by decide +kernel,by decide +kernel⟩
theorem xaQ {f:Addr} {fd:FuncData} (D:Def K mg "_law_spoilt" yar ["_law_feed_here","_law_floor_here"] f fd) (T:Txt mg)  {f_law_take:Addr} {d_law_take:FuncData} (D_law_take:Def K mg "_law_take" Xak ["_law_feed_here","_law_many"] f_law_take d_law_take) (G_law_take:FnOk P w K mg base CX0 1 f_law_take d_law_take ["_law_feed_here","_law_many"] (spF K 2 xac)) {f_law_beside:Addr} {d_law_beside:FuncData} (D_law_beside:Def K mg "_law_beside" Xaq ["_law_one","_law_other"] f_law_beside d_law_beside) (G_law_beside:FnOk P w K mg base CX0 1 f_law_beside d_law_beside ["_law_one","_law_other"] (spF K 2 xaq)) {f_law_bent:Addr} {d_law_bent:FuncData} (D_law_bent:Def K mg "_law_bent" yax ["_law_feed_here","_law_numbers"] f_law_bent d_law_bent) (G_law_bent:FnOk P w K mg base CX0 2 f_law_bent d_law_bent ["_law_feed_here","_law_numbers"] (spF K 2 yao)) {f_law_floor:Addr} {d_law_floor:FuncData} (D_law_floor:Def K mg "_law_floor" xao ["_law_feed_here","_law_n"] f_law_floor d_law_floor) (G_law_floor:FnOk P w K mg base CX0 3 f_law_floor d_law_floor ["_law_feed_here","_law_n"] (spF K 2 yak)):FnOk P w K mg base CX0 4 f fd ["_law_feed_here","_law_floor_here"] (spF K 2 zar):=by
 refine D.F.ok YaE (fun vs H Q E h=>h.1) (fun cdv A outer s H vs Q E hr h=>?_)
 have hu:=hr.units
 have hu1:=YaD hr
 refine ⟨_,(yab (xaf (i:=2) YaE.nd rfl (by first | exact Or.inl rfl | exact Or.inr rfl) (Xaf G_law_take (hr.mono (by decide)) rfl D_law_take.m D_law_take.F.kp D_law_take.b .nil pass0 (zaa (pv 0) (zaa zac Yaa))))
  (yab (yau (Xae yaL (pv 2) zac (nomark _)) (Xac (Yai (Xaf G_law_beside (hr.mono (by decide)) rfl D_law_beside.m D_law_beside.F.kp D_law_beside.b .nil pass0 (zaa (pv 1) (zaa (Xaf G_law_floor (hr.mono (by decide)) rfl D_law_floor.m D_law_floor.F.kp D_law_floor.b .nil pass0 (zaa (pv 0) (zaa (Zag yap zac (Xaf G_law_take (hr.mono (by decide)) rfl D_law_take.m D_law_take.F.kp D_law_take.b .nil pass0 (zaa (pv 0) (zaa zac Yaa)))) Yaa))) Yaa))))) Xag)
  (yab (yau (Xae yaL (pv 2) zac (nomark _)) (Xac (Yai (Xaj xak (Zap (zaa (zak (zaa (zak Yaa) (zaa (zak Yaa) Yaa))) (zaa (zak (zaa (Xaj Zao (pv 1) zac (fun _ _=>rfl)) (zaa (zak Yaa) Yaa))) (zaa (zak (zaa (zak Yaa) (zaa (Xaj Zao (pv 1) zac (fun _ _=>rfl)) Yaa))) Yaa)))) (Xaf G_law_take (hr.mono (by decide)) rfl D_law_take.m D_law_take.F.kp D_law_take.b .nil pass0 (zaa (pv 0) (zaa zac Yaa))) (fun _ _=>rfl)))) Xag)
  (yab (yau (Xae xa1 (pv 2) zac (nomark _)) (Xac (Yai (zak (zaa (Xaf G_law_bent (hr.mono (by decide)) rfl D_law_bent.m D_law_bent.F.kp D_law_bent.b .nil pass0 (zaa (pv 0) (zaa (Xaj Zao (pv 1) zac (fun _ _=>rfl)) Yaa))) (zaa (Xaj Zao (pv 1) zac (fun _ _=>rfl)) Yaa))))) Xag)
  (Xac (Yai (zak (zaa (Xaj Zao (pv 1) zac (fun _ _=>rfl)) (zaa (Xaf G_law_bent (hr.mono (by decide)) rfl D_law_bent.m D_law_bent.F.kp D_law_bent.b .nil pass0 (zaa (pv 0) (zaa (Xaj Zao (pv 1) zac (fun _ _=>rfl)) Yaa))) Yaa))))))))),?_⟩
 exact xaH (b:=Xav) (Yad (xae (zag (F:=xac) (yaa (Zaa 0) (yaa (yac _) xaa)) (Xab (Xab (fun _ _ _ _ h=>zaf h)))) (Yab 2))
  (Yad (zam (Zae (Yac ZaN (Zaa 2) (yac _))) (xai (zag (F:=xaq) (yaa (Zaa 1) (yaa (zag (F:=yak) (yaa (Zaa 0) (yaa (Yac zaq (yac _) (zag (F:=xac) (yaa (Zaa 0) (yaa (yac _) xaa)) (Xab (Xab (fun _ _ _ _ h=>zaf h))))) xaa)) (Xab (Xab (fun _ _ _ _ h=>zaf h)))) xaa)) (Xab (Xab (fun _ _ _ _ h=>zaf h))))) zah)
  (Yad (zam (Zae (Yac ZaN (Zaa 2) (yac _))) (xai (Yac yaq (Xap (yaa (yal (yaa (yal xaa) (yaa (yal xaa) xaa))) (yaa (yal (yaa (Yac yan (Zaa 1) (yac _)) (yaa (yal xaa) xaa))) (yaa (yal (yaa (yal xaa) (yaa (Yac yan (Zaa 1) (yac _)) xaa))) xaa)))) (zag (F:=xac) (yaa (Zaa 0) (yaa (yac _) xaa)) (Xab (Xab (fun _ _ _ _ h=>zaf h)))))) zah)
  (Yad (zam (Zae (Yac xa3 (Zaa 2) (yac _))) (xai (yal (yaa (zag (F:=yao) (yaa (Zaa 0) (yaa (Yac yan (Zaa 1) (yac _)) xaa)) (Xab (Xab (fun _ _ _ _ h=>zaf h)))) (yaa (Yac yan (Zaa 1) (yac _)) xaa)))) zah)
  (xai (yal (yaa (Yac yan (Zaa 1) (yac _)) (yaa (zag (F:=yao) (yaa (Zaa 0) (yaa (Yac yan (Zaa 1) (yac _)) xaa)) (Xab (Xab (fun _ _ _ _ h=>zaf h)))) xaa)))))))) rfl h
noncomputable def Xat:DSt→Dm Fl :=
 (fFor (iEnumF (fCons (fVar 0) fNil)) (hTup 2 (hCons (hName 2) (hCons (hName 3) hNil))) (fIf (fOr (fTest (fOp gLt (fVar 3) (fC (.int 0)))) (fOr (fTest (fOp gGe (fVar 3) (fCB gLen (fCons (fVar 0) fNil)))) (fTest (fOp (gIn false) (fVar 3) (fSl gSlT (fVar 0) fNoPart (fPart (fVar 2))))))) (fRaiseN "NoFloor" ["word","at"] (fCons (fVar 1) (fCons (fVar 2) fNil))) (fPl fNext)))
noncomputable def yai:List D→Dm D:=fnF 4 Xat
noncomputable def Yan:Stmt:=top 13
theorem Zax:FnScope ["numbers","word","place","number"] ["numbers","word"] (defScope Yan):=⟨rfl,rfl,rfl,by decide +kernel,rfl,by decide +kernel,by decide +kernel⟩
theorem YaP {f:Addr} {fd:FuncData} (D:Def K mg "look_turning" Yan ["numbers","word"] f fd) (T:Txt mg)  {cNoFloor cFloorError cNoName cNoRow cNoSlope cNoTable cNoText cTooMany cI:Addr} (Z:XF K mg cNoFloor cFloorError cNoName cNoRow cNoSlope cNoTable cNoText cTooMany cI) {dI:FuncData} (GI:FnOk P w K mg base CX0 1 cI dI ["self","word","at"] (spI2 K "word" "at")) (BI:Binds K dI ["self","word","at"] []) :FnOk P w K mg base (CXE P w) 3 f fd ["numbers","word"] (spX K 2 yai):=by
 refine D.F.okX Zax (fun vs H Q E h=>h.1) (fun cdv A outer s H vs Q E hr h=>?_)
 have hu:=hr.units
 have hu1:=YaD hr
 refine ⟨_,(Xac (XaB PassesOwn.leaving rfl (xbE rfl T.n_enumerate (zaa (pv 0) Yaa)) (ZaX (n:=2) rfl (Zat (Yak (i:=2) Zax.nd rfl (by first | exact Or.inl rfl | exact Or.inr rfl)) (Zat (Yak (i:=3) Zax.nd rfl (by first | exact Or.inl rfl | exact Or.inr rfl)) zaL))) (Xac (yau (PW.pt (XaK (Xae xa1 (pv 3) zac (nomark _)) (XaK (Xae op_ge (pv 3) (Yaf yad (by rfl) T.n_len Yal (zaa (pv 0) Yaa)) (nomark _)) (xaK (Xae YaY (pv 3) (Xam zaz (pv 0) Zas (Yas (pv 2))) (by with_unfolding_all rfl)))))) (Xac (ZaM (YaU PySem.F.excBase_ValueError ⟨Z.m_NoFloor,Z.xi_NoFloor,Z.fn_NoFloor,Z.kp_NoFloor⟩ GI (hr.mono (by decide)) rfl BI (zaa (pv 1) (zaa (pv 2) Yaa))))) Xag)))),?_⟩
 exact zbq (b:=Xat) (ybq (Ybv (yaa (Zaa 0) xaa)) (yaO (Yat (Yab 2) (Yat (Yab 3) zaO))) (Xa4 (yaN (Zae (Yac xa3 (Zaa 3) (yac _))) (yaN (Zae (Yac so_ge (Zaa 3) (Yag xal (yaa (Zaa 0) xaa)))) (Zae (Yac (xaZ false) (Zaa 3) (ZaH yaE (Zaa 0) Xai (zat (Zaa 2))))))) (yaI (yaa (Zaa 1) (yaa (Zaa 2) xaa)) (Xab (Xab (fun _ _ _ _ h=>zaf h))) Z.n_NoFloor Z.es_NoFloor Z.t_word Z.t_at Z.bx_NoFloor Z.ty_NoFloor (by decide)) (zaP zah))) rfl h
noncomputable def zau:DSt→Dm Fl :=
 (fSeq (fAsg (fLst (fCons (fVar 1) fNil)) (hName 2))
 (fSeq (fAsg (fC (.int 0)) (hName 3))
 (fSeq (fWhile (fTest (fOp gLt (fVar 3) (fCB gLen (fCons (fVar 2) fNil)))) (fSeq (fFor (iTupF (fVar 0)) (hName 4) (fSeq (fAsg (fOp gIxT (fVar 4) (fOp gIxL (fVar 2) (fVar 3))) (hName 5))
 (fIf (fTest (fOp (gIn true) (fVar 5) (fVar 2))) (fDrop (fBM "list" gAppend (fVar 2) (fCons (fVar 5) fNil))) fNext)))
 (fAsg (fOp gAdd (fVar 3) (fC (.int 1))) (hName 3))))
 (fRet (fCB gTuple (fCons (fVar 2) fNil))))))
noncomputable def xan:List D→Dm D:=fnF 6 zau
noncomputable def Xan:Stmt:=top 11
theorem Yaj:FnScope ["floor","s","squares","place","turning","reached"] ["floor","s"] (defScope Xan):=⟨rfl,rfl,rfl,by decide +kernel,rfl,by decide +kernel,by decide +kernel⟩
theorem xaP {f:Addr} {fd:FuncData} (D:Def K mg "squares_from" Xan ["floor","s"] f fd) (T:Txt mg)  :FnOk P w K mg base CX0 1 f fd ["floor","s"] (spF K 2 xan):=by
 refine D.F.ok Yaj (fun vs H Q E h=>h.1) (fun cdv A outer s H vs Q E hr h=>?_)
 have hu:=hr.units
 have hu1:=YaD hr
 refine ⟨_,(yab (xaf (i:=2) Yaj.nd rfl (by first | exact Or.inl rfl | exact Or.inr rfl) (Zap (zaa (pv 1) Yaa)))
  (yab (xaf (i:=3) Yaj.nd rfl (by first | exact Or.inl rfl | exact Or.inr rfl) zac)
  (yab (YaT PassesOwn.never (Xae xa1 (pv 3) (Yaf yad (by rfl) T.n_len Yal (zaa (pv 2) Yaa)) (nomark _)) (yab (XaB PassesOwn.never rfl (zbf (pv 0)) (Yak (i:=4) Yaj.nd rfl (by first | exact Or.inl rfl | exact Or.inr rfl)) (yab (xaf (i:=5) Yaj.nd rfl (by first | exact Or.inl rfl | exact Or.inr rfl) (Xaj Zao (pv 4) (Xaj xak (pv 2) (pv 3) (fun _ _=>rfl)) (fun _ _=>rfl)))
  (Xac (yau (Xae Yax (pv 5) (pv 2) (by with_unfolding_all rfl)) (Xac (xaG (zbs PySem.F.plainAttrs_list PySem.F.slot_list_append PySem.F.type_list_append XaL (pv 2) (zaa (pv 5) Yaa)))) Xag))))
  (Xac (xaf (i:=3) Yaj.nd rfl (by first | exact Or.inl rfl | exact Or.inr rfl) (Zag yap (pv 3) zac)))))
  (Xac (Yai (Xad Xah (by rfl) T.n_tuple Xax (zaa (pv 2) Yaa))))))),?_⟩
 exact xaH (b:=zau) (Yad (xae (Xap (yaa (Zaa 1) xaa)) (Yab 2))
  (Yad (xae (yac _) (Yab 3))
  (Yad (YaV (Zae (Yac xa3 (Zaa 3) (Yag xal (yaa (Zaa 2) xaa)))) (Yad (yaG (za4 (Zaa 0)) (Yab 4) (Yad (xae (Yac yan (Zaa 4) (Yac yaq (Zaa 2) (Zaa 3))) (Yab 5))
  (zam (Zae (Yac (xaZ true) (Zaa 5) (Zaa 2))) (Xa3 (ybv XaN (Zaa 2) (yaa (Zaa 5) xaa))) zah)))
  (xae (Yac zaq (Zaa 3) (yac _)) (Yab 3))))
  (xai (Yag yay (yaa (Zaa 2) xaa)))))) rfl h
noncomputable def zaw:DSt→Dm Fl :=
 (fSeq (fPl (fAsg (fCB xan (fCons (fVar 0) (fCons (fC (.int 0)) fNil))) (hName 1)))
 (fFor (iRng1F (fCons (fCB gLen (fCons (fOp gIxT (fVar 0) (fC (.int 0))) fNil)) fNil)) (hName 2) (fIf (fTest (fOp (gIn true) (fVar 2) (fVar 1))) (fRaiseN "NoFloor" ["word","at"] (fCons (fC (.str "parted")) (fCons (fVar 2) fNil))) (fPl fNext))))
noncomputable def Zar:List D→Dm D:=fnF 3 zaw
noncomputable def Yar:Stmt:=top 14
theorem Zaz:FnScope ["floor","reached","square"] ["floor"] (defScope Yar):=⟨rfl,rfl,rfl,by decide +kernel,rfl,by decide +kernel,by decide +kernel⟩
theorem XaQ {f:Addr} {fd:FuncData} (D:Def K mg "look_parted" Yar ["floor"] f fd) (T:Txt mg)  {cNoFloor cFloorError cNoName cNoRow cNoSlope cNoTable cNoText cTooMany cI:Addr} (Z:XF K mg cNoFloor cFloorError cNoName cNoRow cNoSlope cNoTable cNoText cTooMany cI) {dI:FuncData} (GI:FnOk P w K mg base CX0 1 cI dI ["self","word","at"] (spI2 K "word" "at")) (BI:Binds K dI ["self","word","at"] []) {fsquares_from:Addr} {dsquares_from:FuncData} (Dsquares_from:Def K mg "squares_from" Xan ["floor","s"] fsquares_from dsquares_from) (Gsquares_from:FnOk P w K mg base CX0 1 fsquares_from dsquares_from ["floor","s"] (spF K 2 xan)):FnOk P w K mg base (CXE P w) 3 f fd ["floor"] (spX K 1 Zar):=by
 refine D.F.okX Zaz (fun vs H Q E h=>h.1) (fun cdv A outer s H vs Q E hr h=>?_)
 have hu:=hr.units
 have hu1:=YaD hr
 refine ⟨_,(yab (xaf (i:=1) Zaz.nd rfl (by first | exact Or.inl rfl | exact Or.inr rfl) (Xaf Gsquares_from (hr.mono (by decide)) rfl Dsquares_from.m Dsquares_from.F.kp Dsquares_from.b .nil pass0 (zaa (pv 0) (zaa zac Yaa))))
  (Xac (XaB PassesOwn.leaving rfl (zap rfl T.n_range (zaa (Yaf yad (by rfl) T.n_len Yal (zaa (Xaj Zao (pv 0) zac (fun _ _=>rfl)) Yaa)) Yaa)) (Yak (i:=2) Zaz.nd rfl (by first | exact Or.inl rfl | exact Or.inr rfl)) (Xac (yau (Xae Yax (pv 2) (pv 1) (by with_unfolding_all rfl)) (Xac (ZaM (YaU PySem.F.excBase_ValueError ⟨Z.m_NoFloor,Z.xi_NoFloor,Z.fn_NoFloor,Z.kp_NoFloor⟩ GI (hr.mono (by decide)) rfl BI (zaa XaD (zaa (pv 2) Yaa))))) Xag))))),?_⟩
 exact zbq (b:=zaw) (yaF (zaP (xae (zag (F:=xan) (yaa (Zaa 0) (yaa (yac _) xaa)) (Xab (Xab (fun _ _ _ _ h=>zaf h)))) (Yab 1)))
  (ybq (Yav (yaa (Yag xal (yaa (Yac yan (Zaa 0) (yac _)) xaa)) xaa)) (Yab 2) (Xa4 (Zae (Yac (xaZ true) (Zaa 2) (Zaa 1))) (yaI (yaa (zaE _) (yaa (Zaa 2) xaa)) (Xab (Xab (fun _ _ _ _ h=>zaf h))) Z.n_NoFloor Z.es_NoFloor Z.t_word Z.t_at Z.bx_NoFloor Z.ty_NoFloor (by decide)) (zaP zah)))) rfl h
noncomputable def xay:DSt→Dm Fl :=
 (fSeq (fPl (fAsg (fOp gIxT (fVar 0) (fC (.int 0))) (hName 1)))
 (fSeq (fPl (fAsg (fOp gIxT (fVar 0) (fC (.int 1))) (hName 2)))
 (fSeq (fIf (fOr (fTest (fOp gLt (fCB gLen (fCons (fVar 1) fNil)) (fC (.int 1)))) (fOr (fTest (fOp gGt (fCB gLen (fCons (fVar 1) fNil)) (fC (.int 20)))) (fTest (fOp (gEq true) (fCB gLen (fCons (fVar 2) fNil)) (fCB gLen (fCons (fVar 1) fNil)))))) (fRaiseN "NoFloor" ["word","at"] (fCons (fC (.str "sizes")) (fCons (fCB gLen (fCons (fVar 1) fNil)) fNil))) (fPl fNext))
 (fSeq (fDropX yai (fCons (fVar 1) (fCons (fC (.str "right")) fNil)))
 (fSeq (fDropX yai (fCons (fVar 2) (fCons (fC (.str "up")) fNil)))
 (fSeq (fDropX Zar (fCons (fVar 0) fNil))
 (fPl (fRet (fC (.bl true))))))))))
noncomputable def Zau:List D→Dm D:=fnF 3 xay
noncomputable def Yau:Stmt:=top 12
theorem yaB:FnScope ["floor","right","up"] ["floor"] (defScope Yau):=⟨rfl,rfl,rfl,by decide +kernel,rfl,by decide +kernel,by decide +kernel⟩
theorem XaW {f:Addr} {fd:FuncData} (D:Def K mg "look_floor" Yau ["floor"] f fd) (T:Txt mg) {vMOST_SQUARES:V} (CMOST_SQUARES:Con K mg "MOST_SQUARES" vMOST_SQUARES (.int 20)) {cNoFloor cFloorError cNoName cNoRow cNoSlope cNoTable cNoText cTooMany cI:Addr} (Z:XF K mg cNoFloor cFloorError cNoName cNoRow cNoSlope cNoTable cNoText cTooMany cI) {dI:FuncData} (GI:FnOk P w K mg base CX0 1 cI dI ["self","word","at"] (spI2 K "word" "at")) (BI:Binds K dI ["self","word","at"] []) {flook_turning:Addr} {dlook_turning:FuncData} (Dlook_turning:Def K mg "look_turning" Yan ["numbers","word"] flook_turning dlook_turning) (Glook_turning:FnOk P w K mg base (CXE P w) 3 flook_turning dlook_turning ["numbers","word"] (spX K 2 yai)) {flook_parted:Addr} {dlook_parted:FuncData} (Dlook_parted:Def K mg "look_parted" Yar ["floor"] flook_parted dlook_parted) (Glook_parted:FnOk P w K mg base (CXE P w) 3 flook_parted dlook_parted ["floor"] (spX K 1 Zar)):FnOk P w K mg base (CXE P w) 4 f fd ["floor"] (spX K 1 Zau):=by
 refine D.F.okX yaB (fun vs H Q E h=>h.1) (fun cdv A outer s H vs Q E hr h=>?_)
 have hu:=hr.units
 have hu1:=YaD hr
 refine ⟨_,(yab (xaf (i:=1) yaB.nd rfl (by first | exact Or.inl rfl | exact Or.inr rfl) (Xaj Zao (pv 0) zac (fun _ _=>rfl)))
  (yab (xaf (i:=2) yaB.nd rfl (by first | exact Or.inl rfl | exact Or.inr rfl) (Xaj Zao (pv 0) zac (fun _ _=>rfl)))
  (yab (yau (PW.pt (XaK (Xae xa1 (Yaf yad (by rfl) T.n_len Yal (zaa (pv 1) Yaa)) zac (nomark _)) (XaK (Xae Ybr (Yaf yad (by rfl) T.n_len Yal (zaa (pv 1) Yaa)) (pe_con CMOST_SQUARES rfl rfl (by decide)) (nomark _)) (xaK (Xae op_ne (Yaf yad (by rfl) T.n_len Yal (zaa (pv 2) Yaa)) (Yaf yad (by rfl) T.n_len Yal (zaa (pv 1) Yaa)) (nomark _)))))) (Xac (ZaM (YaU PySem.F.excBase_ValueError ⟨Z.m_NoFloor,Z.xi_NoFloor,Z.fn_NoFloor,Z.kp_NoFloor⟩ GI (hr.mono (by decide)) rfl BI (zaa XaD (zaa (Yaf yad (by rfl) T.n_len Yal (zaa (pv 1) Yaa)) Yaa))))) Xag)
  (yab (xaG (Xaf Glook_turning (hr.mono (by decide)) rfl Dlook_turning.m Dlook_turning.F.kp Dlook_turning.b .nil zbj (zaa (pv 1) (zaa XaD Yaa))))
  (yab (xaG (Xaf Glook_turning (hr.mono (by decide)) rfl Dlook_turning.m Dlook_turning.F.kp Dlook_turning.b .nil zbj (zaa (pv 2) (zaa XaD Yaa))))
  (yab (xaG (Xaf Glook_parted (hr.mono (by decide)) rfl Dlook_parted.m Dlook_parted.F.kp Dlook_parted.b .nil zbj (zaa (pv 0) Yaa)))
  (Xac (Yai ybr)))))))),?_⟩
 exact zbq (b:=xay) (yaF (zaP (xae (Yac yan (Zaa 0) (yac _)) (Yab 1)))
  (yaF (zaP (xae (Yac yan (Zaa 0) (yac _)) (Yab 2)))
  (yaF (Xa4 (yaN (Zae (Yac xa3 (Yag xal (yaa (Zaa 1) xaa)) (yac _))) (yaN (Zae (Yac zbv (Yag xal (yaa (Zaa 1) xaa)) (so_con CMOST_SQUARES))) (Zae (Yac so_ne (Yag xal (yaa (Zaa 2) xaa)) (Yag xal (yaa (Zaa 1) xaa)))))) (yaI (yaa (zaE _) (yaa (Yag xal (yaa (Zaa 1) xaa)) xaa)) (Xab (Xab (fun _ _ _ _ h=>zaf h))) Z.n_NoFloor Z.es_NoFloor Z.t_word Z.t_at Z.bx_NoFloor Z.ty_NoFloor (by decide)) (zaP zah))
  (yaF (ZaW (F:=yai) (yaa (Zaa 1) (yaa (zaE _) xaa)) (Xab (Xab (fun _ _ _ _ h=>zaf h))))
  (yaF (ZaW (F:=yai) (yaa (Zaa 2) (yaa (zaE _) xaa)) (Xab (Xab (fun _ _ _ _ h=>zaf h))))
  (yaF (ZaW (F:=Zar) (yaa (Zaa 0) xaa) (Xab (fun _ _ _ _ h=>zaf h)))
  (zaP (xai (xbu _))))))))) rfl h
noncomputable def yaw:DSt→Dm Fl :=
 (fSeq (fAsg (fC .non) (hName 1))
 (fSeq (fAsg (fC .non) (hName 2))
 (fSeq (fTry (fAsgX Zau (fCons (fVar 0) fNil) 2) (sub1 "NoFloor") 3 (fAsg (fVar 3) (hName 1)))
 (fSeq (fIf (fTest (fOp (gIsN false) (fVar 1) (fC .non))) (fRet (fOp gIxL (fLst (fCons (fTup (fCons (fC (.str "no truth")) (fCons (fC (.int 0)) fNil))) (fCons (fC .non) fNil))) (fCB gInt1 (fCons (fOp (gIsB false) (fVar 2) (fC (.bl true))) fNil)))) fNext)
 (fSeq (fAsg (fIsX (ans1 "NoFloor" false) (fVar 1)) (hName 4))
 (fSeq (fIf (fOr (fNot (fTest (fIsX (ans1 "NoFloor" true) (fVar 1)))) (fOr (fNot (fTest (fIsX (ans1 "NoFloor" true) (fVar 1)))) (fTest (fVar 4)))) (fRet (fTup (fCons (fC (.str "another")) (fCons (fC (.int 0)) fNil)))) fNext)
 (fRet (fTup (fCons (fXGet (sub1 "NoFloor") "word" (fVar 1)) (fCons (fXGet (sub1 "NoFloor") "at" (fVar 1)) fNil))))))))))
noncomputable def zal:List D→Dm D:=fnF 5 yaw
noncomputable def xar:Stmt:=top 23
theorem Zai:FnScope ["_law_floor_here","_law_fault","_law_found","e","_law_others"] ["_law_floor_here"] (defScope xar):=⟨rfl,rfl,rfl,by decide +kernel,rfl,by decide +kernel,by decide +kernel⟩
theorem zaR {f:Addr} {fd:FuncData} (D:Def K mg "_law_looked" xar ["_law_floor_here"] f fd) (T:Txt mg)  {cNoFloor cFloorError cNoName cNoRow cNoSlope cNoTable cNoText cTooMany cI:Addr} (Z:XF K mg cNoFloor cFloorError cNoName cNoRow cNoSlope cNoTable cNoText cTooMany cI) {flook_floor:Addr} {dlook_floor:FuncData} (Dlook_floor:Def K mg "look_floor" Yau ["floor"] flook_floor dlook_floor) (Glook_floor:FnOk P w K mg base (CXE P w) 4 flook_floor dlook_floor ["floor"] (spX K 1 Zau)):FnOk P w K mg base CX0 5 f fd ["_law_floor_here"] (spF K 1 zal):=by
 refine D.F.ok Zai (fun vs H Q E h=>h.1) (fun cdv A outer s H vs Q E hr h=>?_)
 have hu:=hr.units
 have hu1:=YaD hr
 refine ⟨_,(yab (xaf (i:=1) Zai.nd rfl (by first | exact Or.inl rfl | exact Or.inr rfl) ZaI)
  (yab (xaf (i:=2) Zai.nd rfl (by first | exact Or.inl rfl | exact Or.inr rfl) ZaI)
  (yab (ps_try (i:=3) (F:=cFloorError) ⟨Z.m_FloorError,Z.x_FloorError⟩ (by decide) rfl Zai.nd rfl rfl (fun pins W=>(Xac (xaf (i:=2) Zai.nd rfl (by first | exact Or.inl rfl | exact Or.inr rfl) (zbt Glook_floor (hr.mono (by decide)) rfl Dlook_floor.m Dlook_floor.F.kp Dlook_floor.b (zaa (pv 0) Yaa))))) (fun a=>(Xac (xaf (i:=1) Zai.nd rfl (by first | exact Or.inl rfl | exact Or.inr rfl) (pv 3)))))
  (yab (yau (Xae ybL (pv 1) ZaI (nomark _)) (Xac (Yai (Xaj xak (Zap (zaa (zak (zaa XaD (zaa zac Yaa))) (zaa ZaI Yaa))) (Xad YaX (by rfl) T.n_int zbB (zaa (ybg op_isB (pv 2) ybr (nomark _)) Yaa)) (fun _ _=>rfl)))) Xag)
  (yab (xaf (i:=4) Zai.nd rfl (by first | exact Or.inl rfl | exact Or.inr rfl) (Yaf ZaU (by rfl) T.n_isinstance Xaz (zaa (pv 1) (zaa (zak (zaa (zaJ (ClsN.own Z.m_NoName) rfl) (zaa (zaJ (ClsN.own Z.m_NoRow) rfl) (zaa (zaJ (ClsN.own Z.m_NoSlope) rfl) (zaa (zaJ (ClsN.own Z.m_NoTable) rfl) (zaa (zaJ (ClsN.own Z.m_NoText) rfl) (zaa (zaJ (ClsN.own Z.m_TooMany) rfl) Yaa))))))) Yaa))))
  (yab (yau (PW.pt (XaK (Ybe (Zbe (Yaf ZaU (by rfl) T.n_isinstance Xaz (zaa (pv 1) (zaa (zaJ (ClsN.own Z.m_NoFloor) rfl) Yaa))))) (XaK (Ybe (Zbe (Yaf ZaU (by rfl) T.n_isinstance Xaz (zaa (pv 1) (zaa (zaJ (ClsN.blt T.n_ValueError yaW (by decide)) rfl) Yaa))))) (xaK (Zbe (pv 4)))))) (Xac (Yai (zak (zaa XaD (zaa zac Yaa))))) Xag)
  (Xac (Yai (zak (zaa (Ybk (pv 1) rfl) (zaa (Ybk (pv 1) rfl) Yaa))))))))))),?_⟩
 exact xaH (b:=yaw) (Yad (xae yaJ (Yab 1))
  (Yad (xae yaJ (Yab 2))
  (Yad (so_try (YbL (F:=Zau) (yaa (Zaa 0) xaa) (Xab (fun _ _ _ _ h=>zaf h))) (xae (Zaa 3) (Yab 1)) (xbL Z.n_NoFloor Z.s_FloorError))
  (Yad (zam (Zae (Yac (zbp false) (Zaa 1) yaJ)) (xai (Yac yaq (Xap (yaa (yal (yaa (zaE _) (yaa (yac _) xaa))) (yaa yaJ xaa))) (Yag zbm (yaa (Yac (so_isB false) (Zaa 2) (xbu _)) xaa)))) zah)
  (Yad (xae (so_isT (Zaa 1) (fun _ _ _ q=>q) (by show 6≤sizeLine;decide) rfl (za5 (R:=fun C b=>ExI K C∧PySem.W.kitAny K (.ref C) _=some b) Z.n_NoFloor ⟨Z.i_NoFloor,Z.k0⟩)) (Yab 4))
  (Yad (zam (yaN (zbl (XbG (XbC (Zaa 1) rfl (za5 (R:=fun C b=>ExI K C∧PySem.W.kitOne K (.ref C) _=some b) Z.n_NoFloor ⟨Z.i_NoFloor,Z.k1⟩)))) (yaN (zbl (XbG (XbC (Zaa 1) rfl (za5 (R:=fun C b=>ExI K C∧PySem.W.kitOne K (.ref C) _=some b) Z.n_NoFloor ⟨Z.i_NoFloor,Z.k2⟩)))) (XbG (Zaa 4)))) (xai (yal (yaa (zaE _) (yaa (yac _) xaa)))) zah)
  (xai (yal (yaa (Zbq (Zaa 1) (ya9 (R:=fun C=>ExI K C∧PySem.W.findIn K (.ref C) "word" = some none) Z.n_NoFloor ⟨Z.i_NoFloor,Z.f_word⟩)) (yaa (Zbq (Zaa 1) (ya9 (R:=fun C=>ExI K C∧PySem.W.findIn K (.ref C) "at" = some none) Z.n_NoFloor ⟨Z.i_NoFloor,Z.f_at⟩)) xaa)))))))))) rfl h
noncomputable def Xay:DSt→Dm Fl :=
 (fSeq (fFor (iRng1F (fCons (fCB gLen (fCons (fVar 0) fNil)) fNil)) (hName 1) (fIf (fOr (fNot (fTest (fChain gLe gLt (fC (.int 0)) (fOp gIxT (fVar 0) (fVar 1)) (fCB gLen (fCons (fVar 0) fNil))))) (fTest (fOp (gIn false) (fOp gIxT (fVar 0) (fVar 1)) (fSl gSlT (fVar 0) fNoPart (fPart (fVar 1)))))) (fRet (fVar 1)) fNext))
 (fRet (fC .non)))
noncomputable def Zam:List D→Dm D:=fnF 2 Xay
noncomputable def xau:Stmt:=top 21
theorem ZaG:FnScope ["_law_numbers","_law_k"] ["_law_numbers"] (defScope xau):=⟨rfl,rfl,rfl,by decide +kernel,rfl,by decide +kernel,by decide +kernel⟩
theorem zaX {f:Addr} {fd:FuncData} (D:Def K mg "_law_amiss" xau ["_law_numbers"] f fd) (T:Txt mg)  :FnOk P w K mg base CX0 1 f fd ["_law_numbers"] (spF K 1 Zam):=by
 refine D.F.ok ZaG (fun vs H Q E h=>h.1) (fun cdv A outer s H vs Q E hr h=>?_)
 have hu:=hr.units
 have hu1:=YaD hr
 refine ⟨_,(yab (XaB PassesOwn.never rfl (zap rfl T.n_range (zaa (Yaf yad (by rfl) T.n_len Yal (zaa (pv 0) Yaa)) Yaa)) (Yak (i:=1) ZaG.nd rfl (by first | exact Or.inl rfl | exact Or.inr rfl)) (Xac (yau (PW.pt (XaK (Ybe (xbr op_le xa1 zac (Xaj Zao (pv 0) (pv 1) (fun _ _=>rfl)) (Yaf yad (by rfl) T.n_len Yal (zaa (pv 0) Yaa)))) (xaK (Xae YaY (Xaj Zao (pv 0) (pv 1) (fun _ _=>rfl)) (Xam zaz (pv 0) Zas (Yas (pv 1))) (by with_unfolding_all rfl))))) (Xac (Yai (pv 1))) Xag)))
  (Xac (Yai ZaI))),?_⟩
 exact xaH (b:=Xay) (Yad (yaG (Yav (yaa (Yag xal (yaa (Zaa 0) xaa)) xaa)) (Yab 1) (zam (yaN (zbl (Zae (Zbz so_le xa3 (yac _) (Yac yan (Zaa 0) (Zaa 1)) (Yag xal (yaa (Zaa 0) xaa))))) (Zae (Yac (xaZ false) (Yac yan (Zaa 0) (Zaa 1)) (ZaH yaE (Zaa 0) Xai (zat (Zaa 1)))))) (xai (Zaa 1)) zah))
  (xai yaJ)) rfl h
noncomputable def Xar:DSt→Dm Fl :=
 (fSeq (fAsg (fCB gLen (fCons (fOp gIxT (fVar 0) (fC (.int 0))) fNil)) (hName 1))
 (fSeq (fIf (fOr (fTest (fOp gLt (fVar 1) (fC (.int 1)))) (fOr (fTest (fOp gGt (fVar 1) (fC (.int 20)))) (fTest (fOp (gEq true) (fCB gLen (fCons (fOp gIxT (fVar 0) (fC (.int 1))) fNil)) (fVar 1))))) (fRet (fTup (fCons (fC (.str "sizes")) (fCons (fVar 1) fNil)))) fNext)
 (fSeq (fFor (iZipLF (fCons (fLst (fCons (fC (.str "right")) (fCons (fC (.str "up")) fNil))) (fCons (fVar 0) fNil))) (hTup 2 (hCons (hName 2) (hCons (hName 3) hNil))) (fIf (fTest (fOp (gIsN true) (fCB Zam (fCons (fVar 3) fNil)) (fC .non))) (fRet (fTup (fCons (fVar 2) (fCons (fCB Zam (fCons (fVar 3) fNil)) fNil)))) fNext))
 (fSeq (fAsg (fCB Zaj (fCons (fVar 0) fNil)) (hName 4))
 (fSeq (fAsg (fComp (iRng1F (fCons (fVar 1) fNil)) 1 [4] (hName 0) (fTest (fOp (gIn true) (fVar 0) (fVar 1))) (fVar 0)) (hName 5))
 (fRet (fOp gIxL (fLst (fCons (fC .non) (fCons (fTup (fCons (fC (.str "parted")) (fCons (fOp gIxL (fOp gCat (fVar 5) (fLst (fCons (fC (.int 0)) fNil))) (fC (.int 0))) fNil))) fNil))) (fCB gInt1 (fCons (fOp (gEqD true) (fVar 5) (fLst fNil)) fNil)))))))))
noncomputable def Yam:List D→Dm D:=fnF 6 Xar
noncomputable def xam:Stmt:=top 22
theorem xah:FnScope ["_law_floor_here","_law_many","_law_word","_law_numbers","_law_met_here","_law_apart"] ["_law_floor_here"] (defScope xam):=⟨rfl,rfl,rfl,by decide +kernel,rfl,by decide +kernel,by decide +kernel⟩
theorem zaK {f:Addr} {fd:FuncData} (D:Def K mg "_law_look_due" xam ["_law_floor_here"] f fd) (T:Txt mg)  {f_law_met:Addr} {d_law_met:FuncData} (D_law_met:Def K mg "_law_met" Zaw ["_law_floor_here"] f_law_met d_law_met) (G_law_met:FnOk P w K mg base CX0 1 f_law_met d_law_met ["_law_floor_here"] (spF K 1 Zaj)) {f_law_amiss:Addr} {d_law_amiss:FuncData} (D_law_amiss:Def K mg "_law_amiss" xau ["_law_numbers"] f_law_amiss d_law_amiss) (G_law_amiss:FnOk P w K mg base CX0 1 f_law_amiss d_law_amiss ["_law_numbers"] (spF K 1 Zam)):FnOk P w K mg base CX0 2 f fd ["_law_floor_here"] (spF K 1 Yam):=by
 refine D.F.ok xah (fun vs H Q E h=>h.1) (fun cdv A outer s H vs Q E hr h=>?_)
 have hu:=hr.units
 have hu1:=YaD hr
 refine ⟨_,(yab (xaf (i:=1) xah.nd rfl (by first | exact Or.inl rfl | exact Or.inr rfl) (Yaf yad (by rfl) T.n_len Yal (zaa (Xaj Zao (pv 0) zac (fun _ _=>rfl)) Yaa)))
  (yab (yau (PW.pt (XaK (Xae xa1 (pv 1) zac (nomark _)) (XaK (Xae Ybr (pv 1) zac (nomark _)) (xaK (Xae op_ne (Yaf yad (by rfl) T.n_len Yal (zaa (Xaj Zao (pv 0) zac (fun _ _=>rfl)) Yaa)) (pv 1) (nomark _)))))) (Xac (Yai (zak (zaa XaD (zaa (pv 1) Yaa))))) Xag)
  (yab (XaB PassesOwn.never rfl (pi_zip rfl T.n_zip (zaa (Zap (zaa XaD (zaa XaD Yaa))) (zaa (pv 0) Yaa))) (ZaX (n:=2) rfl (Zat (Yak (i:=2) xah.nd rfl (by first | exact Or.inl rfl | exact Or.inr rfl)) (Zat (Yak (i:=3) xah.nd rfl (by first | exact Or.inl rfl | exact Or.inr rfl)) zaL))) (Xac (yau (Xae Za0 (Xaf G_law_amiss (hr.mono (by decide)) rfl D_law_amiss.m D_law_amiss.F.kp D_law_amiss.b .nil pass0 (zaa (pv 3) Yaa)) ZaI (nomark _)) (Xac (Yai (zak (zaa (pv 2) (zaa (Xaf G_law_amiss (hr.mono (by decide)) rfl D_law_amiss.m D_law_amiss.F.kp D_law_amiss.b .nil pass0 (zaa (pv 3) Yaa)) Yaa))))) Xag)))
  (yab (xaf (i:=4) xah.nd rfl (by first | exact Or.inl rfl | exact Or.inr rfl) (Xaf G_law_met (hr.mono (by decide)) rfl D_law_met.m D_law_met.F.kp D_law_met.b .nil pass0 (zaa (pv 0) Yaa)))
  (yab (za3 (i:=5) (own:=["_law_s"]) (fr:=["_law_met_here"]) (js:=[4]) rfl xah.nd rfl rfl ⟨⟨rfl,by decide +kernel,by decide +kernel,by dsimp only [cxOf,cxComp,Cx.nox,Cx.wish,PyProof.Rows.envOfC,compEnvC,relabel,Env.kindOf];decide +kernel,by decide +kernel⟩,rfl⟩ (zap rfl T.n_range (zaa (pv 1) Yaa)) (fun _ _ _ _ _=>(Yak (i:=0) (show ((["_law_s"]:List Str) ++ (["_law_met_here"]:List Str)).Nodup by decide +kernel) rfl (by first | exact Or.inl rfl | exact Or.inr rfl))) (fun _ _ _ _ _=>(Xbh (Xae (yaA (K:=K) rfl) (pv 0) (pv 1) (by with_unfolding_all rfl)))) (fun _ _ _ _ _=>(pv 0)))
  (Xac (Yai (Xaj xak (Zap (zaa ZaI (zaa (zak (zaa XaD (zaa (Xaj xak (Zag xaF (pv 5) (Zap (zaa zac Yaa))) zac (fun _ _=>rfl)) Yaa))) Yaa))) (Xad YaX (by rfl) T.n_int zbB (zaa (ybg (ya6 hu) (pv 5) (Zap Yaa) (nomark _)) Yaa)) (fun _ _=>rfl))))))))),?_⟩
 exact xaH (b:=Xar) (Yad (xae (Yag xal (yaa (Yac yan (Zaa 0) (yac _)) xaa)) (Yab 1))
  (Yad (zam (yaN (Zae (Yac xa3 (Zaa 1) (yac _))) (yaN (Zae (Yac zbv (Zaa 1) (yac _))) (Zae (Yac so_ne (Yag xal (yaa (Yac yan (Zaa 0) (yac _)) xaa)) (Zaa 1))))) (xai (yal (yaa (zaE _) (yaa (Zaa 1) xaa)))) zah)
  (Yad (yaG (Yby (yaa (Xap (yaa (zaE _) (yaa (zaE _) xaa))) (yaa (Zaa 0) xaa))) (yaO (Yat (Yab 2) (Yat (Yab 3) zaO))) (zam (Zae (Yac (zbp true) (zag (F:=Zam) (yaa (Zaa 3) xaa) (Xab (fun _ _ _ _ h=>zaf h))) yaJ)) (xai (yal (yaa (Zaa 2) (yaa (zag (F:=Zam) (yaa (Zaa 3) xaa) (Xab (fun _ _ _ _ h=>zaf h))) xaa)))) zah))
  (Yad (xae (zag (F:=Zaj) (yaa (Zaa 0) xaa) (Xab (fun _ _ _ _ h=>zaf h))) (Yab 4))
  (Yad (xae (ZaO (Yav (yaa (Zaa 1) xaa)) (Yab 0) (Zae (Yac (xaZ true) (Zaa 0) (Zaa 1))) (Zaa 0)) (Yab 5))
  (xai (Yac yaq (Xap (yaa yaJ (yaa (yal (yaa (zaE _) (yaa (Yac yaq (Yac zaG (Zaa 5) (Xap (yaa (yac _) xaa))) (yac _)) xaa))) xaa))) (Yag zbm (yaa (Yac (Ya7 true) (Zaa 5) (Xap xaa)) xaa))))))))) rfl h
noncomputable def xbz:DSt→Dm Fl :=
 (fSeq (fAsg (fLst fNil) (hName 1))
 (fSeq (fFor (iRng1F (fCons (fCB gMax2 (fCons (fC (.int 1)) (fCons (fCB gLen (fCons (fSl gSlL (fVar 0) fNoPart (fPart (fC (.int 6)))) fNil)) fNil))) fNil)) (hName 2) (fSeq (fAsg (fCB xaw (fCons (fVar 0) (fCons (fVar 2) fNil))) (hName 3))
 (fSeq (fAsg (fOp gAdd (fC (.int 1)) (fCB xac (fCons (fVar 3) (fCons (fC (.int 3)) fNil)))) (hName 4))
 (fSeq (fAsg (fCB yak (fCons (fVar 3) (fCons (fOp gAdd (fC (.int 1)) (fCB xac (fCons (fVar 3) (fCons (fOp gIxL (fLst (fCons (fC (.int 4)) (fCons (fC (.int 20)) fNil))) (fCB xac (fCons (fVar 3) (fCons (fC (.int 2)) fNil)))) fNil)))) fNil))) (hName 5))
 (fSeq (fAsg (fVar 5) (hName 6))
 (fSeq (fFor (iRng1F (fCons (fVar 4) fNil)) (hName 7) (fAsg (fCB zar (fCons (fVar 3) (fCons (fVar 6) fNil))) (hName 6)))
 (fDrop (fBM "list" gAppend (fVar 1) (fCons (fTup (fCons (fVar 5) (fCons (fVar 6) fNil))) fNil)))))))))
 (fSeq (fFor (iListF (fOp gCat (fVar 1) (fSl gSlL (fVar 1) fNoPart (fPart (fC (.int 1)))))) (hTup 2 (hCons (hName 5) (hCons (hName 6) hNil))) (fIf (fOr (fTest (fOp (gEqD true) (fCB zal (fCons (fVar 6) fNil)) (fCB Yam (fCons (fVar 6) fNil)))) (fTest (fOp (gIsN true) (fCB zal (fCons (fVar 5) fNil)) (fC .non)))) (fRet (fC (.bl false))) fNext))
 (fRet (fC (.bl true))))))
noncomputable def ZbM:List D→Dm D:=fnF 8 xbz
noncomputable def Xbz:Stmt:=top 27
theorem xaC:FnScope ["_law_script","_law_asked","_law_k","_law_feed_here","_law_turns","_law_good","_law_other","_law_turn"] ["_law_script"] (defScope Xbz):=⟨rfl,rfl,rfl,by decide +kernel,rfl,by decide +kernel,by decide +kernel⟩
theorem ok_law {f:Addr} {fd:FuncData} (D:Def K mg "law" Xbz ["_law_script"] f fd) (T:Txt mg)  {f_law_feed:Addr} {d_law_feed:FuncData} (D_law_feed:Def K mg "_law_feed" Xaw ["_law_script","_law_k"] f_law_feed d_law_feed) (G_law_feed:FnOk P w K mg base CX0 1 f_law_feed d_law_feed ["_law_script","_law_k"] (spF K 2 xaw)) {f_law_floor:Addr} {d_law_floor:FuncData} (D_law_floor:Def K mg "_law_floor" xao ["_law_feed_here","_law_n"] f_law_floor d_law_floor) (G_law_floor:FnOk P w K mg base CX0 3 f_law_floor d_law_floor ["_law_feed_here","_law_n"] (spF K 2 yak)) {f_law_take:Addr} {d_law_take:FuncData} (D_law_take:Def K mg "_law_take" Xak ["_law_feed_here","_law_many"] f_law_take d_law_take) (G_law_take:FnOk P w K mg base CX0 1 f_law_take d_law_take ["_law_feed_here","_law_many"] (spF K 2 xac)) {f_law_spoilt:Addr} {d_law_spoilt:FuncData} (D_law_spoilt:Def K mg "_law_spoilt" yar ["_law_feed_here","_law_floor_here"] f_law_spoilt d_law_spoilt) (G_law_spoilt:FnOk P w K mg base CX0 4 f_law_spoilt d_law_spoilt ["_law_feed_here","_law_floor_here"] (spF K 2 zar)) {f_law_looked:Addr} {d_law_looked:FuncData} (D_law_looked:Def K mg "_law_looked" xar ["_law_floor_here"] f_law_looked d_law_looked) (G_law_looked:FnOk P w K mg base CX0 5 f_law_looked d_law_looked ["_law_floor_here"] (spF K 1 zal)) {f_law_look_due:Addr} {d_law_look_due:FuncData} (D_law_look_due:Def K mg "_law_look_due" xam ["_law_floor_here"] f_law_look_due d_law_look_due) (G_law_look_due:FnOk P w K mg base CX0 2 f_law_look_due d_law_look_due ["_law_floor_here"] (spF K 1 Yam)):FnOk P w K mg base CX0 6 f fd ["_law_script"] (spF K 1 ZbM):=by
 refine D.F.ok xaC (fun vs H Q E h=>h.1) (fun cdv A outer s H vs Q E hr h=>?_)
 have hu:=hr.units
 have hu1:=YaD hr
 refine ⟨_,(yab (xaf (i:=1) xaC.nd rfl (by first | exact Or.inl rfl | exact Or.inr rfl) (Zap Yaa))
  (yab (XaB PassesOwn.never rfl (zap rfl T.n_range (zaa (Yaf (Zbg rfl) (by rfl) T.n_max bt_max (zaa zac (zaa (Yaf yad (by rfl) T.n_len Yal (zaa (Xam ya2 (pv 0) Zas (Yas zac)) Yaa)) Yaa))) Yaa)) (Yak (i:=2) xaC.nd rfl (by first | exact Or.inl rfl | exact Or.inr rfl)) (yab (xaf (i:=3) xaC.nd rfl (by first | exact Or.inl rfl | exact Or.inr rfl) (Xaf G_law_feed (hr.mono (by decide)) rfl D_law_feed.m D_law_feed.F.kp D_law_feed.b .nil pass0 (zaa (pv 0) (zaa (pv 2) Yaa))))
  (yab (xaf (i:=4) xaC.nd rfl (by first | exact Or.inl rfl | exact Or.inr rfl) (Zag yap zac (Xaf G_law_take (hr.mono (by decide)) rfl D_law_take.m D_law_take.F.kp D_law_take.b .nil pass0 (zaa (pv 3) (zaa zac Yaa)))))
  (yab (xaf (i:=5) xaC.nd rfl (by first | exact Or.inl rfl | exact Or.inr rfl) (Xaf G_law_floor (hr.mono (by decide)) rfl D_law_floor.m D_law_floor.F.kp D_law_floor.b .nil pass0 (zaa (pv 3) (zaa (Zag yap zac (Xaf G_law_take (hr.mono (by decide)) rfl D_law_take.m D_law_take.F.kp D_law_take.b .nil pass0 (zaa (pv 3) (zaa (Xaj xak (Zap (zaa zac (zaa zac Yaa))) (Xaf G_law_take (hr.mono (by decide)) rfl D_law_take.m D_law_take.F.kp D_law_take.b .nil pass0 (zaa (pv 3) (zaa zac Yaa))) (fun _ _=>rfl)) Yaa)))) Yaa))))
  (yab (xaf (i:=6) xaC.nd rfl (by first | exact Or.inl rfl | exact Or.inr rfl) (pv 5))
  (yab (XaB PassesOwn.never rfl (zap rfl T.n_range (zaa (pv 4) Yaa)) (Yak (i:=7) xaC.nd rfl (by first | exact Or.inl rfl | exact Or.inr rfl)) (Xac (xaf (i:=6) xaC.nd rfl (by first | exact Or.inl rfl | exact Or.inr rfl) (Xaf G_law_spoilt (hr.mono (by decide)) rfl D_law_spoilt.m D_law_spoilt.F.kp D_law_spoilt.b .nil pass0 (zaa (pv 3) (zaa (pv 6) Yaa))))))
  (Xac (xaG (zbs PySem.F.plainAttrs_list PySem.F.slot_list_append PySem.F.type_list_append XaL (pv 1) (zaa (zak (zaa (pv 5) (zaa (pv 6) Yaa))) Yaa))))))))))
  (yab (XaB PassesOwn.never rfl (Xbe (Zag xaF (pv 1) (Xam ya2 (pv 1) Zas (Yas zac)))) (ZaX (n:=2) rfl (Zat (Yak (i:=5) xaC.nd rfl (by first | exact Or.inl rfl | exact Or.inr rfl)) (Zat (Yak (i:=6) xaC.nd rfl (by first | exact Or.inl rfl | exact Or.inr rfl)) zaL))) (Xac (yau (PW.pt (XaK (Xae (ya6 hu) (Xaf G_law_looked (hr.mono (by decide)) rfl D_law_looked.m D_law_looked.F.kp D_law_looked.b .nil pass0 (zaa (pv 6) Yaa)) (Xaf G_law_look_due (hr.mono (by decide)) rfl D_law_look_due.m D_law_look_due.F.kp D_law_look_due.b .nil pass0 (zaa (pv 6) Yaa)) (nomark _)) (xaK (Xae Za0 (Xaf G_law_looked (hr.mono (by decide)) rfl D_law_looked.m D_law_looked.F.kp D_law_looked.b .nil pass0 (zaa (pv 5) Yaa)) ZaI (nomark _))))) (Xac (Yai ybr)) Xag)))
  (Xac (Yai ybr))))),?_⟩
 exact xaH (b:=xbz) (Yad (xae (Xap xaa) (Yab 1))
  (Yad (yaG (Yav (yaa (Yag zbH (yaa (yac _) (yaa (Yag xal (yaa (ZaH xbl (Zaa 0) Xai (zat (yac _))) xaa)) xaa))) xaa)) (Yab 2) (Yad (xae (zag (F:=xaw) (yaa (Zaa 0) (yaa (Zaa 2) xaa)) (Xab (Xab (fun _ _ _ _ h=>zaf h)))) (Yab 3))
  (Yad (xae (Yac zaq (yac _) (zag (F:=xac) (yaa (Zaa 3) (yaa (yac _) xaa)) (Xab (Xab (fun _ _ _ _ h=>zaf h))))) (Yab 4))
  (Yad (xae (zag (F:=yak) (yaa (Zaa 3) (yaa (Yac zaq (yac _) (zag (F:=xac) (yaa (Zaa 3) (yaa (Yac yaq (Xap (yaa (yac _) (yaa (yac _) xaa))) (zag (F:=xac) (yaa (Zaa 3) (yaa (yac _) xaa)) (Xab (Xab (fun _ _ _ _ h=>zaf h))))) xaa)) (Xab (Xab (fun _ _ _ _ h=>zaf h))))) xaa)) (Xab (Xab (fun _ _ _ _ h=>zaf h)))) (Yab 5))
  (Yad (xae (Zaa 5) (Yab 6))
  (Yad (yaG (Yav (yaa (Zaa 4) xaa)) (Yab 7) (xae (zag (F:=zar) (yaa (Zaa 3) (yaa (Zaa 6) xaa)) (Xab (Xab (fun _ _ _ _ h=>zaf h)))) (Yab 6)))
  (Xa3 (ybv XaN (Zaa 1) (yaa (yal (yaa (Zaa 5) (yaa (Zaa 6) xaa))) xaa)))))))))
  (Yad (yaG (za8 (Yac zaG (Zaa 1) (ZaH xbl (Zaa 1) Xai (zat (yac _))))) (yaO (Yat (Yab 5) (Yat (Yab 6) zaO))) (zam (yaN (Zae (Yac (Ya7 true) (zag (F:=zal) (yaa (Zaa 6) xaa) (Xab (fun _ _ _ _ h=>zaf h))) (zag (F:=Yam) (yaa (Zaa 6) xaa) (Xab (fun _ _ _ _ h=>zaf h))))) (Zae (Yac (zbp true) (zag (F:=zal) (yaa (Zaa 5) xaa) (Xab (fun _ _ _ _ h=>zaf h))) yaJ))) (xai (xbu _)) zah))
  (xai (xbu _))))) rfl h
end
theorem xaj {st:Store} {f:Nat} {n:Int} (hf:FeedIs st f) (h0:0 < n) (h1:n < 1073741824):Wp (xac [.ref f,.int n] st) fun d st'=>∃ k:Int,d=.int k∧0≤k∧k < n∧FeedIs st' f∧Ex [f] st st':=by
 obtain ⟨o,m,e,o0,m0,m1⟩:=hf
 have hfl:=xad e
 refine xaD ?_
 show Ws (XaA [some (.ref f),some (.int n),none,none] st) _ _ _ _
 unfold XaA
 refine zad (zas ?_)
 set_option simprocs false in simp only [wpB,Zad e,zan e]
 refine ⟨fun ho=>?_,fun ho=>?_⟩
 ·refine zad (yaf ?_)
  set_option simprocs false in simp only [wpB,Zad e]
  refine ⟨h0,zad (za0 ?_)⟩
  set_option simprocs false in simp only [wpB,Zad e,zan e,(show ixN [D.int o,D.int m].length 0=some 0 from ix2_0)]
  refine ⟨⟨h0,h1⟩,zaj ?_⟩
  set_option simprocs false in simp only [wpB]
  refine ⟨Int.emod_nonneg _ (by omega),Int.emod_lt_of_pos _ h0,⟨o / n,m,?_,Int.ediv_nonneg o0 (by omega),m0,m1⟩,Ex.refl.put (by simp)⟩
  rw [List.getElem?_set_self hfl]
 ·refine xag (zad (yaf ?_))
  set_option simprocs false in simp only [wpB,Zad e]
  refine ⟨by omega,by omega,zad (za0 ?_)⟩
  set_option simprocs false in simp only [wpB,Zad e,zan e,(show ixN [D.int o,D.int m].length 1=some 1 from ix2_1)]
  refine ⟨by omega,by omega,zaj ?_⟩
  have e2:(st.set f (.lst [.int o,.int ((m * 48271 % 2147483647 * 40692 + 30103) % 2147483399 + 1)]))[f]?=some (.lst [.int o,.int ((m * 48271 % 2147483647 * 40692 + 30103) % 2147483399 + 1)]):=List.getElem?_set_self hfl
  set_option simprocs false in simp only [wpB,Zad e2]
  refine ⟨by omega,by omega,h0,Int.emod_nonneg _ (by omega),Int.emod_lt_of_pos _ h0,⟨_,_,e2,o0,by omega,by omega⟩,Ex.refl.put (by simp)⟩
theorem xbq {st:Store} {a:Nat} {ns:List Int} {k:Nat} (hs:items st a=some (ns.map D.int)) (hk:k≤100):Wp (xaw [.ref a,.int (k:Int)] st) fun d st'=>d=.ref st.length∧FeedIs st' st.length∧Ex [] st st':=by
 refine xaD ?_
 show Ws (xaA [some (.ref a),some (.int (k:Int)),none,none] st) _ _ _ _
 unfold xaA
 refine zad (yaf ?_)
 set_option simprocs false in simp only [wpB]
 refine ⟨by omega,zad (YaO (N:=fun δ st1=>st1=st∧∃ c:Int,δ=[some (.ref a),some (.int (k:Int)),some (.int c),none]) (zas ?_) ?_)⟩
 ·set_option simprocs false in simp only [wpB,hs]
  refine ⟨fun h=>yaf ?_,fun h=>zas ?_⟩
  ·have h:=of_decide_eq_true h
   rw [List.length_map] at h
   set_option simprocs false in simp only [wpB,hs]
   refine ⟨.int (ns[k]'(by omega)),YaL (by rw [List.getElem?_map,List.getElem?_eq_getElem];rfl),_,rfl⟩
  ·set_option simprocs false in simp only [wpB,hs]
   refine ⟨fun h=>yaf ?_,fun h=>xag ⟨rfl,_,rfl⟩⟩
   have h:=of_decide_eq_true h
   obtain ⟨v,hv,hm⟩:=atI_lt (xs:=ns.map D.int) (i:=(k:Int) % ((ns.map D.int).length:Int)) (Int.emod_nonneg _ (by omega)) (Int.emod_lt_of_pos _ h)
   obtain ⟨c,_,rfl⟩:=List.mem_map.mp hm
   set_option simprocs false in simp only [wpB,hs]
   refine ⟨h,_,hv,?_⟩
   set_option simprocs false in simp only [wpB]
   exact ⟨by omega,by omega,by omega,_,rfl⟩
 ·rintro δ st1 ⟨rfl,c,rfl⟩
  refine zad (yaf ?_)
  set_option simprocs false in simp only [wpB]
  refine zad (YaO (N:=fun δ st2=>st2=st1∧∃ o:Int,0≤o∧δ=[some (.ref a),some (.int (k:Int)),some (.int c),some (.int o)]) (zas ?_) ?_)
  ·set_option simprocs false in simp only [wpB]
   refine ⟨by decide,fun h=>yaf ?_,fun h=>xag ⟨rfl,0,by decide,rfl⟩⟩
   have h:=of_decide_eq_true h
   set_option simprocs false in simp only [wpB]
   exact ⟨c,Int.le_trans (by decide) h,rfl⟩
  ·rintro δ st2 ⟨rfl,o,o0,rfl⟩
   refine zaj ?_
   set_option simprocs false in simp only [wpB]
   have h1:0≤c % 2147483629:=Int.emod_nonneg _ (by decide)
   have h2:c % 2147483629 < 2147483629:=Int.emod_lt_of_pos _ (by decide)
   refine ⟨by omega,by omega,by omega,by omega,by omega,by rfl,⟨_,_,yah,o0,?_,?_⟩,Ex.app0 _⟩
   ·have:=Int.emod_nonneg ((c % 2147483629 * 48271 + 40692 * (k:Int)) ^ (5:Int).toNat) (show (2147483629:Int)≠0 by decide)
    omega
   ·have:=Int.emod_lt_of_pos ((c % 2147483629 * 48271 + 40692 * (k:Int)) ^ (5:Int).toNat) (show (0:Int) < 2147483629 by decide)
    omega
theorem XaJ {st:Store} {f:Nat} {n:Nat} (hf:FeedIs st f) (hn:n≤100):Wp (zai [.ref f,.int (n:Int)] st) fun d st'=>∃ xs:List Int,d=.tup (xs.map D.int)∧Mth.Tn n xs∧FeedIs st' f∧Ex [f] st st':=by
 have hfl:=hf.lt
 refine xaD ?_
 show Ws (xat [some (.ref f),some (.int (n:Int)),none,none] st) _ _ _ _
 unfold xat
 refine zad (yaf ?_)
 set_option simprocs false in simp only [wpB]
 have e1:((n:Int) - 0).toNat=n:=by omega
 rw [e1,zaF]
 refine ⟨by unfold okR;rw [Bool.and_eq_true,decide_eq_true_eq];exact ⟨by omega,yam (by omega)⟩,zad (yaf ?_)⟩
 set_option simprocs false in simp only [wpB]
 refine ⟨rfl,zad (xaV (fun m δ st2=>∃ L xs:List Int,m=L.length∧δ=[some (.ref f),some (.int (n:Int)),some (.ref (st ++ [O.rng 0 (n:Int)]).length),some (.tup (xs.map D.int))]∧st2[(st ++ [O.rng 0 (n:Int)]).length]?=some (.lst (L.map D.int))∧(xs ++ L).Perm (Mth.upto n)∧FeedIs st2 f∧Ex [f] st st2) n (Nat.lt_of_le_of_lt hn (by decide)) ⟨Mth.upto n,[],(Mth.zao n).symm,rfl,yah,List.Perm.refl _,hf.keep ((Ex.app0 _).app _),(Ex.app0 _).app _⟩ ?_)⟩
 have hl:(st ++ [O.rng 0 (n:Int)]).length≠f:=by rw [List.length_append];omega
 have hls:st.length≤(st ++ [O.rng 0 (n:Int)]).length:=by rw [List.length_append];omega
 generalize (st ++ [O.rng 0 (n:Int)]).length=l at hl hls ⊢
 rintro m δ st2 ⟨L,xs,rfl,rfl,hL,pm,hf2,k2⟩
 have hlen:(xs ++ L).length=n:=by rw [pm.length_eq,Mth.zao]
 rw [List.length_append] at hlen
 refine zab ?_
 intro qhQ hQ
 set_option simprocs false in simp only [wpB,Ybo (L:=L) (M:=[]) (st:=st2 ++ [O.lst []]) (Zad (yaj hL)) Zal]
 refine ⟨rfl,hQ _ _ ⟨fun h=>?_,fun h=>?_⟩⟩
 ·have hne:L≠[]:=by simpa using h
  have hpos:0 < L.length:=List.length_pos_iff.mpr hne
  have hL3:(st2 ++ [O.lst []])[l]?=some (.lst (L.map D.int)):=yaj hL
  have f3:FeedIs (st2 ++ [O.lst []]) f:=hf2.keep (Ex.app0 _)
  have k3:Ex [f] st (st2 ++ [O.lst []]):=k2.app _
  generalize (st2 ++ [O.lst []])=st3 at hL3 f3 k3 ⊢
  refine yaf ?_
  refine zab ?_
  intro qhQ hQ
  set_option simprocs false in simp only [wpB,Zad hL3]
  refine ⟨yaK (by rw [Zad hL3];rfl),?_⟩
  refine xab (xaj (n:=((L.map D.int).length:Int)) f3 (by rw [List.length_map];omega) (by rw [List.length_map];omega)) ?_
  rintro d st4 ⟨k,rfl,k0,k1,f4,k4⟩
  rw [List.length_map] at k1
  have hL4:=k4.keep _ _ hL3 (by simpa using hl)
  have hkl:k.toNat < L.length:=by omega
  set_option simprocs false in simp only [wpB,zan hL4]
  have hk':((k.toNat:Nat):Int)=k:=Int.toNat_of_nonneg k0
  refine ⟨by omega,k.toNat,?_,D.int L[k.toNat],by rw [List.getElem?_map,List.getElem?_eq_getElem hkl];rfl,rfl,yam ?_,hQ _ _ ⟨(L.eraseIdx k.toNat).length,?_,L.eraseIdx k.toNat,xs ++ [L[k.toNat]],rfl,?_,?_,?_,?_,?_⟩⟩
  ·rw [← hk',Int.toNat_natCast]
   exact (za2 (yaM (by rw [List.length_map];exact hkl))).1
  ·simp only [List.length_map,List.length_cons,List.length_nil];omega
  ·rw [List.length_eraseIdx,if_pos hkl];omega
  ·rw [List.map_append];rfl
  ·rw [List.getElem?_set_self (xad hL4),Zbd]
  ·refine List.Perm.trans ?_ pm
   rw [List.append_assoc]
   exact List.Perm.append_left xs (Ya4 hkl)
  ·exact f4.ne hl
  ·exact (k3.trans k4).loc hls
 ·have he:L=[]:=by simpa using h
  subst he
  refine zaj ?_
  refine zab ?_
  intro qhQ hQ
  set_option simprocs false in simp only [wpB]
  exact hQ _ _ ⟨xs,rfl,by simpa [Mth.Tn] using pm,hf2.keep (Ex.app0 _),k2.app _⟩
theorem Ya9 {st:Store} {xs ys:List Int} {n:Nat} (tx:Mth.Tn n xs) (ty:Mth.Tn n ys) (n0:0 < n) (hn:n≤100):Wp (Zaj [flD xs ys] st) fun d st'=>∃ (g:Nat) (F:List Int),d=.ref g∧items st' g=some (F.map D.int)∧(∀ x,x∈F↔Mth.Rch xs ys x)∧F.length≤n∧Ex [] st st':=by
 have hlx:=tx.length
 have hly:=ty.length
 refine xaD ?_
 show Ws (yaD [some (flD xs ys),none,none,none,none] st) _ _ _ _
 unfold yaD
 refine zad (yaf ?_)
 refine zab ?_
 intro qhQ hQ
 set_option simprocs false in simp only [wpB]
 refine ⟨rfl,hQ _ _ (zad (xaJ (rangeD 0 (n + 1)) (fun i δ st2=>∃ (v2 v3 v4:Option D) (F:List Int),δ=[some (flD xs ys),some (.ref st.length),v2,v3,v4]∧st2[st.length]?=some (.lst (F.map D.int))∧Mth.Fd xs ys F∧(Mth.Cl xs ys F∨i + 1≤F.length)∧Ex [] st st2) ?_ ?_ ?_ ?_))⟩
 ·unfold flD
  refine zab ?_
  intro qhQ hQ
  set_option simprocs false in simp only [wpB]
  have e0:((1:Int) + ((xs.map D.int).length:Int)).toNat=n + 1:=by rw [List.length_map];omega
  refine ⟨by rw [List.length_map];omega,hQ _ _ ⟨by rw [e0],none,none,none,[0],rfl,yah,Mth.Fd.one xs ys,.inr (Nat.le_refl _),Ex.app0 _⟩⟩
 ·rw [Zac];omega
 ·rintro i d δ st2 hd ⟨v2,v3,v4,F,rfl,hg2,hF,hcl,k2⟩
  refine zab ?_
  intro qhQ hQ
  set_option simprocs false in simp only [wpB]
  refine hQ _ _ (xaJ [.tup (xs.map D.int),.tup (ys.map D.int)] (fun m δ st3=>∃ (v3 v4:Option D) (G:List Int),δ=[some (flD xs ys),some (.ref st.length),some d,v3,v4]∧st3[st.length]?=some (.lst (G.map D.int))∧Mth.Fd xs ys G ∧
    (m=0→G=F)∧(m=1→F <+: G∧∀ x∈F,Mth.app xs x∈G)∧(2≤m→∃ F1,F <+: F1∧F1 <+: G∧(∀ x∈F,Mth.app xs x∈F1)∧∀ x∈F1,Mth.app ys x∈G)∧Ex [] st st3) ?_ (by simp) ?_ ?_)
  ·unfold flD
   refine zab ?_
   intro qhQ hQ
   set_option simprocs false in simp only [wpB]
   exact hQ _ _ ⟨rfl,v3,v4,F,rfl,hg2,hF,fun _=>rfl,fun z=>by omega,fun z=>by omega,k2⟩
  ·rintro m z δ st3 hm ⟨v3,v4,G,rfl,hg3,hG,m0,m1,_,k3⟩
   have hm2:m < 2:=xad hm
   obtain ⟨zs,rfl,hz,em⟩:∃ (zs:List Int),z=.tup (zs.map D.int)∧(zs=xs∨zs=ys)∧((m=0∧zs=xs)∨(m=1∧zs=ys)):=by
    rcases (show m=0∨m=1 by omega) with rfl | rfl
    ·exact ⟨xs,by simpa using hm.symm,.inl rfl,.inl ⟨rfl,rfl⟩⟩
    ·exact ⟨ys,by simpa using hm.symm,.inr rfl,.inr ⟨rfl,rfl⟩⟩
   have tz:Mth.Tn n zs:=by rcases hz with rfl | rfl;exact tx;exact ty
   have hlz:=tz.length
   have go:∀ x,Mth.Rch xs ys x→Mth.Rch xs ys (Mth.app zs x):=fun x h=>by rcases hz with rfl | rfl;exact h.r;exact h.u
   refine zab ?_
   intro qhQ hQ
   set_option simprocs false in simp only [wpB]
   refine hQ _ _ (zbJ (G.map D.int) st3.length (fun j δ st4=>∃ (v4:Option D) (G':List Int),δ=[some (flD xs ys),some (.ref st.length),some d,some (.tup (zs.map D.int)),v4]∧st4[st.length]?=some (.lst (G'.map D.int))∧st4[st3.length]?=some (.lst (G.map D.int))∧Mth.Fd xs ys G'∧G <+: G'∧(∀ i',i' < j→∀ x,G[i']?=some x→Mth.app zs x∈G')∧Ex [] st st4) ?_ ?_ ?_ ?_ ?_)
   ·refine zab ?_
    intro qhQ hQ
    set_option simprocs false in simp only [wpB,Zad hg3]
    exact hQ _ _ ⟨rfl,v4,G,rfl,yaj hg3,yah,hG,List.prefix_refl _,fun i' h=>absurd h (Nat.not_lt_zero _),k3.app _⟩
   ·rw [List.length_map]
    have:=hG.len tx ty n0
    omega
   ·rintro j δ st4 ⟨_,_,_,_,h,_⟩
    exact Zad h
   ·rintro j y0' δ st4 hj0 ⟨v4,G',rfl,hg4,hl4,hG',pG,hd',k4⟩
    obtain ⟨y,hj,rfl⟩:=zby hj0
    have hjl:=xad hj
    have hR:=hG.mt _ (List.mem_of_getElem? hj)
    obtain ⟨y0,y1⟩:=hR.bound tx ty n0
    have at':=ya8 (xs:=zs) y0 (by rw [hlz];exact y1)
    have hnext:∀ G'':List Int,G' <+: G''→Mth.app zs y∈G''→∀ i',i' < j + 1→∀ x,G[i']?=some x→Mth.app zs x∈G'':=fun G'' p h i' hi' x hx=>by
     by_cases e:i'=j
     ·subst e
      rw [hj] at hx
      cases hx;exact h
     ·exact p.subset (hd' i' (by omega) x hx)
    refine zab ?_
    intro qhQ hQ
    set_option simprocs false in simp only [wpB]
    refine hQ _ _ (zas ?_)
    refine zab ?_
    intro qhQ2 hQ2
    set_option simprocs false in simp only [wpB,at',XaO (st:=st4) (c:=.ref st.length) (ns:=G') (Zad hg4)]
    refine hQ2 _ _ ⟨fun hcn=>?_,fun hcn=>?_⟩
    ·have hnm:Mth.app zs y ∉ G':=fun z=>by rw [List.contains_iff_mem.mpr z] at hcn;cases hcn
     have hG2:Mth.Fd xs ys (G' ++ [Mth.app zs y]):=by
      refine ⟨List.mem_append_left _ hG'.z,?_,fun x hx=>?_⟩
      ·rw [List.nodup_append]
       refine ⟨hG'.nd,by simp,fun x hx y' hy e=>hnm ?_⟩
       have e2:y'=Mth.app zs y:=by simpa using hy
       rw [← e2,← e];exact hx
      ·rcases List.mem_append.mp hx with h | h
       ·exact hG'.mt x h
       ·have e2:x=Mth.app zs y:=by simpa using h
        rw [e2];exact go _ hR
     have hlen2:=hG2.len tx ty n0
     rw [List.length_append] at hlen2
     refine ya4 ?_
     refine zab ?_
     intro qhQ3 hQ3
     set_option simprocs false in simp only [wpB,at',zan hg4]
     refine ⟨yaK (by rw [Zad hg4];rfl),yam (by rw [List.length_map];simp at hlen2;omega),hQ3 _ _ ⟨_,G' ++ [Mth.app zs y],rfl,?_,?_,hG2,pG.trans (List.prefix_append _ _),hnext _ (List.prefix_append _ _) (by simp),k4.loc (Nat.le_refl _)⟩⟩
     ·rw [List.getElem?_set_self (xad hg4),List.map_append];rfl
     ·rw [List.getElem?_set_ne (by have:=xad hg3;omega)];exact hl4
    ·have hcn:G'.contains (Mth.app zs y)=true:=by simpa using hcn
     exact xag ⟨_,G',rfl,hg4,hl4,hG',pG,hnext G' (List.prefix_refl _) (List.contains_iff_mem.mp hcn),k4⟩
   ·rintro δ st4 ⟨v4,G',rfl,hg4,hl4,hG',pG,hd',k4⟩
    rw [List.length_map] at hd'
    have hall:∀ x∈G,Mth.app zs x∈G':=fun x hx=>by
     obtain ⟨i',hi',e⟩:=List.getElem_of_mem hx
     exact hd' i' hi' x (by rw [List.getElem?_eq_getElem hi',e])
    refine ⟨_,_,G',rfl,hg4,hG',fun z=>by omega,fun z=>?_,fun z=>?_,k4⟩
    ·rcases em with ⟨rfl,rfl⟩ | ⟨rfl,_⟩
     ·have:=m0 rfl
      subst this
      exact ⟨pG,hall⟩
     ·omega
    ·rcases em with ⟨rfl,_⟩ | ⟨rfl,rfl⟩
     ·omega
     ·obtain ⟨p1,c1⟩:=m1 rfl
      exact ⟨G,p1,pG,c1,hall⟩
  ·rintro δ st3 ⟨v3,v4,G,rfl,hg3,hG,_,_,m2,k3⟩
   obtain ⟨F1,p1,p2,c1,c2⟩:=m2 (Nat.le_refl 2)
   exact ⟨_,_,_,G,rfl,hg3,hG,Mth.round hF hG p1 p2 c1 c2 hcl,k3⟩
 ·rintro δ st2 ⟨v2,v3,v4,F,rfl,hg2,hF,hcl,k2⟩
  rw [Zac] at hcl
  have hl:=hF.len tx ty n0
  have hc:Mth.Cl xs ys F:=hcl.resolve_right (by omega)
  refine zaj ?_
  refine zab ?_
  intro qhQ hQ
  set_option simprocs false in simp only [wpB]
  exact hQ _ _ ⟨_,F,rfl,Zad hg2,fun x=>⟨hF.mt x,fun h=>hc.all hF.z h⟩,hl,k2⟩
theorem zaT {st:Store} {δ:DSt} {X Y:List Int} {n:Nat} {Q:D→Store→Prop} (tX:Mth.Tn n X) (tY:Mth.Tn n Y) (n0:0 < n) (hn:n≤100) (h1:δ[1]?=some (some (.int (n:Int)))) (h6:δ[6]?=some (some (flD X Y)))
  (q:∀ (L:List Int) (st':Store),L.length≤n→L.Nodup→(∀ x,x∈L↔(0≤x∧x < (n:Int)∧¬ Mth.Rch X Y x))→Ex [] st st'→Q (.ref st'.length) (st' ++ [.lst (L.map D.int)])) :
  Wp (fComp (iRng1F (fCons (fVar 1) fNil)) 1 [6] (hName 0) (fTest (fOp (gIn true) (fVar 0) (fCB Zaj (fCons (fVar 1) fNil)))) (fVar 0) δ st) Q:=by
 have h6':δ.getD 6 none=some (flD X Y):=by rw [List.getD_eq_getElem?_getD,h6];rfl
 refine Za4 (rangeD 0 n) (fun j zs δ' st8=>∃ (v:Option D) (L:List Int),δ'=[v,some (flD X Y)]∧zs=L.map D.int∧L.length≤j∧L.Nodup∧(∀ x,x∈L↔(0≤x∧x < (j:Int)∧¬ Mth.Rch X Y x))∧Ex [] st st8) ?_ (by rw [Zac];omega) ?_ ?_ ?_
 ·refine zab ?_
  intro qhQ hQ
  set_option simprocs false in simp only [wpB,h1]
  refine ⟨by omega,hQ _ _ ⟨fun i ys δ st hi _=>?_,none,[],?_,rfl,Nat.le_refl _,List.nodup_nil,fun x=>⟨(fun h=>nomatch h),fun h=>by omega⟩,Ex.refl⟩⟩
  ·rw [Int.toNat_natCast]
   show (if i≤(rangeD 0 n).length then some (rangeD 0 n)[i]? else none)=_
   rw [if_pos hi]
  ·unfold compD
   simp only [List.map_cons,List.map_nil,h6']
   rfl
 ·rintro j zs δ' st8 ⟨v,L,_,rfl,hl,_⟩
  rw [List.length_map];exact hl
 ·rintro j d zs δ' st8 hd ⟨v,L,rfl,rfl,hll,nd,hL,k8⟩
  have hjl:=xad hd
  rw [Zac] at hjl
  rw [yat hjl] at hd
  cases hd
  rw [Int.zero_add]
  refine zab ?_
  intro qhQ hQ
  set_option simprocs false in simp only [wpB]
  refine hQ _ _ ?_
  refine zab ?_
  intro qhQ2 hQ2
  set_option simprocs false in simp only [wpB]
  refine xab (Ya9 (st:=st8) tX tY n0 hn) ?_
  rintro d st9 ⟨g,F,rfl,hg,hF,hFl,k9⟩
  rw [XaO (c:=.ref g) (ns:=F) hg]
  refine ⟨_,rfl,hQ2 _ _ ⟨fun hc=>?_,fun hc=>?_⟩⟩
  ·have hR:¬ Mth.Rch X Y (j:Int):=fun h=>by rw [List.contains_iff_mem.mpr ((hF _).mpr h)] at hc;cases hc
   refine zab ?_
   intro qhQ3 hQ3
   set_option simprocs false in simp only [wpB]
   refine hQ3 _ _ ⟨_,L ++ [(j:Int)],rfl,by rw [List.map_append];rfl,by rw [List.length_append];simp;omega,?_,fun x=>?_,k8.trans k9⟩
   ·rw [List.nodup_append]
    refine ⟨nd,by simp,fun x hx y hy e=>?_⟩
    have e2:y=(j:Int):=by simpa using hy
    have:=((hL x).mp hx).2.1
    omega
   ·rw [List.mem_append,hL x]
    constructor
    ·rintro (⟨a1,a2,a3⟩ | h)
     ·exact ⟨a1,by omega,a3⟩
     ·have e2:x=(j:Int):=by simpa using h
      rw [e2];exact ⟨by omega,by omega,hR⟩
    ·rintro ⟨a1,a2,a3⟩
     rcases Int.lt_or_le x (j:Int) with h | h
     ·exact .inl ⟨a1,h,a3⟩
     ·exact .inr (by simp;omega)
  ·have hc:F.contains (j:Int)=true:=by simpa using hc
   have hR:=(hF _).mp (List.contains_iff_mem.mp hc)
   refine ⟨_,L,rfl,rfl,by omega,nd,fun x=>?_,k8.trans k9⟩
   rw [hL x]
   constructor
   ·rintro ⟨a1,a2,a3⟩;exact ⟨a1,by omega,a3⟩
   ·rintro ⟨a1,a2,a3⟩
    refine ⟨a1,?_,a3⟩
    rcases Int.lt_or_le x (j:Int) with h | h
    ·exact h
    ·exact absurd hR (by rw [show (j:Int)=x by omega];exact a3)
 ·rintro zs δ' st8 ⟨v,L,rfl,rfl,hll,nd,hL,k8⟩
  rw [Zac] at hll hL
  exact q L st8 hll nd hL k8
theorem yaT {st:Store} {f n:Nat} (hf:FeedIs st f) (n1:1≤n) (n20:n≤20):Wp (yak [.ref f,.int (n:Int)] st) fun d st'=>∃ xs ys:List Int,d=flD xs ys∧IsFl n xs ys∧FeedIs st' f∧Ex [f] st st':=by
 have hfl:=hf.lt
 refine xaD ?_
 show Ws (Yay [some (.ref f),some (.int (n:Int)),none,none,none,none,none,none,none] st) _ _ _ _
 unfold Yay
 refine zad (yaf ?_)
 refine zab ?_
 intro qhQ hQ
 set_option simprocs false in simp only [wpB]
 refine xab (xaj (n:=6) hf (by decide) (by decide)) ?_
 rintro d st1 ⟨form,rfl,g0,g6,f1,k1⟩
 refine hQ _ _ (zad (ZbC ?_))
 clear hQ
 refine zab ?_
 intro qhQ hQ
 set_option simprocs false in simp only [wpB]
 refine xab (XaJ (n:=n) f1 (by omega)) ?_
 rintro d st2 ⟨X,rfl,tX,f2,k2⟩
 set_option simprocs false in simp only [wpB]
 refine xab (XaJ (n:=n) (f2.keep (Ex.app0 [.lst (X.map D.int)])) (by omega)) ?_
 rintro d st3 ⟨Y,rfl,tY,f3,k3⟩
 set_option simprocs false in simp only [wpB]
 refine hQ _ _ ⟨_,_,rfl,?_⟩
 clear hQ
 have hr3:st3[st2.length]?=some (.lst (X.map D.int)):=k3.keep _ _ yah (by have:=f2.lt;simp;omega)
 have two:Two st (st3 ++ [.lst (Y.map D.int)]) f st2.length st3.length n X Y:=⟨yaj hr3,yah,by have:=xad hr3;omega,(k1.trans k2).len,((k1.trans k2).trans ((Ex.app0 _).trans k3)).len,tX,tY,f3.keep (Ex.app0 _),(((k1.trans k2).app _).trans k3).app _⟩
 show Ws _ _ _ _ _
 generalize (st3 ++ [O.lst (Y.map D.int)])=st4 at two ⊢
 generalize st2.length=r at two ⊢
 generalize st3.length=u at two ⊢
 clear hr3 tX tY f3 k3 f2 k2 f1 k1
 refine zad (YaO (N:=fun δ st5=>∃ (r u:Nat) (X Y:List Int),δ=[some (.ref f),some (.int (n:Int)),some (.int form),some (.ref r),some (.ref u),none,none,none,none]∧Two st st5 f r u n X Y) (zas ?_) ?_)
 ·refine zab ?_
  intro qhQ hQ
  set_option simprocs false in simp only [wpB]
  refine hQ _ _ ⟨fun _=>yaf ?_,fun _=>xag ⟨r,u,X,Y,rfl,two⟩⟩
  refine zab ?_
  intro qhQ2 hQ2
  set_option simprocs false in simp only [wpB]
  rw [← xbo]
  refine ⟨ZaC (by omega),rfl,yam (by rw [Zac];simp;omega),hQ2 _ _ ⟨_,u,_,Y,rfl,(two.keep (((Ex.app0 _).app _).app _)).setR (Mth.Xa6 (show n < 21 by omega) (by omega))⟩⟩
 rintro δ st5 ⟨r,u,X,Y,rfl,two⟩
 refine zad (YaO (N:=fun δ st5=>∃ (r u:Nat) (X Y:List Int),δ=[some (.ref f),some (.int (n:Int)),some (.int form),some (.ref r),some (.ref u),none,none,none,none]∧Two st st5 f r u n X Y) (zas ?_) ?_)
 ·refine zab ?_
  intro qhQ hQ
  set_option simprocs false in simp only [wpB]
  refine hQ _ _ ⟨fun _=>ZbC ?_,fun _=>xag ⟨r,u,X,Y,rfl,two⟩⟩
  refine zab ?_
  intro qhQ2 hQ2
  set_option simprocs false in simp only [wpB]
  rw [← xbo,show ((n:Int) - 0).toNat=n by omega,zaF]
  refine ⟨ZaC (by omega),ZaC (by omega),rfl,yam (by rw [Zac];simp;omega),hQ2 _ _ ⟨_,_,rfl,_,_,_,_,rfl,(((two.keep (Ex.app0 [.rng 0 (n:Int)])).setR (Z:=Mth.upto n) (List.Perm.refl _)).keep (((Ex.app0 _).app _).app _)).setU (Mth.Xa6 (show n < 21 by omega) (by omega))⟩⟩
 rintro δ st6 ⟨r,u,X,Y,rfl,two⟩
 refine zad (YaO (N:=fun δ st5=>∃ (r u:Nat) (v5:Option D) (X Y:List Int),δ=[some (.ref f),some (.int (n:Int)),some (.int form),some (.ref r),some (.ref u),v5,none,none,none]∧Two st st5 f r u n X Y) (zas ?_) ?_)
 ·refine zab ?_
  intro qhQ hQ
  set_option simprocs false in simp only [wpB]
  refine hQ _ _ ⟨fun _=>zad (yaf ?_),fun _=>xag ⟨r,u,none,X,Y,rfl,two⟩⟩
  refine zab ?_
  intro qhQ2 hQ2
  set_option simprocs false in simp only [wpB]
  refine xab (xaj (n:=(n:Int)) two.fd (by omega) (by omega)) ?_
  rintro d st7 ⟨w,rfl,w0,w1,f7,k7⟩
  obtain ⟨wd,rfl⟩:∃ wd:Nat,w=(wd:Int) - 1:=⟨(w + 1).toNat,by omega⟩
  have t7:Two st st7 f r u n X Y:=⟨k7.keep _ _ two.hr (by have:=two.r0;simp;omega),k7.keep _ _ two.hu (by have:=two.u0;simp;omega),two.ne,two.r0,two.u0,two.tX,two.tY,f7,two.ex.trans k7⟩
  set_option simprocs false in simp only [wpB]
  rw [show (1:Int) + ((wd:Int) - 1)=(wd:Int) by omega]
  refine hQ2 _ _ (zad (yaf ?_))
  clear hQ2 hQ
  refine zab ?_
  intro qhQ2 hQ2
  set_option simprocs false in simp only [wpB]
  rw [← rowR_D]
  refine ⟨ZaC (by omega),rfl,yam (by rw [Zac];simp;omega),ZaC (by omega),yam (by rw [List.length_append,Zac,Zac];simp;omega),hQ2 _ _ (zad (yaf ?_))⟩
  clear hQ2
  have t8:=(t7.keep ((((((Ex.app0 [.rng 1 (wd:Int)]).app [.lst (rangeD 1 ((wd:Int) - 1).toNat)]).app [.lst [.int 0]]).app [.lst (rangeD 1 ((wd:Int) - 1).toNat ++ [.int 0])]).app [.rng (wd:Int) (n:Int)]).app [.lst (rangeD (wd:Int) ((n:Int) - (wd:Int)).toNat)])).setR (Mth.ZbG (w:=wd) (show n < 21 by omega) (by omega) (by omega))
  generalize hst8:(st7 ++ _ ++ _ ++ _ ++ _ ++ _ ++ _ ++ _:Store)=st8 at t8 ⊢
  generalize List.length _=r8 at t8 ⊢
  refine zab ?_
  intro qhQ2 hQ2
  set_option simprocs false in simp only [wpB]
  refine ⟨rfl,ZaC (by omega),yam (by simp [Zac];omega),ZaC (by omega),yam (by simp [Zac];omega),rfl,yam (by simp [Zac];omega),hQ2 _ _ (zas ?_)⟩
  clear hQ2
  generalize hsE:(st8 ++ _ ++ _ ++ _ ++ _ ++ _ ++ _ ++ _ ++ _ ++ _:Store)=stE
  have tE:Two st stE f r8 u n (Mth.rowR wd n) Y:=by rw [← hsE];exact t8.keep (((((((((Ex.app0 _).app _).app _).app _).app _).app _).app _).app _).app _)
  refine zab ?_
  intro qhQ hQ
  set_option simprocs false in simp only [wpB]
  refine hQ _ _ ⟨fun hw=>?_,fun hw=>?_⟩
  ·refine yaf ?_
   refine zab ?_
   intro qhQ2 hQ2
   set_option simprocs false in simp only [wpB]
   rw [show ((n:Int) - 0).toNat=n by omega,zaF]
   exact ⟨ZaC (by omega),hQ2 _ _ ⟨r8,_,_,_,_,rfl,(tE.keep ((Ex.app0 _).app _)).setU (List.Perm.refl _)⟩⟩
  ·have hne:wd≠n:=fun z=>by simp [z] at hw
   have tF:=tE.setU (Mth.YbG (w:=wd) (show n < 21 by omega) (by omega) (by omega))
   rw [colU_D (by omega) (by omega)] at tF
   exact xag ⟨r8,_,_,_,_,rfl,tF⟩
 rintro δ st7 ⟨r,u,v5,X,Y,rfl,two⟩
 have n0:0 < n:=by omega
 refine zad (yaf ?_)
 refine zab ?_
 intro qhQ hQ
 set_option simprocs false in simp only [wpB,Zad two.hr,Zad two.hu]
 refine ⟨rfl,hQ _ _ (zad (yaf (zaT (X:=X) (Y:=Y) two.tX two.tY n0 (by omega) rfl rfl ?_)))⟩
 clear hQ
 intro L st8 hll nd hL k8
 have t8:=(two.keep k8).keep (Ex.app0 [.lst (L.map D.int)])
 refine zad (xaV (fun mm δ st9=>∃ (pa:Nat) (X L:List Int) (v8:Option D),mm=L.length∧δ=[some (.ref f),some (.int (n:Int)),some (.int form),some (.ref r),some (.ref u),v5,some (flD X Y),some (.ref pa),v8]∧Two st st9 f r u n X Y∧items st9 pa=some (L.map D.int)∧L.length≤n∧L.Nodup∧(∀ x,x∈L↔(0≤x∧x < (n:Int)∧¬ Mth.Rch X Y x))) L.length (Nat.lt_of_le_of_lt hll (Nat.lt_of_le_of_lt n20 (by decide))) ⟨_,X,L,none,rfl,rfl,t8,Zal,hll,nd,hL⟩ ?_)
 rintro mm δ st9 ⟨pa,X,L,v8,rfl,rfl,two,hpa,hll,nd,hL⟩
 have hlX:=two.tX.length
 have hpa2:items (st9 ++ [O.lst []]) pa=some (L.map D.int):=by
  unfold items at hpa ⊢
  cases e:st9[pa]? with
  | none=>rw [e] at hpa;cases hpa
  | some o=>rw [yaj e];rw [e] at hpa;exact hpa
 refine zab ?_
 intro qhQ hQ
 set_option simprocs false in simp only [wpB,Ybo (L:=L) (M:=[]) (st:=st9 ++ [O.lst []]) hpa2 Zal]
 refine ⟨rfl,hQ _ _ ⟨fun h=>?_,fun h=>?_⟩⟩
 ·have hne:L≠[]:=by simpa using h
  clear hQ
  obtain ⟨m,L1,rfl⟩:∃ m L1,L=m :: L1:=by cases L with | nil=>exact absurd rfl hne | cons m L1=>exact ⟨m,L1,rfl⟩
  obtain ⟨m0,m1,mR⟩:=(hL m).mp List.mem_cons_self
  have t2:=two.keep (Ex.app0 [O.lst []])
  generalize (st9 ++ [O.lst []])=stE at hpa2 t2 ⊢
  refine zad (yaf ?_)
  refine zab ?_
  intro qhQ hQ
  set_option simprocs false in simp only [wpB,hpa2,List.map_cons]
  refine hQ _ _ (zad (za0 ?_))
  clear hQ
  refine zab ?_
  intro qhQ hQ
  set_option simprocs false in simp only [wpB,Zad t2.hr,ya8 (xs:=X) m0 (by omega),ya8 (xs:=X) (i:=0) (by decide) (by omega)]
  refine ⟨rfl,hQ _ _ ?_⟩
  clear hQ
  have i0:ixN (X.map D.int).length 0=some 0:=yaM (j:=0) (by rw [List.length_map];omega)
  have im:ixN ((X.map D.int).set 0 (.int (Mth.app X m))).length m=some m.toNat:=by
   rw [List.length_set]
   have:=yaM (n:=(X.map D.int).length) (j:=m.toNat) (by rw [List.length_map];omega)
   rwa [Int.toNat_of_nonneg m0] at this
  have hr3:(stE.set r (.lst ((X.map D.int).set 0 (.int (Mth.app X m)))))[r]?=some (.lst ((X.map D.int).set 0 (.int (Mth.app X m)))):=List.getElem?_set_self (xad t2.hr)
  have eS:((X.map D.int).set 0 (.int (Mth.app X m))).set m.toNat (.int (Mth.app X 0))=(Mth.swp X m.toNat).map D.int:=by
   unfold Mth.swp
   rw [Int.toNat_of_nonneg m0,List.map_set,List.map_set]
  refine zab ?_
  intro qhQ hQ
  set_option simprocs false in simp only [wpB,zan t2.hr,zan hr3,i0,im,eS]
  refine ⟨rfl,hQ _ _ (zad (yaf ?_))⟩
  clear hQ
  have tS:=Mth.swp_tn t2.tX (m:=m.toNat) (by omega)
  have hmet:=Mth.XbF t2.tX t2.tY (m:=m.toNat) (by omega) (by rw [Int.toNat_of_nonneg m0];exact mR)
  rw [Int.toNat_of_nonneg m0] at hmet
  rw [List.set_set]
  have t3:=t2.put (Z:=Mth.swp X m.toNat) tS hfl
  generalize stE.set r _=st3 at t3 ⊢
  refine zab ?_
  intro qhQ hQ
  set_option simprocs false in simp only [wpB,Zad t3.hr,Zad t3.hu]
  refine ⟨rfl,hQ _ _ (yaf (zaT (X:=Mth.swp X m.toNat) (Y:=Y) t3.tX t3.tY n0 (by omega) rfl rfl ?_))⟩
  intro L' st4 hll' nd' hL' k4
  refine ⟨_,?_,st4.length,Mth.swp X m.toNat,L',_,rfl,rfl,(t3.keep k4).keep (Ex.app0 _),Zal,hll',nd',hL'⟩
  refine Mth.less (m:=m) nd' (fun x hx=>?_) List.mem_cons_self (fun h=>((hL' m).mp h).2.2 hmet.1)
  obtain ⟨a1,a2,a3⟩:=(hL' x).mp hx
  exact (hL x).mpr ⟨a1,a2,fun h=>a3 (hmet.2 x h)⟩
 ·have he:L=[]:=by simpa using h
  subst he
  refine zaj ?_
  refine zab ?_
  intro qhQ2 hQ2
  set_option simprocs false in simp only [wpB]
  have t2:=two.keep (Ex.app0 [O.lst []])
  refine hQ2 _ _ ⟨X,Y,rfl,⟨t2.tX,t2.tY,fun x x0 x1=>?_⟩,t2.fd,t2.ex⟩
  exact Classical.byContradiction fun h=>nomatch (hL x).mpr ⟨x0,x1,h⟩
theorem YbM {F:List Int} {x:Int}:(!F.contains x)=true→Mth.addIf F x=F ++ [x]:=fun h=>by
 unfold Mth.addIf
 rw [if_neg fun z=>by rw [List.contains_iff_mem.mpr z] at h;cases h]
theorem zbA {F:List Int} {x:Int}:(!F.contains x)=false→Mth.addIf F x=F:=fun h=>by
 unfold Mth.addIf
 rw [if_pos (List.contains_iff_mem.mp (by simpa using h))]
theorem ya1 {st:Store} {xs ys:List Int} {n:Nat} {s:Int} (tx:Mth.Tn n xs) (ty:Mth.Tn n ys) (hn:n≤100) (s0:0≤s) (s1:s < (n:Int)):Wp (xan [flD xs ys,.int s] st) fun d st'=>d=.tup ((Mth.bf xs ys s n).map D.int)∧Ex [] st st':=by
 have hlx:=tx.length
 have hly:=ty.length
 refine xaD ?_
 show Ws (zau [some (flD xs ys),some (.int s),none,none,none,none] st) _ _ _ _
 unfold zau
 refine zad (yaf ?_)
 refine zab ?_
 intro qhQ hQ
 set_option simprocs false in simp only [wpB]
 refine ⟨rfl,hQ _ _ (zad (yaf ?_))⟩
 clear hQ
 refine zab ?_
 intro qhQ hQ
 set_option simprocs false in simp only [wpB]
 refine hQ _ _ (zad (xaV (fun m δ st2=>∃ (k:Nat) (v4 v5:Option D),m=n - k∧δ=[some (flD xs ys),some (.int s),some (.ref st.length),some (.int (k:Int)),v4,v5]∧st2[st.length]?=some (.lst ((Mth.bf xs ys s k).map D.int))∧k≤(Mth.bf xs ys s k).length∧Ex [] st st2) n (Nat.lt_of_le_of_lt hn (by decide)) ⟨0,none,none,by omega,rfl,yah,Nat.zero_le _,Ex.app0 _⟩ ?_))
 clear hQ
 rintro m δ st2 ⟨k,v4,v5,rfl,rfl,hl,hk,k2⟩
 have hbl:=Mth.Xbk tx ty s0 s1 k
 refine zab ?_
 intro qhQ hQ
 set_option simprocs false in simp only [wpB,Zad hl]
 refine hQ _ _ ⟨fun hlt=>?_,fun hlt=>?_⟩
 ·clear hQ
  have hlt:=of_decide_eq_true hlt
  rw [List.length_map] at hlt
  have hkl:k < (Mth.bf xs ys s k).length:=by omega
  obtain ⟨x,hx⟩:∃ x,(Mth.bf xs ys s k)[k]?=some x:=⟨_,List.getElem?_eq_getElem hkl⟩
  obtain ⟨x0,x1⟩:=Mth.zaV tx ty s0 s1 k x (List.mem_of_getElem? hx)
  have e1:Mth.bf xs ys s (k + 1)=Mth.visit xs ys (Mth.bf xs ys s k) x:=by
   show (match (Mth.bf xs ys s k)[k]? with | some x=>Mth.visit xs ys (Mth.bf xs ys s k) x | none=>Mth.bf xs ys s k)=_
   rw [hx]
  have hb1:=Mth.Xbk tx ty s0 s1 (k + 1)
  rw [e1] at hb1
  have hp1:=(Mth.yaC (Mth.addIf (Mth.bf xs ys s k) (Mth.app xs x)) (Mth.app ys x)).length_le
  have hp0:=(Mth.yaC (Mth.bf xs ys s k) (Mth.app xs x)).length_le
  change _≤(Mth.visit xs ys (Mth.bf xs ys s k) x).length at hp1
  refine zad (xaJ [.tup (xs.map D.int),.tup (ys.map D.int)] (fun m δ st3=>∃ (v4 v5:Option D) (G:List Int),δ=[some (flD xs ys),some (.int s),some (.ref st.length),some (.int (k:Int)),v4,v5]∧st3[st.length]?=some (.lst (G.map D.int))∧(m=0→G=Mth.bf xs ys s k)∧(m=1→G=Mth.addIf (Mth.bf xs ys s k) (Mth.app xs x))∧(m=2→G=Mth.visit xs ys (Mth.bf xs ys s k) x)∧Ex [] st st3) ?_ (by simp) ?_ ?_)
  ·unfold flD
   refine zab ?_
   intro qhQ hQ
   set_option simprocs false in simp only [wpB]
   exact hQ _ _ ⟨rfl,v4,v5,_,rfl,hl,fun _=>rfl,fun z=>by omega,fun z=>by omega,k2⟩
  ·rintro m z δ st3 hm ⟨v4,v5,G,rfl,hl3,g0,g1,_,k3⟩
   have hm2:m < 2:=xad hm
   obtain ⟨zs,rfl,tz,em⟩:∃ (zs:List Int),z=.tup (zs.map D.int)∧Mth.Tn n zs∧((m=0∧zs=xs)∨(m=1∧zs=ys)):=by
    rcases (show m=0∨m=1 by omega) with rfl | rfl
    ·exact ⟨xs,by simpa using hm.symm,tx,.inl ⟨rfl,rfl⟩⟩
    ·exact ⟨ys,by simpa using hm.symm,ty,.inr ⟨rfl,rfl⟩⟩
   have hG:G.length≤100∧G[k]?=some x:=by
    rcases em with ⟨rfl,_⟩ | ⟨rfl,_⟩
    ·rw [g0 rfl];exact ⟨by omega,hx⟩
    ·rw [g1 rfl]
     refine ⟨by omega,?_⟩
     obtain ⟨t,e⟩:=Mth.yaC (Mth.bf xs ys s k) (Mth.app xs x)
     rw [← e,List.getElem?_append_left hkl];exact hx
   have nxt:∀ G',G'=Mth.addIf G (Mth.app zs x)→(m + 1=0→G'=Mth.bf xs ys s k)∧(m + 1=1→G'=Mth.addIf (Mth.bf xs ys s k) (Mth.app xs x))∧(m + 1=2→G'=Mth.visit xs ys (Mth.bf xs ys s k) x):=fun G' e=>by
    rcases em with ⟨rfl,rfl⟩ | ⟨rfl,rfl⟩
    ·exact ⟨fun z=>by omega,fun _=>by rw [e,g0 rfl],fun z=>by omega⟩
    ·exact ⟨fun z=>by omega,fun z=>by omega,fun _=>by rw [e,g1 rfl];rfl⟩
   have hat:atI (G.map D.int) (k:Int)=some (.int x):=YaL (by rw [List.getElem?_map,hG.2];rfl)
   refine zab ?_
   intro qhQ hQ
   set_option simprocs false in simp only [wpB]
   refine hQ _ _ (zad (yaf ?_))
   clear hQ
   refine zab ?_
   intro qhQ hQ
   set_option simprocs false in simp only [wpB,Zad hl3,hat,ya8 (xs:=zs) x0 (by rw [tz.length];exact x1)]
   refine hQ _ _ (zas ?_)
   clear hQ
   refine zab ?_
   intro qhQ hQ
   set_option simprocs false in simp only [wpB,XaO (st:=st3) (c:=.ref st.length) (ns:=G) (Zad hl3)]
   refine hQ _ _ ⟨fun hc=>ya4 ?_,fun hc=>xag ?_⟩
   ·obtain ⟨n0,n1,n2⟩:=nxt (G ++ [Mth.app zs x]) (YbM hc).symm
    refine zab ?_
    intro qhQ2 hQ2
    set_option simprocs false in simp only [wpB,zan hl3]
    refine ⟨yaK (by rw [Zad hl3];rfl),yam (by rw [List.length_map];omega),hQ2 _ _ ⟨_,_,G ++ [Mth.app zs x],rfl,?_,n0,n1,n2,k3.loc (Nat.le_refl _)⟩⟩
    rw [List.getElem?_set_self (xad hl3),List.map_append];rfl
   ·obtain ⟨n0,n1,n2⟩:=nxt G (zbA hc).symm
    exact ⟨_,_,G,rfl,hl3,n0,n1,n2,k3⟩
  ·rintro δ st3 ⟨v4,v5,G,rfl,hl3,_,_,g2,k3⟩
   have g2:=g2 rfl
   subst g2
   refine yaf ?_
   refine zab ?_
   intro qhQ hQ
   set_option simprocs false in simp only [wpB]
   refine hQ _ _ ⟨n - (k + 1),by omega,k + 1,v4,v5,rfl,by simp,by rw [e1];exact hl3,by rw [e1];omega,k3⟩
 ·have hlt:=of_decide_eq_false hlt
  rw [List.length_map] at hlt
  have hle:(Mth.bf xs ys s k).length≤k:=by omega
  have e:Mth.bf xs ys s n=Mth.bf xs ys s k:=by
   have:=Mth.Za3 hle (n - k)
   rwa [show k + (n - k)=n by omega] at this
  refine zaj ?_
  refine zab ?_
  intro qhQ2 hQ2
  set_option simprocs false in simp only [wpB,Zad hl]
  rw [← e]
  exact hQ2 _ _ ⟨rfl,k2⟩
noncomputable def tI (xs:List Int):D:=.tup (xs.map D.int)
noncomputable def fxD (w:Str) (k:Int):List (Str×D):=[("word",.str w),("at",.int k)]
noncomputable def RaisedAt (w:Str) (k:Int) (d:D) (st:Store):Prop:=∃ i,d=.ref i∧st[i]?=some (.exc "NoFloor" (fxD w k))
noncomputable def amD:Option Nat→D
 | some k=>.int (k:Int)
 | none=>.non
theorem xa9 {xs:List Int} {k:Nat} (h:k < xs.length):atI (xs.map D.int) (k:Int)=some (.int (xs.getD k 0)):=by
 refine YaL ?_
 rw [List.getElem?_map,List.getElem?_eq_getElem h,List.getD_eq_getElem?_getD,List.getElem?_eq_getElem h];rfl
theorem bad_eq {xs:List Int} {k:Nat}:Mth.bad xs k=(!(decide (0≤xs.getD k 0) && decide (xs.getD k 0 < (xs.length:Int))) || (xs.take k).contains (xs.getD k 0)):=by
 unfold Mth.bad
 rw [show decide (xs.getD k 0 < 0)=!decide (0≤xs.getD k 0) from by rw [← decide_not];congr 1;exact propext ⟨fun h=>by omega,fun h=>by omega⟩]
 rw [show decide ((xs.length:Int)≤xs.getD k 0)=!decide (xs.getD k 0 < (xs.length:Int)) from by rw [← decide_not];congr 1;exact propext ⟨fun h=>by omega,fun h=>by omega⟩]
 cases decide (0≤xs.getD k 0) <;> cases decide (xs.getD k 0 < (xs.length:Int)) <;> simp
theorem ZaD {st:Store} {xs:List Int} (hl:xs.length≤1000):Wp (Zam [tI xs] st) fun d st'=>d=amD (Mth.am xs)∧Ex [] st st':=by
 refine xaD ?_
 show Ws (Xay [some (tI xs),none] st) _ _ _ _
 unfold Xay tI
 refine zad (xaJ (rangeD 0 xs.length) (fun i δ s=>∃ v:Option D,δ=[some (.tup (xs.map D.int)),v]∧(∀ j,j < i→Mth.bad xs j=false)∧s=st) ?_ (by rw [Zac];omega) ?_ ?_)
 ·refine zab ?_
  intro qhQ hQ
  set_option simprocs false in simp only [wpB]
  rw [List.length_map,Int.toNat_natCast]
  exact ⟨by omega,hQ _ _ ⟨rfl,none,rfl,(fun j hj=>nomatch hj),rfl⟩⟩
 ·rintro i d δ s hd ⟨v,rfl,hb,rfl⟩
  have hil:=xad hd
  rw [Zac] at hil
  rw [yat hil,Int.zero_add] at hd
  cases hd
  refine zab ?_
  intro qhQ hQ
  set_option simprocs false in simp only [wpB]
  refine hQ _ _ (zas ?_)
  clear hQ
  have e1:cutD (xs.map D.int) none (some (i:Int))=(xs.take i).map D.int:=by rw [XaH,List.map_take]
  refine zab ?_
  intro qhQ hQ
  set_option simprocs false in simp only [wpB,Ybz,xa9 hil,e1,XaO (c:=.tup ((xs.take i).map D.int)) (ns:=xs.take i) rfl]
  have key:qhQ (Mth.bad xs i) s:=by
   refine hQ _ _ ⟨fun h=>zaj ?_,fun h=>xag ⟨_,rfl,fun j hj=>?_,rfl⟩⟩
   ·clear hQ
    refine zab ?_
    intro qhQ hQ
    set_option simprocs false in simp only [wpB]
    exact hQ _ _ ⟨by unfold Mth.am;rw [Mth.yaH hil hb h];rfl,Ex.refl⟩
   ·by_cases z:j=i
    ·rw [z];exact h
    ·exact hb j (by omega)
  clear hQ
  rw [bad_eq] at key
  by_cases h0:0≤xs.getD i 0
  ·refine .inl ⟨decide_eq_true h0,?_⟩
   by_cases h1:xs.getD i 0 < (xs.length:Int)
   ·rw [List.length_map,decide_eq_true h1,if_neg (by decide)];rw [decide_eq_true h0,decide_eq_true h1] at key;exact key
   ·rw [List.length_map,decide_eq_false h1,if_pos (by decide)];rw [decide_eq_true h0,decide_eq_false h1] at key;exact key
  ·exact .inr ⟨decide_eq_false h0,by rw [decide_eq_false h0] at key;exact key⟩
 ·rintro δ s ⟨v,rfl,hb,rfl⟩
  rw [Zac] at hb
  refine zaj ?_
  refine zab ?_
  intro qhQ hQ
  set_option simprocs false in simp only [wpB]
  exact hQ _ _ ⟨by unfold Mth.am;rw [Mth.Yaz hb];rfl,Ex.refl⟩
theorem YaB {st:Store} {xs:List Int} {w:Str} (hl:xs.length≤1000):Wp (yai [tI xs,.str w] st) fun d st'=>Ex [] st st'∧match Mth.am xs with
  | some k=>RaisedAt w (k:Int) d st'
  | none=>d=.non:=by
 refine xaD ?_
 show Ws (Xat [some (tI xs),some (.str w),none,none] st) _ _ _ _
 unfold Xat tI
 refine xaJ (enumD (xs.map D.int)) (fun i δ s=>∃ v u:Option D,δ=[some (.tup (xs.map D.int)),some (.str w),v,u]∧(∀ j,j < i→Mth.bad xs j=false)∧s=st) ?_ (by rw [Zay,List.length_map];omega) ?_ ?_
 ·refine zab ?_
  intro qhQ hQ
  set_option simprocs false in simp only [wpB]
  exact hQ _ _ ⟨rfl,none,none,rfl,(fun j hj=>nomatch hj),rfl⟩
 ·rintro i d δ s hd ⟨v,u,rfl,hb,rfl⟩
  have hil:=xad hd
  rw [Zay,List.length_map] at hil
  obtain ⟨y,hy,rfl⟩:=XaZ hd
  have ey:y=.int (xs.getD i 0):=by
   rw [List.getElem?_map,List.getElem?_eq_getElem hil] at hy
   cases hy
   rw [List.getD_eq_getElem?_getD,List.getElem?_eq_getElem hil];rfl
  subst ey
  refine ⟨_,_,rfl,zas ?_⟩
  have e1:cutD (xs.map D.int) none (some (i:Int))=(xs.take i).map D.int:=by rw [XaH,List.map_take]
  refine zab ?_
  intro qhQ hQ
  set_option simprocs false in simp only [wpB,e1,XaO (c:=.tup ((xs.take i).map D.int)) (ns:=xs.take i) rfl]
  have key:qhQ (Mth.bad xs i) s:=by
   refine hQ _ _ ⟨fun h=>yaP ?_,fun h=>ya5 (xag ⟨_,_,rfl,fun j hj=>?_,rfl⟩)⟩
   ·clear hQ
    refine zab ?_
    intro qhQ hQ
    set_option simprocs false in simp only [wpB]
    have ea:Mth.am xs=some i:=Mth.yaH hil hb h
    exact hQ _ _ (by rw [ea];exact ⟨Ex.app0 _,_,rfl,yah⟩)
   ·by_cases z:j=i
    ·rw [z];exact h
    ·exact hb j (by omega)
  clear hQ
  unfold Mth.bad at key
  rw [List.length_map]
  cases z0:decide (xs.getD i 0 < 0) with
  | true=>rw [z0] at key;exact key
  | false =>
   rw [z0] at key
   cases z1:decide ((xs.length:Int)≤xs.getD i 0) with
   | true=>rw [z1] at key;exact key
   | false=>rw [z1] at key;exact key
 ·rintro δ s ⟨v,u,rfl,hb,rfl⟩
  rw [Zay,List.length_map] at hb
  unfold Mth.am
  rw [Mth.Yaz hb]
  exact ⟨Ex.refl,rfl⟩
theorem XaP {st:Store} {xs ys:List Int} {n:Nat} (tx:Mth.Tn n xs) (ty:Mth.Tn n ys) (n0:0 < n) (hn:n≤100):Wp (Zar [flD xs ys] st) fun d st'=>Ex [] st st'∧match Mth.fu xs ys n with
  | some k=>RaisedAt "parted" (k:Int) d st'
  | none=>d=.non:=by
 refine xaD ?_
 show Ws (zaw [some (flD xs ys),none,none] st) _ _ _ _
 unfold zaw
 have hf0:∀ {s:Store} {Q:D→Store→Prop},Wp (gIxT (flD xs ys) (.int 0) s) Q↔Q (tI xs) s:=Xaa
 have hsq:∀ s:Store,seqOf s (tI xs)=some (xs.map D.int):=fun _=>rfl
 refine zad (ya5 (yaf ?_))
 refine zab ?_
 intro qhQ hQ
 set_option simprocs false in simp only [wpB]
 refine xab (ya1 tx ty hn (Int.le_refl 0) (by omega)) ?_
 rintro d s1 ⟨rfl,k1⟩
 refine hQ _ _ (xaJ (rangeD 0 n) (fun i δ s=>∃ v:Option D,δ=[some (flD xs ys),some (.tup ((Mth.bf xs ys 0 n).map D.int)),v]∧(∀ j,j < i→(!(Mth.bf xs ys 0 n).contains (j:Int))=false)∧s=s1) ?_ (by rw [Zac];omega) ?_ ?_)
 ·clear hQ
  refine zab ?_
  intro qhQ hQ
  set_option simprocs false in simp only [wpB,hf0,hsq]
  rw [List.length_map,tx.length,Int.toNat_natCast]
  exact ⟨by omega,hQ _ _ ⟨rfl,none,rfl,(fun j hj=>nomatch hj),rfl⟩⟩
 ·clear hQ
  rintro i d δ s hd ⟨v,rfl,hb,rfl⟩
  have hil:=xad hd
  rw [Zac] at hil
  rw [yat hil,Int.zero_add] at hd
  cases hd
  refine zab ?_
  intro qhQ hQ
  set_option simprocs false in simp only [wpB]
  refine hQ _ _ (zas ?_)
  clear hQ
  refine zab ?_
  intro qhQ hQ
  set_option simprocs false in simp only [wpB,XaO (c:=.tup ((Mth.bf xs ys 0 n).map D.int)) (ns:=Mth.bf xs ys 0 n) rfl]
  refine hQ _ _ ⟨fun h=>yaP ?_,fun h=>ya5 (xag ⟨_,rfl,fun j hj=>?_,rfl⟩)⟩
  ·clear hQ
   refine zab ?_
   intro qhQ hQ
   set_option simprocs false in simp only [wpB]
   have ea:Mth.fu xs ys n=some i:=Mth.yaH hil hb h
   exact hQ _ _ (by rw [ea];exact ⟨k1.trans (Ex.app0 _),_,rfl,yah⟩)
  ·by_cases z:j=i
   ·rw [z];exact h
   ·exact hb j (by omega)
 ·clear hQ
  rintro δ s ⟨v,rfl,hb,rfl⟩
  rw [Zac] at hb
  unfold Mth.fu
  rw [Mth.Yaz hb]
  exact ⟨k1,rfl⟩
noncomputable def du (xs ys:List Int):Option (Str×Int):=if xs.length < 1∨20 < xs.length∨ys.length≠xs.length then some ("sizes",(xs.length:Int)) else match Mth.am xs with
 | some k=>some ("right",(k:Int))
 | none=>match Mth.am ys with
  | some k=>some ("up",(k:Int))
  | none=>match Mth.fu xs ys xs.length with
   | some s=>some ("parted",(s:Int))
   | none=>none
noncomputable def duD:Option (Str×Int)→D
 | some (w,k)=>.tup [.str w,.int k]
 | none=>.non
noncomputable def DuR (o:Option (Str×Int)) (d:D) (st:Store):Prop:=match o with
 | some (w,k)=>RaisedAt w k d st
 | none=>d=.bl true
theorem YaG {w:Str} {k:Int} {d:D} {st:Store} (h:RaisedAt w k d st):raisedD d st=true:=by
 obtain ⟨i,rfl,hi⟩:=h
 simp [raisedD,hi]
theorem yaR {st:Store} {xs ys:List Int} (hx:xs.length≤1000) (hy:ys.length≤1000):Wp (Zau [flD xs ys] st) fun d st'=>Ex [] st st'∧DuR (du xs ys) d st':=by
 refine xaD ?_
 show Ws (xay [some (flD xs ys),none,none] st) _ _ _ _
 unfold xay
 have hf0:∀ {s:Store} {Q:D→Store→Prop},Wp (gIxT (flD xs ys) (.int 0) s) Q↔Q (tI xs) s:=Xaa
 have hf1:∀ {s:Store} {Q:D→Store→Prop},Wp (gIxT (flD xs ys) (.int 1) s) Q↔Q (tI ys) s:=Xaa
 have hsx:∀ s:Store,seqOf s (tI xs)=some (xs.map D.int):=fun _=>rfl
 have hsy:∀ s:Store,seqOf s (tI ys)=some (ys.map D.int):=fun _=>rfl
 refine zad (ya5 (yaf ?_))
 refine zab ?_
 intro qhQ hQ
 set_option simprocs false in simp only [wpB,hf0]
 refine hQ _ _ (zad (ya5 (yaf ?_)))
 clear hQ
 refine zab ?_
 intro qhQ hQ
 set_option simprocs false in simp only [wpB,hf1]
 refine hQ _ _ (zad (zas ?_))
 clear hQ
 refine zab ?_
 intro qhQ hQ
 set_option simprocs false in simp only [wpB,hsx,hsy]
 have key:qhQ (decide (xs.length < 1∨20 < xs.length∨ys.length≠xs.length)) st:=by
  refine hQ _ _ ⟨fun h=>yaP ?_,fun h=>ya5 (xag (zad (YaW ?_)))⟩
  ·have h:=of_decide_eq_true h
   clear hQ
   refine zab ?_
   intro qhQ hQ
   set_option simprocs false in simp only [wpB,hsx]
   refine hQ _ _ ⟨Ex.app0 _,?_⟩
   unfold du
   rw [if_pos h,List.length_map]
   exact ⟨_,rfl,yah⟩
  ·have h:=of_decide_eq_false h
   have ed:du xs ys=(match Mth.am xs with
    | some k=>some ("right",(k:Int))
    | none=>match Mth.am ys with
     | some k=>some ("up",(k:Int))
     | none=>match Mth.fu xs ys xs.length with
      | some s=>some ("parted",(s:Int))
      | none=>none):=by unfold du;rw [if_neg h]
   rw [ed]
   clear hQ ed
   refine zab ?_
   intro qhQ hQ
   set_option simprocs false in simp only [wpB]
   refine hQ _ _ ?_
   clear hQ
   refine xab (YaB (xs:=xs) (w:="right") hx) ?_
   rintro d s1 ⟨k1,h1⟩
   cases ax:Mth.am xs with
   | some k =>
    rw [ax] at h1
    exact ⟨fun _=>⟨k1,h1⟩,fun z=>by rw [YaG h1] at z;cases z⟩
   | none =>
    rw [ax] at h1
    subst h1
    refine ⟨fun z=>(by cases (show false=true from z)),fun _=>zad (YaW ?_)⟩
    refine zab ?_
    intro qhQ hQ
    set_option simprocs false in simp only [wpB]
    refine hQ _ _ ?_
    clear hQ
    refine xab (YaB (xs:=ys) (w:="up") hy) ?_
    rintro d s2 ⟨k2,h2⟩
    cases ay:Mth.am ys with
    | some k =>
     rw [ay] at h2
     exact ⟨fun _=>⟨k1.trans k2,h2⟩,fun z=>by rw [YaG h2] at z;cases z⟩
    | none =>
     rw [ay] at h2
     subst h2
     refine ⟨fun z=>(by cases (show false=true from z)),fun _=>zad (YaW ?_)⟩
     refine zab ?_
     intro qhQ hQ
     set_option simprocs false in simp only [wpB]
     refine hQ _ _ ?_
     clear hQ
     have tx:=Mth.Ybu ax
     have ty:Mth.Tn xs.length ys:=by
      have:=Mth.Ybu ay
      rwa [show ys.length=xs.length by omega] at this
     refine xab (XaP tx ty (by omega) (by omega)) ?_
     rintro d s3 ⟨k3,h3⟩
     cases af:Mth.fu xs ys xs.length with
     | some k =>
      rw [af] at h3
      exact ⟨fun _=>⟨(k1.trans k2).trans k3,h3⟩,fun z=>by rw [YaG h3] at z;cases z⟩
     | none =>
      rw [af] at h3
      subst h3
      refine ⟨fun z=>(by cases (show false=true from z)),fun _=>ya5 (zaj ?_)⟩
      refine zab ?_
      intro qhQ hQ
      set_option simprocs false in simp only [wpB]
      exact hQ _ _ ⟨rfl,(k1.trans k2).trans k3,rfl⟩
 clear hQ
 rw [List.length_map,List.length_map]
 by_cases a1:xs.length < 1
 ·rw [decide_eq_true (show xs.length < 1∨20 < xs.length∨ys.length≠xs.length from .inl a1)] at key
  rw [if_pos (decide_eq_true (show ((xs.length:Nat):Int) < 1 by omega))];exact key
 rw [if_neg (by rw [decide_eq_true_eq];omega)]
 by_cases a2:20 < xs.length
 ·rw [decide_eq_true (show xs.length < 1∨20 < xs.length∨ys.length≠xs.length from .inr (.inl a2))] at key
  rw [if_pos (decide_eq_true (show (20:Int) < ((xs.length:Nat):Int) by omega))];exact key
 rw [if_neg (by rw [decide_eq_true_eq];omega)]
 by_cases a3:ys.length=xs.length
 ·rw [decide_eq_false (show ¬ (xs.length < 1∨20 < xs.length∨ys.length≠xs.length) by omega)] at key
  rw [decide_eq_true (show ((ys.length:Nat):Int)=((xs.length:Nat):Int) by omega)];exact key
 ·rw [decide_eq_true (show xs.length < 1∨20 < xs.length∨ys.length≠xs.length from .inr (.inr a3))] at key
  rw [decide_eq_false (show ¬ ((ys.length:Nat):Int)=((xs.length:Nat):Int) by omega)];exact key
theorem zaQ {st:Store} {xs ys:List Int} (hx:xs.length≤1000) (hy:ys.length≤1000):Wp (zal [flD xs ys] st) fun d st'=>d=duD (du xs ys)∧Ex [] st st':=by
 refine xaD ?_
 show Ws (yaw [some (flD xs ys),none,none,none,none] st) _ _ _ _
 unfold yaw
 refine zad (yaf ?_)
 refine zab ?_
 intro qhQ hQ
 set_option simprocs false in simp only [wpB]
 refine hQ _ _ (zad (yaf ?_))
 clear hQ
 refine zab ?_
 intro qhQ hQ
 set_option simprocs false in simp only [wpB]
 refine hQ _ _ (zad (ws_try (XbL ?_)))
 clear hQ
 refine zab ?_
 intro qhQ hQ
 set_option simprocs false in simp only [wpB]
 refine hQ _ _ ?_
 clear hQ
 refine xab (yaR hx hy) ?_
 rintro d s1 ⟨k1,h1⟩
 cases e:du xs ys with
 | none =>
  rw [e] at h1
  have h1:d=.bl true:=h1
  subst h1
  have hN:∀ {s:Store} {Q:D→Store→Prop},Wp (gIsN false .non .non s) Q↔Q (.bl true) s:=Xaa
  have hB:∀ {s:Store} {Q:D→Store→Prop},Wp (gIsB false (.bl true) (.bl true) s) Q↔Q (.bl true) s:=Xaa
  refine ⟨fun z=>(by cases (show false=true from z)),fun _=>zad (zas ?_)⟩
  refine zab ?_
  intro qhQ hQ
  set_option simprocs false in simp only [wpB,hN]
  refine hQ _ _ ⟨fun _=>zaj ?_,fun z=>(nomatch z)⟩
  clear hQ
  refine zab ?_
  intro qhQ hQ
  set_option simprocs false in simp only [wpB,hB]
  exact ⟨rfl,rfl,hQ _ _ ⟨rfl,k1.trans (Ex.app0 _)⟩⟩
 | some p =>
  obtain ⟨w,k⟩:=p
  rw [e] at h1
  have hr:=YaG h1
  obtain ⟨i,rfl,hi⟩:=h1
  have hN:∀ {s:Store} {Q:D→Store→Prop},Wp (gIsN false (.ref i) .non s) Q↔Q (.bl false) s:=Xaa
  refine ⟨fun _=>⟨fun z=>(by rw [hr] at z;cases z),fun _=>⟨by simp [catches,hi,sub1],yaf ?_⟩⟩,fun z=>(by rw [hr] at z;cases z)⟩
  refine zab ?_
  intro qhQ hQ
  set_option simprocs false in simp only [wpB]
  refine hQ _ _ (zad (zas ?_))
  clear hQ
  refine zab ?_
  intro qhQ hQ
  set_option simprocs false in simp only [wpB,hN]
  refine hQ _ _ ⟨fun z=>(nomatch z),fun _=>xag (zad (yaf ?_))⟩
  clear hQ
  refine zab ?_
  intro qhQ hQ
  set_option simprocs false in simp only [wpB,zbD]
  refine isxq hi ?_
  refine hQ _ _ (zad (zas ?_))
  clear hQ
  refine zab ?_
  intro qhQ hQ
  set_option simprocs false in simp only [wpB,zbD]
  refine isxq hi ⟨true,rfl,?_⟩
  rw [if_neg (by decide)]
  refine isxq hi ⟨true,rfl,?_⟩
  rw [if_neg (by decide)]
  refine hQ _ _ ⟨fun z=>(nomatch z),fun _=>xag (zaj ?_)⟩
  clear hQ
  refine zab ?_
  intro qhQ hQ
  set_option simprocs false in simp only [wpB]
  refine Ybq ⟨_,_,rfl,xgetq hi (show List.lookup ("word" : Str) (fxD w k)=some (D.str w) from rfl) ?_⟩
  refine Ybq ⟨_,_,rfl,xgetq hi (show List.lookup ("at" : Str) (fxD w k)=some (D.int k) from rfl) ?_⟩
  exact ⟨rfl,hQ _ _ ⟨rfl,k1⟩⟩
theorem Xbq {s:Store} {Q:D→Store→Prop} {o:Option Nat}:Wp (gIsN true (amD o) .non s) Q↔Q (.bl o.isSome) s:=by
 cases o <;> exact Xaa
theorem ybA {st:Store} {xs ys:List Int} (hx:xs.length≤1000) (hy:ys.length≤1000):Wp (Yam [flD xs ys] st) fun d st'=>d=duD (du xs ys)∧Ex [] st st':=by
 refine xaD ?_
 show Ws (Xar [some (flD xs ys),none,none,none,none,none] st) _ _ _ _
 unfold Xar
 have hf0:∀ {s:Store} {Q:D→Store→Prop},Wp (gIxT (flD xs ys) (.int 0) s) Q↔Q (tI xs) s:=Xaa
 have hf1:∀ {s:Store} {Q:D→Store→Prop},Wp (gIxT (flD xs ys) (.int 1) s) Q↔Q (tI ys) s:=Xaa
 have hsx:∀ s:Store,seqOf s (tI xs)=some (xs.map D.int):=fun _=>rfl
 have hsy:∀ s:Store,seqOf s (tI ys)=some (ys.map D.int):=fun _=>rfl
 refine zad (yaf ?_)
 refine zab ?_
 intro qhQ hQ
 set_option simprocs false in simp only [wpB,hf0,hsx]
 refine hQ _ _ (zad (zas ?_))
 clear hQ
 refine zab ?_
 intro qhQ hQ
 set_option simprocs false in simp only [wpB,hf1,hsy]
 rw [List.length_map,List.length_map]
 have key:qhQ (decide (xs.length < 1∨20 < xs.length∨ys.length≠xs.length)) st:=by
  refine hQ _ _ ⟨fun h=>zaj ?_,fun h=>xag (zad ?_)⟩
  ·have h:=of_decide_eq_true h
   clear hQ
   refine zab ?_
   intro qhQ hQ
   set_option simprocs false in simp only [wpB]
   refine ⟨rfl,hQ _ _ ⟨?_,Ex.refl⟩⟩
   unfold du
   rw [if_pos h,List.length_map];rfl
  ·have h:=of_decide_eq_false h
   have ed:du xs ys=(match Mth.am xs with
    | some k=>some ("right",(k:Int))
    | none=>match Mth.am ys with
     | some k=>some ("up",(k:Int))
     | none=>match Mth.fu xs ys xs.length with
      | some s=>some ("parted",(s:Int))
      | none=>none):=by unfold du;rw [if_neg h];try rfl
   clear hQ
   rw [List.length_map]
   refine xbp (zipD [D.str "right",D.str "up"] [tI xs,tI ys]) (fun i δ s=>∃ v u:Option D,δ=[some (flD xs ys),some (.int (xs.length:Int)),v,u,none,none]∧(1≤i→Mth.am xs=none)∧(2≤i→Mth.am ys=none)∧Ex [] (st ++ [O.lst [D.str "right",D.str "up"]]) s) ?_ (by show 2 < _;decide) ?_ ?_
   ·refine zab ?_
    intro qhQ hQ
    set_option simprocs false in simp only [wpB,xby]
    refine ⟨rfl,_,_,⟨rfl,rfl⟩,_,Zal,_,rfl,hQ _ _ ⟨?_,_,_,rfl,fun z=>(nomatch z),fun z=>(nomatch z),Ex.refl⟩⟩
    rintro i δ s hi ⟨_,_,_,_,_,k⟩
    exact (show SrcOk _ (zipD [D.str "right",D.str "up"] [tI xs,tI ys]) _ from src_zl Zal) i s hi k
   ·rintro i d δ s hd ⟨v,u,rfl,a1,a2,k1⟩
    have hi2:i < 2:=xad hd
    rcases (show i=0∨i=1 by omega) with rfl | rfl
    ·cases (show some (D.tup [.str "right",tI xs])=some d from hd)
     refine ⟨_,_,rfl,zas ?_⟩
     refine zab ?_
     intro qhQ hQ
     set_option simprocs false in simp only [wpB]
     refine xab (ZaD (xs:=xs) hx) ?_
     rintro d s1 ⟨rfl,k2⟩
     rw [Xbq]
     refine ⟨_,rfl,hQ _ _ ⟨fun z=>zaj ?_,fun z=>xag ⟨_,_,rfl,fun _=>?_,fun q=>absurd q (by omega),k1.trans k2⟩⟩⟩
     ·clear hQ
      refine zab ?_
      intro qhQ hQ
      set_option simprocs false in simp only [wpB]
      refine xab (ZaD (xs:=xs) hx) ?_
      rintro d s2 ⟨rfl,k3⟩
      cases ax:Mth.am xs with
      | none=>rw [ax] at z;cases z
      | some k=>exact ⟨rfl,hQ _ _ ⟨by rw [ed,ax];rfl,(((Ex.app0 _).trans k1).trans k2).trans k3⟩⟩
     ·cases ax:Mth.am xs with
      | none=>rfl
      | some k=>rw [ax] at z;cases z
    ·cases (show some (D.tup [.str "up",tI ys])=some d from hd)
     refine ⟨_,_,rfl,zas ?_⟩
     refine zab ?_
     intro qhQ hQ
     set_option simprocs false in simp only [wpB]
     refine xab (ZaD (xs:=ys) hy) ?_
     rintro d s1 ⟨rfl,k2⟩
     rw [Xbq]
     refine ⟨_,rfl,hQ _ _ ⟨fun z=>zaj ?_,fun z=>xag ⟨_,_,rfl,fun _=>a1 (by omega),fun _=>?_,k1.trans k2⟩⟩⟩
     ·clear hQ
      refine zab ?_
      intro qhQ hQ
      set_option simprocs false in simp only [wpB]
      refine xab (ZaD (xs:=ys) hy) ?_
      rintro d s2 ⟨rfl,k3⟩
      cases ay:Mth.am ys with
      | none=>rw [ay] at z;cases z
      | some k=>exact ⟨rfl,hQ _ _ ⟨by rw [ed,a1 (by omega),ay];rfl,(((Ex.app0 _).trans k1).trans k2).trans k3⟩⟩
     ·cases ay:Mth.am ys with
      | none=>rfl
      | some k=>rw [ay] at z;cases z
   ·rintro δ s ⟨v,u,rfl,a1,a2,k1⟩
    have ax:=a1 (show 1≤2 by decide)
    have ay:=a2 (show 2≤2 by decide)
    have ed:du xs ys=(match Mth.fu xs ys xs.length with
      | some s=>some ("parted",(s:Int))
      | none=>none):=by rw [ed,ax,ay]
    have tx:=Mth.Ybu ax
    have ty:Mth.Tn xs.length ys:=by
     have:=Mth.Ybu ay
     rwa [show ys.length=xs.length by omega] at this
    have n0:0 < xs.length:=by omega
    have n20:xs.length≤20:=by omega
    have k0:Ex [] st s:=(Ex.app0 _).trans k1
    refine zad (yaf ?_)
    refine zab ?_
    intro qhQ hQ
    set_option simprocs false in simp only [wpB]
    refine xab (Ya9 tx ty n0 (by omega)) ?_
    rintro d s1 ⟨g,F,rfl,hg,hF,hFl,k2⟩
    refine hQ _ _ (zad (yaf ?_))
    clear hQ
    have pe:∀ k:Nat,(!F.contains (k:Int))=(!(Mth.bf xs ys 0 xs.length).contains (k:Int)):=fun k=>by
     congr 1
     rw [Bool.eq_iff_iff,List.contains_iff_mem,List.contains_iff_mem,hF,Mth.YbB tx ty n0]
    refine zab ?_
    intro _ hQ
    refine Xby (rangeD 0 xs.length) (fun d=>match d with | .int z=>!F.contains z | _=>false) (fun d=>d) ?_ (by rw [Zac];omega) ?_ ?_ ?_
    ·refine zab ?_
     intro qhQ2 hQ2
     set_option simprocs false in simp only [wpB]
     rw [Int.toNat_natCast]
     exact ⟨by omega,hQ2 _ _ ⟨xa4 _ _,Ex.refl⟩⟩
    ·intro d hd s3 k3
     obtain ⟨i,hi⟩:=List.getElem?_of_mem hd
     have hil:=xad hi
     rw [Zac] at hil
     rw [yat hil] at hi
     cases hi
     have hg3:seqOf s3 (.ref g)=some (F.map D.int):=zaI hg k3
     refine zab ?_
     intro qhQ2 hQ2
     set_option simprocs false in simp only [wpB,List.map_cons,List.map_nil,List.getD_cons_succ,List.getD_cons_zero,XaO (c:=.ref g) (ns:=F) hg3]
     exact hQ2 _ _ ⟨rfl,Ex.refl⟩
    ·intro d hd _ s3 k3
     refine zab ?_
     intro qhQ2 hQ2
     set_option simprocs false in simp only [wpB]
     exact hQ2 _ _ ⟨rfl,Ex.refl⟩
    ·intro s3 k3
     have k4:Ex [] st s3:=(k0.trans k2).trans k3
     have ef:((rangeD 0 xs.length).filter fun d=>match d with | .int z=>!F.contains z | _=>false).map (fun d=>d)=((List.range xs.length).filter fun (k:Nat)=>!(Mth.bf xs ys 0 xs.length).contains (k:Int)).map fun (k:Nat)=>D.int (0 + (k:Int)):=by
      unfold rangeD
      rw [List.map_id',List.filter_map]
      congr 1
      refine List.filter_congr fun k hk=>?_
      show (!F.contains (0 + (k:Int)))=_
      rw [Int.zero_add];exact pe k
     rw [ef]
     refine hQ _ _ (zaj ?_)
     clear hQ
     obtain ⟨L,eL,hLl,hd0⟩:∃ L:List Int,(((List.range xs.length).filter fun (k:Nat)=>!(Mth.bf xs ys 0 xs.length).contains (k:Int)).map fun (k:Nat)=>D.int (0 + (k:Int)))=L.map D.int∧L.length≤20∧L.head?=(Mth.fu xs ys xs.length).map fun (k:Nat)=>(k:Int):=by
      refine ⟨((List.range xs.length).filter fun (k:Nat)=>!(Mth.bf xs ys 0 xs.length).contains (k:Int)).map fun (k:Nat)=>(k:Int),?_,?_,?_⟩
      ·rw [List.map_map];refine List.map_congr_left fun k _=>?_;show D.int (0 + (k:Int))=D.int (k:Int);rw [Int.zero_add]
      ·rw [List.length_map];refine Nat.le_trans (List.length_filter_le _ _) ?_;rw [List.length_range];exact n20
      ·rw [List.head?_map,List.head?_filter];rfl
     rw [eL]
     clear ef eL
     generalize hx0:(L ++ [0]).headD 0=x0
     have eat:atI (L.map D.int ++ [D.int 0]) 0=some (.int x0):=by
      cases L with
      | nil=>rw [← hx0];exact at0 _ _
      | cons a r=>rw [← hx0];exact at0 _ _
     refine zab ?_
     intro qhQ hQ
     set_option simprocs false in simp only [wpB]
     refine ⟨rfl,yam (by rw [List.length_map];show _ + 1≤_;omega),.int x0,eat,rfl,rfl,rfl,?_⟩
     refine (Ybo (L:=L) (M:=[]) (Zad (yaj (yaj (yaj (yaj yah))))) Zal).mpr ?_
     have k5:Ex [] st (s3 ++ [O.lst (L.map D.int)] ++ [O.lst [D.int 0]] ++ [O.lst (L.map D.int ++ [D.int 0])] ++ [O.lst [D.non,D.tup [D.str "parted",D.int x0]]] ++ [O.lst []]):=((((k4.app _).app _).app _).app _).app _
     have hm:items (s3 ++ [O.lst (L.map D.int)] ++ [O.lst [D.int 0]] ++ [O.lst (L.map D.int ++ [D.int 0])] ++ [O.lst [D.non,D.tup [D.str "parted",D.int x0]]] ++ [O.lst []]) (List.length (s3 ++ [O.lst (L.map D.int)] ++ [O.lst [D.int 0]] ++ [O.lst (L.map D.int ++ [D.int 0])]))=some [D.non,D.tup [D.str "parted",D.int x0]]:=Zad (yaj yah)
     cases L with
     | nil =>
      have af:Mth.fu xs ys xs.length=none:=by
       cases z:Mth.fu xs ys xs.length with
       | none=>rfl
       | some k=>rw [z] at hd0;cases hd0
      set_option simprocs false in simp only [wpB,hm]
      rw [if_neg (by decide)]
      exact ⟨_,at0 _ _,hQ _ _ ⟨by rw [ed,af];rfl,k5⟩⟩
     | cons a r =>
      obtain ⟨k,af,ek⟩:∃ k,Mth.fu xs ys xs.length=some k∧a=(k:Int):=by
       cases z:Mth.fu xs ys xs.length with
       | none=>rw [z] at hd0;cases hd0
       | some k=>rw [z] at hd0;exact ⟨k,rfl,by cases hd0;rfl⟩
      set_option simprocs false in simp only [wpB,hm]
      rw [if_pos (by simp)]
      refine ⟨_,at1 _ _ _,hQ _ _ ⟨?_,k5⟩⟩
      rw [ed,af,← hx0,ek];rfl
 clear hQ
 by_cases a1:xs.length < 1
 ·rw [decide_eq_true (show xs.length < 1∨20 < xs.length∨ys.length≠xs.length from .inl a1)] at key
  rw [if_pos (decide_eq_true (show ((xs.length:Nat):Int) < 1 by omega))];exact key
 rw [if_neg (by rw [decide_eq_true_eq];omega)]
 by_cases a2:20 < xs.length
 ·rw [decide_eq_true (show xs.length < 1∨20 < xs.length∨ys.length≠xs.length from .inr (.inl a2))] at key
  rw [if_pos (decide_eq_true (show (20:Int) < ((xs.length:Nat):Int) by omega))];exact key
 rw [if_neg (by rw [decide_eq_true_eq];omega)]
 by_cases a3:ys.length=xs.length
 ·rw [decide_eq_false (show ¬ (xs.length < 1∨20 < xs.length∨ys.length≠xs.length) by omega)] at key
  rw [decide_eq_true (show ((ys.length:Nat):Int)=((xs.length:Nat):Int) by omega)];exact key
 ·rw [decide_eq_true (show xs.length < 1∨20 < xs.length∨ys.length≠xs.length from .inr (.inr a3))] at key
  rw [decide_eq_false (show ¬ ((ys.length:Nat):Int)=((xs.length:Nat):Int) by omega)];exact key
theorem du_fl {n:Nat} {xs ys:List Int} (fl:IsFl n xs ys) (n1:1≤n) (n20:n≤20):du xs ys=none:=by
 obtain ⟨tx,ty,all⟩:=fl
 have hlx:=tx.length
 have hly:=ty.length
 unfold du
 rw [if_neg (by omega),Mth.tn_am tx,Mth.tn_am ty,hlx]
 have:Mth.fu xs ys n=none:=Mth.Yaz fun j hj=>by
  rw [Bool.not_eq_false',List.contains_iff_mem,Mth.YbB tx ty (by omega)]
  exact all _ (by omega) (by omega)
 rw [this]
theorem pU_du (xs ys:List Int):pU 2 (duD (du xs ys)):=by
 have two:∀ (w:Str) (k:Int),PyData.canLay0 (.str w)=true→pU 2 (.tup [.str w,.int k]):=fun w k h d hd=>by
  simp only [List.mem_cons,List.not_mem_nil,or_false] at hd
  rcases hd with rfl | rfl
  ·exact h
  ·trivial
 unfold du
 split
 ·exact two _ _ (by decide +kernel)
 ·split
  ·exact two _ _ (by decide +kernel)
  ·split
   ·exact two _ _ (by decide +kernel)
   ·split
    ·exact two _ _ (by decide +kernel)
    ·trivial
theorem Xa9 {xs:List Int} {j:Nat}:cutD (xs.map D.int) none (some (j:Int))=(xs.take j).map D.int:=by rw [XaH,List.map_take]
theorem ZaK {xs:List Int} {j:Nat}:cutD (xs.map D.int) (some (j:Int)) none=(xs.drop j).map D.int:=by rw [Xbo,List.map_drop]
theorem Za1 {st:Store} {f:Nat} {xs:List Int} (hf:FeedIs st f) (hl:xs.length≤500):Wp (yao [.ref f,tI xs] st) fun d st'=>∃ zs:List Int,d=tI zs∧zs.length≤xs.length + 1∧FeedIs st' f∧Ex [f] st st':=by
 refine xaD ?_
 show Ws (zaB [some (.ref f),some (tI xs),none,none,none,none,none] st) _ _ _ _
 unfold zaB
 have hsx:∀ s:Store,seqOf s (tI xs)=some (xs.map D.int):=fun _=>rfl
 refine zad (yaf ?_)
 refine zab ?_
 intro qhQ hQ
 set_option simprocs false in simp only [wpB]
 refine xab (xaj (n:=7) hf (by decide) (by decide)) ?_
 rintro d s1 ⟨fo,rfl,fo0,fo1,f1,k1⟩
 refine hQ _ _ (zad (yaf ?_))
 clear hQ
 refine zab ?_
 intro qhQ hQ
 set_option simprocs false in simp only [wpB,hsx]
 rw [List.length_map]
 refine xab (xaj (n:=(xs.length:Int) + 1) f1 (by omega) (by omega)) ?_
 rintro d s2 ⟨a,rfl,a0,a1,f2,k2⟩
 obtain ⟨k,rfl⟩:∃ k:Nat,a=(k:Int):=⟨a.toNat,by omega⟩
 refine hQ _ _ (zad (yaf ?_))
 clear hQ
 refine zab ?_
 intro qhQ hQ
 set_option simprocs false in simp only [wpB,hsx]
 refine ⟨⟨by decide,by decide,by decide⟩,rfl,?_⟩
 refine xab (xaj (n:=4) (f2.keep (Ex.app0 _)) (by decide) (by decide)) ?_
 rintro d s3 ⟨b,rfl,b0,b1,f3,k3⟩
 have hi3:=k3.keep s2.length _ yah (by have:=f2.lt;simp;omega)
 obtain ⟨nu,hnu⟩:∃ nu:Int,atI [D.int (-1),D.int ((xs.map D.int).length:Int),D.int (0 - ((xs.map D.int).length:Int)),D.int (10 ^ Int.toNat 18)] b=some (.int nu):=by
  rcases (show b=0∨b=1∨b=2∨b=3 by omega) with rfl | rfl | rfl | rfl
  ·exact ⟨_,at0 _ _⟩
  ·exact ⟨_,at1 _ _ _⟩
  ·exact ⟨_,at2 _ _ _ _⟩
  ·exact ⟨_,at3 _ _ _ _ _⟩
 set_option simprocs false in simp only [wpB,Zad hi3,hnu]
 have k13:Ex [f] st s3:=(k1.trans k2).trans ((Ex.app0 _).trans k3)
 have tx:tI xs=.tup (xs.map D.int):=rfl
 have e1:((k:Int) + 1)=((k + 1:Nat):Int):=by omega
 refine hQ _ _ (zad (zas ?_))
 clear hQ
 refine zab ?_
 intro qhQ hQ
 set_option simprocs false in simp only [wpB,hsx]
 rw [List.length_map]
 have key:∀ b:Bool,((b=false)→fo≠0∧k < xs.length)→qhQ b s3:=fun b hb=>by
  refine hQ _ _ ⟨fun z=>zaj ?_,fun z=>xag (zad (zas ?_))⟩
  ·clear hQ
   refine zab ?_
   intro qhQ hQ
   set_option simprocs false in simp only [wpB,tx,Xa9,ZaK]
   exact ⟨rfl,yam (by simp;omega),yam (by simp;omega),hQ _ _ ⟨xs.take k ++ [nu] ++ xs.drop k,by unfold tI;simp,by simp;omega,f3,k13⟩⟩
  ·obtain ⟨fo2,hk⟩:=hb z
   clear hQ
   refine zab ?_
   intro qhQ hQ
   set_option simprocs false in simp only [wpB]
   refine hQ _ _ ⟨fun z=>zaj ?_,fun z=>xag (zad (zas ?_))⟩
   ·clear hQ
    refine zab ?_
    intro qhQ hQ
    set_option simprocs false in simp only [wpB,tx,e1,Xa9,ZaK]
    exact ⟨yam (by simp;omega),hQ _ _ ⟨xs.take k ++ xs.drop (k + 1),by unfold tI;simp,by simp;omega,f3,k13⟩⟩
   clear hQ
   refine zab ?_
   intro qhQ hQ
   set_option simprocs false in simp only [wpB]
   refine hQ _ _ ⟨fun z=>zaj ?_,fun z=>xag (zad (yaf ?_))⟩
   ·clear hQ
    refine zab ?_
    intro qhQ hQ
    set_option simprocs false in simp only [wpB,tx,e1,Xa9,ZaK]
    exact ⟨rfl,yam (by simp;omega),yam (by simp;omega),hQ _ _ ⟨xs.take k ++ [nu] ++ xs.drop (k + 1),by unfold tI;simp,by simp;omega,f3,k13⟩⟩
   clear hQ
   refine zab ?_
   intro qhQ hQ
   set_option simprocs false in simp only [wpB,hsx]
   rw [List.length_map]
   refine xab (xaj (n:=(xs.length:Int)) f3 (by omega) (by omega)) ?_
   rintro d s4 ⟨o,rfl,o0,o1,f4,k4⟩
   obtain ⟨j,rfl⟩:∃ j:Nat,o=(j:Int):=⟨o.toNat,by omega⟩
   have k14:=k13.trans k4
   refine hQ _ _ (zad (zas ?_))
   clear hQ
   refine zab ?_
   intro qhQ hQ
   set_option simprocs false in simp only [wpB]
   refine hQ _ _ ⟨fun z=>zaj ?_,fun z=>xag (zad (yaf ?_))⟩
   ·clear hQ
    refine zab ?_
    intro qhQ hQ
    set_option simprocs false in simp only [wpB,tx,e1,Xa9,ZaK,xa9 (xs:=xs) (k:=j) (by omega)]
    exact ⟨rfl,yam (by simp;omega),yam (by simp;omega),hQ _ _ ⟨xs.take k ++ [xs.getD j 0] ++ xs.drop (k + 1),by unfold tI;simp,by simp;omega,f4,k14⟩⟩
   clear hQ
   refine zab ?_
   intro qhQ hQ
   set_option simprocs false in simp only [wpB,hsx]
   refine hQ _ _ (zad (za0 ?_))
   clear hQ
   have hit:items (s4 ++ [O.lst (xs.map D.int)]) s4.length=some (xs.map D.int):=Zal
   refine zab ?_
   intro qhQ hQ
   set_option simprocs false in simp only [wpB,hit,xa9 (xs:=xs) (k:=j) (by omega),xa9 (xs:=xs) (k:=k) hk]
   refine ⟨rfl,hQ _ _ ?_⟩
   clear hQ
   have r1:(s4 ++ [O.lst (xs.map D.int)])[s4.length]?=some (.lst (xs.map D.int)):=yah
   have x1:ixN (xs.map D.int).length (k:Int)=some k:=yaM (by rw [List.length_map];exact hk)
   have r2:((s4 ++ [O.lst (xs.map D.int)]).set s4.length (.lst ((xs.map D.int).set k (.int (xs.getD j 0)))))[s4.length]?=some (.lst ((xs.map D.int).set k (.int (xs.getD j 0)))):=List.getElem?_set_self (xad r1)
   have x2:ixN ((xs.map D.int).set k (.int (xs.getD j 0))).length (j:Int)=some j:=yaM (by rw [List.length_set,List.length_map];omega)
   refine zab ?_
   intro qhQ hQ
   set_option simprocs false in simp only [wpB,zan r1,x1]
   refine ⟨rfl,_,zan r2,j,x2,hQ _ _ (zaj ?_)⟩
   clear hQ
   have f4n:s4.length≠f:=by have:=f4.lt;omega
   have es:((xs.map D.int).set k (.int (xs.getD j 0))).set j (.int (xs.getD k 0))=(((xs.set k (xs.getD j 0)).set j (xs.getD k 0))).map D.int:=by rw [List.map_set,List.map_set]
   rw [es]
   have hend:items (((s4 ++ [O.lst (xs.map D.int)]).set s4.length (.lst ((xs.map D.int).set k (.int (xs.getD j 0))))).set s4.length (.lst (((xs.set k (xs.getD j 0)).set j (xs.getD k 0)).map D.int))) s4.length=some (((xs.set k (xs.getD j 0)).set j (xs.getD k 0)).map D.int):=Zad (List.getElem?_set_self (xad r2))
   refine zab ?_
   intro qhQ hQ
   set_option simprocs false in simp only [wpB,hend]
   refine hQ _ _ ⟨(xs.set k (xs.getD j 0)).set j (xs.getD k 0),rfl,by simp,((f4.keep (Ex.app0 _)).ne f4n).ne f4n,((k14.app _).loc k14.len).loc k14.len⟩
 clear hQ
 by_cases c1:fo=0
 ·rw [if_pos (decide_eq_true c1)];exact key true fun z=>(nomatch z)
 ·rw [if_neg (by simpa using c1)]
  refine key _ fun z=>⟨c1,?_⟩
  have:=of_decide_eq_false z
  omega
theorem Ya1 {st:Store} {xs ys us vs:List Int} (h1:xs.length≤500) (h2:ys.length≤500) (h3:us.length≤500) (h4:vs.length≤500):Wp (xaq [flD xs ys,flD us vs] st) fun d st'=>∃ as bs:List Int,d=flD as bs∧as.length=xs.length + us.length∧bs.length=ys.length + vs.length∧Ex [] st st':=by
 refine xaD ?_
 show Ws (xav [some (flD xs ys),some (flD us vs),none] st) _ _ _ _
 unfold xav
 have hf0:∀ {xs ys:List Int} {s:Store} {Q:D→Store→Prop},Wp (gIxT (flD xs ys) (.int 0) s) Q↔Q (tI xs) s:=Xaa
 have hf1:∀ {xs ys:List Int} {s:Store} {Q:D→Store→Prop},Wp (gIxT (flD xs ys) (.int 1) s) Q↔Q (tI ys) s:=Xaa
 have hsx:∀ s:Store,seqOf s (tI xs)=some (xs.map D.int):=fun _=>rfl
 refine zad (yaf ?_)
 refine zab ?_
 intro qhQ hQ
 set_option simprocs false in simp only [wpB,hf0,hsx]
 rw [List.length_map]
 refine hQ _ _ (zaj ?_)
 clear hQ
 refine zab ?_
 intro qhQ hQ
 set_option simprocs false in simp only [wpB]
 refine xaS (rangeD 0 2) (fun d=>if inD d=0 then tI (xs ++ us.map fun x=>(xs.length:Int) + x) else tI (ys ++ vs.map fun x=>(xs.length:Int) + x)) ?_ (by rw [Zac];omega) ?_ ?_
 ·refine zab ?_
  intro qhQ2 hQ2
  set_option simprocs false in simp only [wpB]
  exact ⟨by decide,hQ2 _ _ ⟨xa4 _ _,Ex.refl⟩⟩
 ·intro d hd st1 k1
  obtain ⟨k,zs,ws,rfl,hz,hw,iz,iw,e⟩:∃ (k:Int) (zs ws:List Int),d=.int k∧zs.length≤500∧ws.length≤500∧(∀ {s:Store} {Q:D→Store→Prop},Wp (gIxT (flD xs ys) (.int k) s) Q↔Q (tI zs) s)∧(∀ {s:Store} {Q:D→Store→Prop},Wp (gIxT (flD us vs) (.int k) s) Q↔Q (tI ws) s)∧(if inD d=0 then tI (xs ++ us.map fun x=>(xs.length:Int) + x) else tI (ys ++ vs.map fun x=>(xs.length:Int) + x))=tI (zs ++ ws.map fun x=>(xs.length:Int) + x):=by
   rcases List.mem_cons.mp (show d∈[D.int 0,D.int 1] from hd) with rfl | h
   ·exact ⟨0,xs,us,rfl,h1,h3,hf0,hf0,rfl⟩
   ·rw [List.mem_singleton.mp h]
    exact ⟨1,ys,vs,rfl,h2,h4,hf1,hf1,rfl⟩
  rw [e]
  refine zab ?_
  intro qhQ2 hQ2
  set_option simprocs false in simp only [wpB,List.map_cons,List.map_nil,List.getD_cons_succ,List.getD_cons_zero,iz]
  refine xaS (ws.map D.int) (fun d=>.int ((xs.length:Int) + inD d)) ?_ (by rw [List.length_map];omega) ?_ ?_
  ·refine zab ?_
   intro qhQ3 hQ3
   set_option simprocs false in simp only [wpB,iw]
   exact ⟨_,rfl,hQ3 _ _ ⟨xa4 _ _,Ex.refl⟩⟩
  ·intro d hd st2 k2
   obtain ⟨x,hx,rfl⟩:=Zby hd
   refine zab ?_
   intro qhQ3 hQ3
   set_option simprocs false in simp only [wpB,List.map_cons,List.map_nil,List.getD_cons_succ,List.getD_cons_zero]
   exact hQ3 _ _ ⟨rfl,Ex.refl⟩
  ·intro st2 k2
   refine ⟨_,Zal,?_⟩
   have e:D.tup ((ws.map D.int).map fun d=>D.int ((xs.length:Int) + inD d))=.tup ((ws.map fun x=>(xs.length:Int) + x).map D.int):=by
    rw [List.map_map,List.map_map];rfl
   have tz:tI zs=.tup (zs.map D.int):=rfl
   rw [e,tz]
   set_option simprocs false in simp only [wpB]
   exact ⟨yam (by simp;omega),hQ2 _ _ ⟨by unfold tI;rw [List.map_append],k2.app _⟩⟩
 ·intro st1 k1
  refine ⟨_,Zal,hQ _ _ ⟨xs ++ us.map fun x=>(xs.length:Int) + x,ys ++ vs.map fun x=>(xs.length:Int) + x,rfl,by simp,by simp,k1.app _⟩⟩
theorem Ya5 {st:Store} {f:Nat} {xs ys:List Int} (hf:FeedIs st f) (h1:xs.length≤100) (h2:ys.length≤100):Wp (zar [.ref f,flD xs ys] st) fun d st'=>∃ as bs:List Int,d=flD as bs∧as.length≤xs.length + 4∧bs.length≤ys.length + 4∧FeedIs st' f∧Ex [f] st st':=by
 refine xaD ?_
 show Ws (Xav [some (.ref f),some (flD xs ys),none] st) _ _ _ _
 unfold Xav
 have hf0:∀ {s:Store} {Q:D→Store→Prop},Wp (gIxT (flD xs ys) (.int 0) s) Q↔Q (tI xs) s:=Xaa
 have hf1:∀ {s:Store} {Q:D→Store→Prop},Wp (gIxT (flD xs ys) (.int 1) s) Q↔Q (tI ys) s:=Xaa
 refine zad (yaf ?_)
 refine zab ?_
 intro qhQ hQ
 set_option simprocs false in simp only [wpB]
 refine xab (xaj (n:=10) hf (by decide) (by decide)) ?_
 rintro d s1 ⟨fo,rfl,fo0,fo1,f1,k1⟩
 refine hQ _ _ (zad (zas ?_))
 clear hQ
 refine zab ?_
 intro qhQ hQ
 set_option simprocs false in simp only [wpB]
 refine hQ _ _ ⟨fun z=>zaj ?_,fun z=>xag (zad (zas ?_))⟩
 ·clear hQ
  refine zab ?_
  intro qhQ hQ
  set_option simprocs false in simp only [wpB]
  refine xab (xaj (n:=4) f1 (by decide) (by decide)) ?_
  rintro d s2 ⟨c,rfl,c0,c1,f2,k2⟩
  obtain ⟨n,hn1,n1,n4⟩:∃ n:Nat,1 + c=(n:Int)∧1≤n∧n≤4:=⟨(1 + c).toNat,by omega,by omega,by omega⟩
  set_option simprocs false in simp only [wpB,hn1]
  refine xab (yaT (n:=n) f2 n1 (by omega)) ?_
  rintro d s3 ⟨us,vs,rfl,fl,f3,k3⟩
  have hu:=fl.1.length
  have hv:=fl.2.1.length
  refine xab (Ya1 (xs:=xs) (ys:=ys) (us:=us) (vs:=vs) (by omega) (by omega) (by omega) (by omega)) ?_
  rintro d s4 ⟨as,bs,rfl,ha,hb,k4⟩
  exact hQ _ _ ⟨as,bs,rfl,by omega,by omega,f3.keep k4,((k1.trans k2).trans k3).trans k4.any⟩
 clear hQ
 refine zab ?_
 intro qhQ hQ
 set_option simprocs false in simp only [wpB]
 refine hQ _ _ ⟨fun z=>zaj ?_,fun z=>xag (zad (zas ?_))⟩
 ·clear hQ
  refine zab ?_
  intro qhQ hQ
  set_option simprocs false in simp only [wpB,hf0,hf1]
  refine ⟨rfl,rfl,rfl,rfl,rfl,rfl,rfl,rfl,?_⟩
  refine xab (xaj (n:=3) (f1.keep (Ex.app0 _)) (by decide) (by decide)) ?_
  rintro d s2 ⟨c,rfl,c0,c1,f2,k2⟩
  have hi2:=k2.keep s1.length _ yah (by have:=f1.lt;simp;omega)
  have k12:Ex [f] st s2:=k1.trans ((Ex.app0 _).trans k2)
  set_option simprocs false in simp only [wpB,Zad hi2]
  rcases (show c=0∨c=1∨c=2 by omega) with rfl | rfl | rfl
  ·exact ⟨_,at0 _ _,hQ _ _ ⟨[],[],rfl,by simp,by simp,f2,k12⟩⟩
  ·exact ⟨_,at1 _ _ _,hQ _ _ ⟨xs,[],rfl,by omega,by simp,f2,k12⟩⟩
  ·exact ⟨_,at2 _ _ _ _,hQ _ _ ⟨[],ys,rfl,by simp,by omega,f2,k12⟩⟩
 clear hQ
 refine zab ?_
 intro qhQ hQ
 set_option simprocs false in simp only [wpB]
 refine hQ _ _ ⟨fun z=>zaj ?_,fun z=>xag (zaj ?_)⟩
 ·clear hQ
  refine zab ?_
  intro qhQ hQ
  set_option simprocs false in simp only [wpB,hf0,hf1]
  refine xab (Za1 (xs:=xs) f1 (by omega)) ?_
  rintro d s2 ⟨zs,rfl,hz,f2,k2⟩
  exact ⟨rfl,hQ _ _ ⟨zs,ys,rfl,by omega,by omega,f2,k1.trans k2⟩⟩
 ·clear hQ
  refine zab ?_
  intro qhQ hQ
  set_option simprocs false in simp only [wpB,hf0,hf1]
  refine xab (Za1 (xs:=ys) f1 (by omega)) ?_
  rintro d s2 ⟨zs,rfl,hz,f2,k2⟩
  exact ⟨rfl,hQ _ _ ⟨xs,zs,rfl,by omega,by omega,f2,k1.trans k2⟩⟩
noncomputable def Ask6 (d:D):Prop:=∃ (n:Nat) (xs ys us vs:List Int),d=.tup [flD xs ys,flD us vs]∧IsFl n xs ys∧1≤n∧n≤20∧us.length≤100∧vs.length≤100
theorem law_true (ns:List Int) (hn:ns.length≤63):Wp (ZbM [.ref 0] [.fzn (ns.map D.int)]) fun d _=>d=.bl true:=by
 refine xaD ?_
 show Ws (xbz [some (.ref 0),none,none,none,none,none,none,none] [.fzn (ns.map D.int)]) _ _ _ _
 unfold xbz
 refine zad (yaf ?_)
 refine zab ?_
 intro qhQ hQ
 set_option simprocs false in simp only [wpB]
 refine ⟨rfl,hQ _ _ ?_⟩
 clear hQ
 show Ws _ _ _ _ _
 have hS1:items (([O.fzn (ns.map D.int)] ++ [O.lst []]:Store)) 0=some (ns.map D.int):=rfl
 have ec:cutD (ns.map D.int) none (some 6)=(ns.map D.int).take 6:=XaH _ 6
 obtain ⟨m,hm,hm6⟩:∃ m:Nat,(if (((ns.map D.int).take 6).length:Int) > 1 then (((ns.map D.int).take 6).length:Int) else 1)=(m:Int)∧m≤6:=by
  by_cases h4:(((ns.map D.int).take 6).length:Int) > 1
  ·rw [if_pos h4];exact ⟨((ns.map D.int).take 6).length,rfl,by rw [List.length_take];omega⟩
  ·rw [if_neg h4];exact ⟨1,rfl,by omega⟩
 refine zad (xaJ (rangeD 0 m) (fun i δ st=>∃ (v2 v3 v4 v5 v6 v7:Option D) (qs:List D),δ=[some (.ref 0),some (.ref 1),v2,v3,v4,v5,v6,v7]∧st[0]?=some (.fzn (ns.map D.int))∧st[1]?=some (.lst qs)∧qs.length≤i∧∀ d∈qs,Ask6 d) ?_ (by rw [Zac];omega) ?_ ?_)
 ·refine zab ?_
  intro qhQ hQ
  set_option simprocs false in simp only [wpB,hS1,ec]
  rw [hm,Int.toNat_natCast]
  exact ⟨⟨by omega,by omega⟩,hQ _ _ ⟨rfl,none,none,none,none,none,none,[],rfl,rfl,rfl,Nat.le_refl _,(fun d hd=>nomatch hd)⟩⟩
 ·rintro i d δ st hd ⟨v2,v3,v4,v5,v6,v7,qs,rfl,h0,h1,hl,hq⟩
  have hil:=xad hd
  rw [Zac] at hil
  rw [yat hil,Int.zero_add] at hd
  cases hd
  refine zab ?_
  intro qhQ hQ
  set_option simprocs false in simp only [wpB]
  refine hQ _ _ (zad (yaf ?_))
  clear hQ
  refine zab ?_
  intro qhQ hQ
  set_option simprocs false in simp only [wpB]
  refine xab (xbq (a:=0) (ns:=ns) (k:=i) (ybn h0) (by omega)) ?_
  rintro d st2 ⟨rfl,f2,k2⟩
  have hff:1 < st.length:=xad h1
  have h02:=k2.keep _ _ h0 (by simp)
  have h12:=k2.keep _ _ h1 (by simp)
  generalize hF:st.length=ff at f2 hff ⊢
  refine hQ _ _ (zad (yaf ?_))
  clear hQ
  refine zab ?_
  intro qhQ hQ
  set_option simprocs false in simp only [wpB]
  refine xab (xaj (n:=3) f2 (by decide) (by decide)) ?_
  rintro d sa ⟨t,rfl,t0,t1,fa,ka⟩
  obtain ⟨tn,ht1,tn1,tn3⟩:∃ n:Nat,1 + t=(n:Int)∧1≤n∧n≤3:=⟨(1 + t).toNat,by omega,by omega,by omega⟩
  set_option simprocs false in simp only [wpB,ht1]
  refine hQ _ _ (zad (yaf ?_))
  clear hQ
  refine zab ?_
  intro qhQ hQ
  set_option simprocs false in simp only [wpB]
  refine ⟨rfl,?_⟩
  refine xab (xaj (n:=2) (fa.keep (Ex.app0 [O.lst [D.int 4,D.int 20]])) (by decide) (by decide)) ?_
  rintro d st3 ⟨c,rfl,c0,c1,f3,k3⟩
  have hi3:st3[sa.length]?=some (.lst [.int 4,.int 20]):=k3.keep _ _ yah (by have:=fa.lt;simp;omega)
  obtain ⟨gr,hgr,g1,g2⟩:∃ gr:Int,atI [D.int 4,D.int 20] c=some (.int gr)∧1≤gr∧gr≤20:=by
   rcases (show c=0∨c=1 by omega) with rfl | rfl
   ·exact ⟨4,at0 _ _,by decide,by decide⟩
   ·exact ⟨20,at1 _ _ _,by decide,by decide⟩
  set_option simprocs false in simp only [wpB,Zad hi3,hgr]
  refine xab (xaj (n:=gr) f3 (by omega) (by omega)) ?_
  rintro d st4 ⟨c2,rfl,c20,c21,f4,k4⟩
  obtain ⟨n,hn1,n1,n20⟩:∃ n:Nat,1 + c2=(n:Int)∧1≤n∧n≤20:=⟨(1 + c2).toNat,by omega,by omega,by omega⟩
  set_option simprocs false in simp only [wpB,hn1]
  refine xab (yaT (n:=n) f4 n1 n20) ?_
  rintro d st5 ⟨xs,ys,rfl,fl,f5,k5⟩
  have k25:Ex [ff] st2 st5:=(((ka.trans (Ex.app0 _)).trans k3).trans k4).trans k5
  refine hQ _ _ (zad (yaf ?_))
  clear hQ
  refine zab ?_
  intro qhQ hQ
  set_option simprocs false in simp only [wpB]
  refine hQ _ _ ?_
  clear hQ
  have hxl:=fl.1.length
  have hyl:=fl.2.1.length
  refine zad (xaJ (rangeD 0 tn) (fun j δ st=>∃ (v7:Option D) (us vs:List Int),δ=[some (.ref 0),some (.ref 1),some (.int (i:Int)),some (.ref ff),some (.int (tn:Int)),some (flD xs ys),some (flD us vs),v7]∧us.length≤n + 4 * j∧vs.length≤n + 4 * j∧FeedIs st ff∧Ex [ff] st2 st) ?_ (by rw [Zac];omega) ?_ ?_)
  ·refine zab ?_
   intro qhQ hQ
   set_option simprocs false in simp only [wpB]
   rw [Int.toNat_natCast]
   exact ⟨by omega,hQ _ _ ⟨rfl,_,xs,ys,rfl,by omega,by omega,f5,k25⟩⟩
  ·rintro j d δ s hd ⟨w7,us,vs,rfl,hu,hv,fs,ks⟩
   have hjl:=xad hd
   rw [Zac] at hjl
   rw [yat hjl,Int.zero_add] at hd
   cases hd
   refine zab ?_
   intro qhQ hQ
   set_option simprocs false in simp only [wpB]
   refine hQ _ _ (yaf ?_)
   clear hQ
   refine zab ?_
   intro qhQ hQ
   set_option simprocs false in simp only [wpB]
   refine xab (Ya5 (xs:=us) (ys:=vs) fs (by omega) (by omega)) ?_
   rintro d s1 ⟨as,bs,rfl,ha,hb,fb,kb⟩
   exact hQ _ _ ⟨_,as,bs,rfl,by omega,by omega,fb,ks.trans kb⟩
  ·rintro δ s ⟨w7,us,vs,rfl,hu,hv,fs,ks⟩
   rw [Zac] at hu hv
   have h0s:=ks.keep _ _ h02 (by simp;omega)
   have h1s:=ks.keep _ _ h12 (by simp;omega)
   refine ya4 ?_
   refine zab ?_
   intro qhQ hQ
   set_option simprocs false in simp only [wpB,zan h1s]
   refine ⟨yaK (by rw [Zad h1s];rfl),rfl,yam (by omega),hQ _ _ ⟨_,_,_,_,_,_,_,rfl,?_,List.getElem?_set_self (xad h1s),by rw [List.length_append];show _ + 1≤_;omega,fun d hd=>?_⟩⟩
   ·rw [List.getElem?_set_ne (by decide)];exact h0s
   ·rcases List.mem_append.mp hd with hd | hd
    ·exact hq d hd
    ·rw [List.mem_singleton.mp hd]
     exact ⟨n,xs,ys,us,vs,rfl,fl,n1,n20,by omega,by omega⟩
 ·rintro δ st1 ⟨v2,v3,v4,v5,v6,v7,qs,rfl,h0,h1,hl,hq⟩
  rw [Zac] at hl
  have h1e:(st1 ++ [O.lst (qs.take 1)])[1]?=some (.lst qs):=yaj h1
  have e2:cutD qs none (some 1)=qs.take 1:=XaH qs 1
  have hq2:∀ d∈qs ++ qs.take 1,Ask6 d:=fun d hd=>by
   rcases List.mem_append.mp hd with hd | hd
   ·exact hq d hd
   ·exact hq d (List.mem_of_mem_take hd)
  have hl2:(qs ++ qs.take 1).length≤40:=by rw [List.length_append,List.length_take];omega
  refine zad (xbp (qs ++ qs.take 1) (fun j δ s=>∃ (v5 v6:Option D),δ=[some (.ref 0),some (.ref 1),v2,v3,v4,v5,v6,v7]∧Ex [] (st1 ++ [O.lst (qs.take 1)] ++ [O.lst (qs ++ qs.take 1)]) s) ?_ (by omega) ?_ ?_)
  ·refine zab ?_
   intro qhQ hQ
   set_option simprocs false in simp only [wpB,Zad h1,zan h1,e2,zan h1e,Zbn]
   refine ⟨yam (by rw [List.length_take];omega),hQ _ _ ⟨?_,_,_,rfl,Ex.refl⟩⟩
   rintro j δ s hj ⟨_,_,_,k⟩
   exact (show SrcOk _ (qs ++ qs.take 1) _ from yby Zal) j s hj k
  ·rintro j d δ s hd ⟨w5,w6,rfl,ks⟩
   obtain ⟨n,xs,ys,us,vs,rfl,fl,n1,n20,hu,hv⟩:=hq2 d (List.mem_of_getElem? hd)
   have hxl:=fl.1.length
   have hyl:=fl.2.1.length
   refine ⟨_,_,rfl,zas ?_⟩
   refine zab ?_
   intro qhQ hQ
   set_option simprocs false in simp only [wpB]
   refine xab (zaQ (xs:=us) (ys:=vs) (by omega) (by omega)) ?_
   rintro d sa ⟨rfl,ka⟩
   refine xab (ybA (xs:=us) (ys:=vs) (by omega) (by omega)) ?_
   rintro d sb ⟨rfl,kb⟩
   rw [wp_eqU (n:=2) (pU_du _ _) (pU_du _ _) (by decide)]
   refine ⟨false,by simp,?_⟩
   rw [if_neg (by decide)]
   refine xab (zaQ (xs:=xs) (ys:=ys) (by omega) (by omega)) ?_
   rintro d sc ⟨rfl,kc⟩
   rw [du_fl fl n1 n20]
   have hin:∀ {s:Store} {Q:D→Store→Prop},Wp (gIsN true (duD none) .non s) Q↔Q (.bl false) s:=Xaa
   rw [hin]
   exact ⟨_,rfl,hQ _ _ ⟨fun z=>(nomatch z),fun _=>xag ⟨_,_,rfl,((ks.trans ka).trans kb).trans kc⟩⟩⟩
  ·rintro δ s ⟨w5,w6,rfl,ks⟩
   refine zaj ?_
   refine zab ?_
   intro qhQ hQ
   set_option simprocs false in simp only [wpB]
   exact hQ _ _ rfl
theorem all_ok {P:Program} {w:World} {K:PySem.W.Frag} {mg:Str→Option Value} {base:Heap} (T:Txt mg) {cNoFloor cFloorError cNoName cNoRow cNoSlope cNoTable cNoText cTooMany cI:Addr} (Z:XF K mg cNoFloor cFloorError cNoName cNoRow cNoSlope cNoTable cNoText cTooMany cI) {vMOST_SQUARES:V} (CMOST_SQUARES:Con K mg "MOST_SQUARES" vMOST_SQUARES (.int 20)) {f_law_feed:Addr} {d_law_feed:FuncData} (D_law_feed:Def K mg "_law_feed" Xaw ["_law_script","_law_k"] f_law_feed d_law_feed) {f_law_take:Addr} {d_law_take:FuncData} (D_law_take:Def K mg "_law_take" Xak ["_law_feed_here","_law_many"] f_law_take d_law_take) {f_law_turning:Addr} {d_law_turning:FuncData} (D_law_turning:Def K mg "_law_turning" Zan ["_law_feed_here","_law_n"] f_law_turning d_law_turning) {f_law_met:Addr} {d_law_met:FuncData} (D_law_met:Def K mg "_law_met" Zaw ["_law_floor_here"] f_law_met d_law_met) {f_law_floor:Addr} {d_law_floor:FuncData} (D_law_floor:Def K mg "_law_floor" xao ["_law_feed_here","_law_n"] f_law_floor d_law_floor) {f_law_beside:Addr} {d_law_beside:FuncData} (D_law_beside:Def K mg "_law_beside" Xaq ["_law_one","_law_other"] f_law_beside d_law_beside) {f_law_bent:Addr} {d_law_bent:FuncData} (D_law_bent:Def K mg "_law_bent" yax ["_law_feed_here","_law_numbers"] f_law_bent d_law_bent) {f_law_spoilt:Addr} {d_law_spoilt:FuncData} (D_law_spoilt:Def K mg "_law_spoilt" yar ["_law_feed_here","_law_floor_here"] f_law_spoilt d_law_spoilt) {flook_turning:Addr} {dlook_turning:FuncData} (Dlook_turning:Def K mg "look_turning" Yan ["numbers","word"] flook_turning dlook_turning) {fsquares_from:Addr} {dsquares_from:FuncData} (Dsquares_from:Def K mg "squares_from" Xan ["floor","s"] fsquares_from dsquares_from) {flook_parted:Addr} {dlook_parted:FuncData} (Dlook_parted:Def K mg "look_parted" Yar ["floor"] flook_parted dlook_parted) {flook_floor:Addr} {dlook_floor:FuncData} (Dlook_floor:Def K mg "look_floor" Yau ["floor"] flook_floor dlook_floor) {f_law_looked:Addr} {d_law_looked:FuncData} (D_law_looked:Def K mg "_law_looked" xar ["_law_floor_here"] f_law_looked d_law_looked) {f_law_amiss:Addr} {d_law_amiss:FuncData} (D_law_amiss:Def K mg "_law_amiss" xau ["_law_numbers"] f_law_amiss d_law_amiss) {f_law_look_due:Addr} {d_law_look_due:FuncData} (D_law_look_due:Def K mg "_law_look_due" xam ["_law_floor_here"] f_law_look_due d_law_look_due) {flaw:Addr} {dlaw:FuncData} (Dlaw:Def K mg "law" Xbz ["_law_script"] flaw dlaw):FnOk P w K mg base CX0 6 flaw dlaw ["_law_script"] (spF K 1 ZbM):=by
 obtain ⟨dI,I,BI⟩:=Z.I
 have GI:=ybM (P:=P) (w:=w) (mg:=mg) (base:=base) I
 have G_law_feed:=xa0 (P:=P) (w:=w) (base:=base) D_law_feed T
 have G_law_take:=Xa0 (P:=P) (w:=w) (base:=base) D_law_take T
 have G_law_turning:=ZaP (P:=P) (w:=w) (base:=base) D_law_turning T  D_law_take G_law_take
 have G_law_met:=Za5 (P:=P) (w:=w) (base:=base) D_law_met T
 have G_law_floor:=xaW (P:=P) (w:=w) (base:=base) D_law_floor T  D_law_take G_law_take D_law_turning G_law_turning D_law_met G_law_met
 have G_law_beside:=YaQ (P:=P) (w:=w) (base:=base) D_law_beside T
 have G_law_bent:=za1 (P:=P) (w:=w) (base:=base) D_law_bent T  D_law_take G_law_take
 have G_law_spoilt:=xaQ (P:=P) (w:=w) (base:=base) D_law_spoilt T  D_law_take G_law_take D_law_beside G_law_beside D_law_bent G_law_bent D_law_floor G_law_floor
 have Glook_turning:=YaP (P:=P) (w:=w) (base:=base) Dlook_turning T  Z GI BI
 have Gsquares_from:=xaP (P:=P) (w:=w) (base:=base) Dsquares_from T
 have Glook_parted:=XaQ (P:=P) (w:=w) (base:=base) Dlook_parted T  Z GI BI Dsquares_from Gsquares_from
 have Glook_floor:=XaW (P:=P) (w:=w) (base:=base) Dlook_floor T CMOST_SQUARES Z GI BI Dlook_turning Glook_turning Dlook_parted Glook_parted
 have G_law_looked:=zaR (P:=P) (w:=w) (base:=base) D_law_looked T  Z Dlook_floor Glook_floor
 have G_law_amiss:=zaX (P:=P) (w:=w) (base:=base) D_law_amiss T
 have G_law_look_due:=zaK (P:=P) (w:=w) (base:=base) D_law_look_due T  D_law_met G_law_met D_law_amiss G_law_amiss
 have Glaw:=ok_law (P:=P) (w:=w) (base:=base) Dlaw T  D_law_feed G_law_feed D_law_floor G_law_floor D_law_take G_law_take D_law_spoilt G_law_spoilt D_law_looked G_law_looked D_law_look_due G_law_look_due
 exact Glaw
end My
open PySem PySem.W PyProof.Rows L2
set_option maxRecDepth 100000 in
set_option maxHeartbeats 0 in
theorem PySem.Challenge.cw_shearfloor_k06_the_first_thing_amiss_holds : PySem.Challenge.rw_shearfloor_k06_the_first_thing_amiss.Holds := by
 w_on;o_law;k_head;(case hw=>w_witness2)
 k_fill
 refine L2.Ybs (l:=PySem.Challenge.rw_shearfloor_k06_the_first_thing_amiss) (n:=63) (k:=6) (x:="_law_script") (CX:=CX0) (sp:=L4.spLaw) rfl (by decide) rfl ⟨rfl,by decide,by decide,rfl⟩ (fun w h Y=>PySem.W.kIn_of Y) ?F ?S ?C
 case F =>
  intro w mg fa h KX G hmg
  have T:My.Txt mg:=by
   refine' ⟨yaz KX G ?z0,yaz KX G ?z1,yaz KX G ?z2,yaz KX G ?z3,yaz KX G ?z4,yaz KX G ?z5,yaz KX G ?z6,yaz KX G ?z7,yaz KX G ?z8,yaz KX G ?z9⟩
   (case z0=>k_is);(case z1=>k_is);(case z2=>k_is);(case z3=>k_is);(case z4=>k_is);(case z5=>k_is);(case z6=>k_is);(case z7=>k_is);(case z8=>k_is);(case z9=>k_is)
  have Z:∃ cNoFloor cFloorError cNoName cNoRow cNoSlope cNoTable cNoText cTooMany cI,My.XF (L2.KOf KX) mg cNoFloor cFloorError cNoName cNoRow cNoSlope cNoTable cNoText cTooMany cI:=by
   dsimp only [L2.KOf];refine' ⟨_,_,_,_,_,_,_,_,_,My.xf_mk KX G ?n_NoFloor ?n_FloorError ?n_NoName ?n_NoRow ?n_NoSlope ?n_NoTable ?n_NoText ?n_TooMany ?n_init ?x_FloorError ?s_FloorError ?xi_NoFloor ?fn_NoFloor ?kp_NoFloor ?bx_NoFloor ?ty_NoFloor ?t_word ?t_at ?f_at ?f_word ?k0 ?k1 ?k2 ⟨?ei_NoFloor0,?ei_NoFloor1,?ei_NoFloor2,?ei_NoFloor3,?ei_NoFloor4,?ei_NoFloor5,?ei_NoFloor6,?ei_NoFloor7⟩ ⟨?ees_NoFloor0,?ees_NoFloor1,?ees_NoFloor2⟩ (ybF (fun _ _ _ _ _ _ us hl=>match us,hl with | [_,_,_],_=>rfl) ?il ?ic ?ik)⟩
   (case n_NoFloor=>k_is);(case n_FloorError=>k_is);(case n_NoName=>k_is);(case n_NoRow=>k_is);(case n_NoSlope=>k_is);(case n_NoTable=>k_is);(case n_NoText=>k_is);(case n_TooMany=>k_is);(case n_init=>k_is)
   (case il=>k_is);(case ic=>k_is);(case ik=>k_is)
   (case x_FloorError=>first | rfl | k_is | kernel_rfl);(case s_FloorError=>first | rfl | k_is | kernel_rfl);(case xi_NoFloor=>first | rfl | k_is | kernel_rfl);(case fn_NoFloor=>first | rfl | k_is | kernel_rfl);(case kp_NoFloor=>first | rfl | k_is | kernel_rfl);(case bx_NoFloor=>first | rfl | k_is | kernel_rfl);(case ty_NoFloor=>first | rfl | k_is | kernel_rfl);(case t_word=>first | rfl | k_is | kernel_rfl);(case t_at=>first | rfl | k_is | kernel_rfl);(case f_at=>first | rfl | k_is | kernel_rfl);(case f_word=>first | rfl | k_is | kernel_rfl);(case k0=>first | rfl | k_is | kernel_rfl);(case k1=>first | rfl | k_is | kernel_rfl);(case k2=>first | rfl | k_is | kernel_rfl);(case ei_NoFloor0=>first | rfl | k_is | kernel_rfl);(case ei_NoFloor1=>first | rfl | k_is | kernel_rfl);(case ei_NoFloor2=>first | rfl | k_is | kernel_rfl);(case ei_NoFloor3=>first | rfl | k_is | kernel_rfl);(case ei_NoFloor4=>first | rfl | k_is | kernel_rfl);(case ei_NoFloor5=>first | rfl | k_is | kernel_rfl);(case ei_NoFloor6=>first | rfl | k_is | kernel_rfl);(case ei_NoFloor7=>first | rfl | k_is | kernel_rfl);(case ees_NoFloor0=>first | rfl | k_is | kernel_rfl);(case ees_NoFloor1=>first | rfl | k_is | kernel_rfl);(case ees_NoFloor2=>first | rfl | k_is | kernel_rfl)
  obtain ⟨_,_,_,_,_,_,_,_,_,Z⟩:=Z
  have C_MOST_SQUARES:∃ v,L4.Con (L2.KOf KX) mg "MOST_SQUARES" v (.int 20):=by
   dsimp only [L2.KOf];refine' L4.ZbL (v:=V.int 20) KX G ?a ?r ?d
   (case a=>k_is);(case r=>exact ⟨_,rfl⟩);(case d=>exact fun ρ H=>.int _)
  obtain ⟨_,C_MOST_SQUARES⟩:=C_MOST_SQUARES
  have D__law_feed:∃ f fd,Def (L2.KOf KX) mg "_law_feed" My.Xaw ["_law_script","_law_k"] f fd:=by
   dsimp only [L2.KOf];refine' Xau KX G (fun _ _ _ _ _ _ us hl=>match us,hl with | [_,_],_=>rfl) ?a ?l ?c ?k
   (case a=>k_is);(case l=>k_is);(case c=>k_is);(case k=>k_is)
  obtain ⟨_,_,D__law_feed⟩:=D__law_feed
  have D__law_take:∃ f fd,Def (L2.KOf KX) mg "_law_take" My.Xak ["_law_feed_here","_law_many"] f fd:=by
   dsimp only [L2.KOf];refine' Xau KX G (fun _ _ _ _ _ _ us hl=>match us,hl with | [_,_],_=>rfl) ?a ?l ?c ?k
   (case a=>k_is);(case l=>k_is);(case c=>k_is);(case k=>k_is)
  obtain ⟨_,_,D__law_take⟩:=D__law_take
  have D__law_turning:∃ f fd,Def (L2.KOf KX) mg "_law_turning" My.Zan ["_law_feed_here","_law_n"] f fd:=by
   dsimp only [L2.KOf];refine' Xau KX G (fun _ _ _ _ _ _ us hl=>match us,hl with | [_,_],_=>rfl) ?a ?l ?c ?k
   (case a=>k_is);(case l=>k_is);(case c=>k_is);(case k=>k_is)
  obtain ⟨_,_,D__law_turning⟩:=D__law_turning
  have D__law_met:∃ f fd,Def (L2.KOf KX) mg "_law_met" My.Zaw ["_law_floor_here"] f fd:=by
   dsimp only [L2.KOf];refine' Xau KX G (fun _ _ _ _ _ _ us hl=>match us,hl with | [_],_=>rfl) ?a ?l ?c ?k
   (case a=>k_is);(case l=>k_is);(case c=>k_is);(case k=>k_is)
  obtain ⟨_,_,D__law_met⟩:=D__law_met
  have D__law_floor:∃ f fd,Def (L2.KOf KX) mg "_law_floor" My.xao ["_law_feed_here","_law_n"] f fd:=by
   dsimp only [L2.KOf];refine' Xau KX G (fun _ _ _ _ _ _ us hl=>match us,hl with | [_,_],_=>rfl) ?a ?l ?c ?k
   (case a=>k_is);(case l=>k_is);(case c=>k_is);(case k=>k_is)
  obtain ⟨_,_,D__law_floor⟩:=D__law_floor
  have D__law_beside:∃ f fd,Def (L2.KOf KX) mg "_law_beside" My.Xaq ["_law_one","_law_other"] f fd:=by
   dsimp only [L2.KOf];refine' Xau KX G (fun _ _ _ _ _ _ us hl=>match us,hl with | [_,_],_=>rfl) ?a ?l ?c ?k
   (case a=>k_is);(case l=>k_is);(case c=>k_is);(case k=>k_is)
  obtain ⟨_,_,D__law_beside⟩:=D__law_beside
  have D__law_bent:∃ f fd,Def (L2.KOf KX) mg "_law_bent" My.yax ["_law_feed_here","_law_numbers"] f fd:=by
   dsimp only [L2.KOf];refine' Xau KX G (fun _ _ _ _ _ _ us hl=>match us,hl with | [_,_],_=>rfl) ?a ?l ?c ?k
   (case a=>k_is);(case l=>k_is);(case c=>k_is);(case k=>k_is)
  obtain ⟨_,_,D__law_bent⟩:=D__law_bent
  have D__law_spoilt:∃ f fd,Def (L2.KOf KX) mg "_law_spoilt" My.yar ["_law_feed_here","_law_floor_here"] f fd:=by
   dsimp only [L2.KOf];refine' Xau KX G (fun _ _ _ _ _ _ us hl=>match us,hl with | [_,_],_=>rfl) ?a ?l ?c ?k
   (case a=>k_is);(case l=>k_is);(case c=>k_is);(case k=>k_is)
  obtain ⟨_,_,D__law_spoilt⟩:=D__law_spoilt
  have D_look_turning:∃ f fd,Def (L2.KOf KX) mg "look_turning" My.Yan ["numbers","word"] f fd:=by
   dsimp only [L2.KOf];refine' Xau KX G (fun _ _ _ _ _ _ us hl=>match us,hl with | [_,_],_=>rfl) ?a ?l ?c ?k
   (case a=>k_is);(case l=>k_is);(case c=>k_is);(case k=>k_is)
  obtain ⟨_,_,D_look_turning⟩:=D_look_turning
  have D_squares_from:∃ f fd,Def (L2.KOf KX) mg "squares_from" My.Xan ["floor","s"] f fd:=by
   dsimp only [L2.KOf];refine' Xau KX G (fun _ _ _ _ _ _ us hl=>match us,hl with | [_,_],_=>rfl) ?a ?l ?c ?k
   (case a=>k_is);(case l=>k_is);(case c=>k_is);(case k=>k_is)
  obtain ⟨_,_,D_squares_from⟩:=D_squares_from
  have D_look_parted:∃ f fd,Def (L2.KOf KX) mg "look_parted" My.Yar ["floor"] f fd:=by
   dsimp only [L2.KOf];refine' Xau KX G (fun _ _ _ _ _ _ us hl=>match us,hl with | [_],_=>rfl) ?a ?l ?c ?k
   (case a=>k_is);(case l=>k_is);(case c=>k_is);(case k=>k_is)
  obtain ⟨_,_,D_look_parted⟩:=D_look_parted
  have D_look_floor:∃ f fd,Def (L2.KOf KX) mg "look_floor" My.Yau ["floor"] f fd:=by
   dsimp only [L2.KOf];refine' Xau KX G (fun _ _ _ _ _ _ us hl=>match us,hl with | [_],_=>rfl) ?a ?l ?c ?k
   (case a=>k_is);(case l=>k_is);(case c=>k_is);(case k=>k_is)
  obtain ⟨_,_,D_look_floor⟩:=D_look_floor
  have D__law_looked:∃ f fd,Def (L2.KOf KX) mg "_law_looked" My.xar ["_law_floor_here"] f fd:=by
   dsimp only [L2.KOf];refine' Xau KX G (fun _ _ _ _ _ _ us hl=>match us,hl with | [_],_=>rfl) ?a ?l ?c ?k
   (case a=>k_is);(case l=>k_is);(case c=>k_is);(case k=>k_is)
  obtain ⟨_,_,D__law_looked⟩:=D__law_looked
  have D__law_amiss:∃ f fd,Def (L2.KOf KX) mg "_law_amiss" My.xau ["_law_numbers"] f fd:=by
   dsimp only [L2.KOf];refine' Xau KX G (fun _ _ _ _ _ _ us hl=>match us,hl with | [_],_=>rfl) ?a ?l ?c ?k
   (case a=>k_is);(case l=>k_is);(case c=>k_is);(case k=>k_is)
  obtain ⟨_,_,D__law_amiss⟩:=D__law_amiss
  have D__law_look_due:∃ f fd,Def (L2.KOf KX) mg "_law_look_due" My.xam ["_law_floor_here"] f fd:=by
   dsimp only [L2.KOf];refine' Xau KX G (fun _ _ _ _ _ _ us hl=>match us,hl with | [_],_=>rfl) ?a ?l ?c ?k
   (case a=>k_is);(case l=>k_is);(case c=>k_is);(case k=>k_is)
  obtain ⟨_,_,D__law_look_due⟩:=D__law_look_due
  have D_law:∃ f fd,Def (L2.KOf KX) mg "law" My.Xbz ["_law_script"] f fd:=by
   dsimp only [L2.KOf];refine' Xau KX G (fun _ _ _ _ _ _ us hl=>match us,hl with | [_],_=>rfl) ?a ?l ?c ?k
   (case a=>k_is);(case l=>k_is);(case c=>k_is);(case k=>k_is)
  obtain ⟨_,_,D_law⟩:=D_law
  have e0:=hmg.symm.trans D_law.m
  cases e0
  exact ⟨_,D_law.bindsTo,fun base _ _=>L4.law_of (My.all_ok T Z C_MOST_SQUARES D__law_feed D__law_take D__law_turning D__law_met D__law_floor D__law_beside D__law_bent D__law_spoilt D_look_turning D_squares_from D_look_parted D_look_floor D__law_looked D__law_amiss D__law_look_due D_law) fun ns hn=>let ⟨_,st,e,h⟩:=My.law_true ns hn;⟨st,h ▸ e⟩⟩
 case S=>exact fun K H a ns hl hO hS=>⟨a,ns,rfl,hS.script hO,hl,fun _=>rfl⟩
 case C=>exact fun _ _ _ _ z=>z
