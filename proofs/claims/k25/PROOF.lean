import PyProof.Rows.All
import Wide.All
import OpenK.AllK
import Wide.FinOn
import Lean
import PyProof.EqAt
import PyProof.EqKinds
import PyProof.TupleCall
import PyProof.DictIter
import PyProof.EnumMake
import KE.KSortTup
import KE.KDictLaws
import KE.KDictSum
import PyProof.StrLawsTight
import KE.KIntText
import PyProof.MinMaxWalk
import PyProof.WalkInts
import PySem.Challenge.RW_shearfloor_k25_bands_told
set_option Elab.async false
set_option linter.all false
set_option maxRecDepth 100000
set_option maxHeartbeats 4000000
noncomputable section
namespace L2
open PySem PySem.Spec PyProof.Rows
abbrev Key:=Sum Int Str
noncomputable def keyIs:Key→Value→Bool
 | .inl k,v=>Value.isInt k v
 | .inr x,v=>Value.isStrOf x v
noncomputable def keyH (w:World):Key→Int
 | .inl k=>hashInt k
 | .inr x=>hashStr w x
theorem zam:∀ {k:Key} {v:Value},keyIs k v=true→(∃ i t,k=Sum.inl i∧v=Value.int i t)∨(∃ x t,k=Sum.inr x∧v=Value.str x t)
 | .inl i,v,h=>by
  obtain ⟨t,e⟩:=Value.isInt_shape (k:=i) (v:=v) h
  exact .inl ⟨i,t,rfl,e⟩
 | .inr x,v,h=>by
  obtain ⟨t,e⟩:=Value.isStrOf_shape (x:=x) (v:=v) h
  exact .inr ⟨x,t,rfl,e⟩
theorem xbB (i:Int) (t:Tok):keyIs (.inl i) (.int i t)=true:=by simp [keyIs,Value.isInt]
theorem XbB (x:Str) (t:Tok):keyIs (.inr x) (.str x t)=true:=by simp [keyIs,Value.isStrOf]
theorem key_ll (a b:Int):decide ((Sum.inl a:Key)=Sum.inl b)=(a == b):=by
 by_cases e:a=b
 ·subst e;simp
 ·have h:¬ (Sum.inl a:Key)=Sum.inl b:=fun q=>e (Sum.inl.inj q)
  rw [decide_eq_false h]
  exact (beq_eq_false_iff_ne.mpr e).symm
theorem key_rr (a b:Str):decide ((Sum.inr a:Key)=Sum.inr b)=decide (a=b):=by
 by_cases e:a=b
 ·subst e;simp
 ·have h:¬ (Sum.inr a:Key)=Sum.inr b:=fun q=>e (Sum.inr.inj q)
  rw [decide_eq_false h,decide_eq_false e]
theorem key_lr (a:Int) (b:Str):decide ((Sum.inl a:Key)=Sum.inr b)=false:=decide_eq_false (fun q=>nomatch q)
theorem key_rl (a:Str) (b:Int):decide ((Sum.inr a:Key)=Sum.inl b)=false:=decide_eq_false (fun q=>nomatch q)
noncomputable def mixKind (prog:Program) (w:World):PySem.KeyKind prog w Key where
 is:=keyIs
 hash:=keyH w
 inj:=fun v a b ha hb=>by
  rcases zam ha with ⟨i,t,rfl,rfl⟩ | ⟨x,t,rfl,rfl⟩
  ·rcases zam hb with ⟨j,u,rfl,e⟩ | ⟨y,u,rfl,e⟩
   ·injection e with e1 _;rw [e1]
   ·exact nomatch e
  ·rcases zam hb with ⟨j,u,rfl,e⟩ | ⟨y,u,rfl,e⟩
   ·exact nomatch e
   ·injection e with e1 _;rw [e1]
 byValue:=fun k v h=>by
  rcases zam h with ⟨i,t,rfl,rfl⟩ | ⟨x,t,rfl,rfl⟩ <;> rfl
 pyHash:=fun hv h=>by
  rcases zam hv with ⟨i,t,rfl,rfl⟩ | ⟨x,t,rfl,rfl⟩
  ·exact wpAny_pyHash_int h
  ·exact wpAny_pyHash_str h
 eqBool:=fun hu hv h=>by
  rcases zam hu with ⟨i,t,rfl,rfl⟩ | ⟨x,t,rfl,rfl⟩
  ·rcases zam hv with ⟨j,u,rfl,rfl⟩ | ⟨y,u,rfl,rfl⟩
   ·rw [key_ll] at h;exact wpAny_eqBool_int h
   ·rw [key_lr] at h;exact SeqAt.EqAt.int_str i t y u _ _ _ _ h
  ·rcases zam hv with ⟨j,u,rfl,rfl⟩ | ⟨y,u,rfl,rfl⟩
   ·rw [key_rl] at h;exact SeqAt.EqAt.str_int x t j u _ _ _ _ h
   ·rw [key_rr] at h;exact wpAny_eqBool_str h
 «strs»:=fun k x t v h=>by
  rcases zam h with ⟨i,u,rfl,e⟩ | ⟨y,u,rfl,e⟩
  ·exact nomatch e
  ·injection e with e1 _
   subst e1
   cases v <;> rfl
theorem zbl (prog:Program) (w:World) (i:Int) (t:Tok):(mixKind prog w).is (.inl i) (.int i t)=true:=xbB i t
theorem ybl (prog:Program) (w:World) (x:Str) (t:Tok):(mixKind prog w).is (.inr x) (.str x t)=true:=XbB x t
end L2
namespace L2
open PySem PySem.Spec PyProof.Rows
inductive V where
 | non | bl (b:Bool) | int (i:Int) | str (x:Str) | byt (b:Array UInt8) | flt (b:UInt64) | ref (a:Addr) | ty (n:String)
 deriving DecidableEq
noncomputable def RelV:V→Value→Prop
 | .non,u=>u=Value.none
 | .bl b,u=>u=Value.bool b
 | .int i,u=>∃ t,u=Value.int i t
 | .str x,u=>∃ t,u=Value.str x t
 | .byt b,u=>∃ t,u=Value.bytes b t
 | .flt b,u=>∃ t,u=Value.float b t
 | .ref a,u=>u=Value.ref a
 | .ty n,u=>u=Value.type n
abbrev Vals:List V→List Value→Prop:=Paired RelV
theorem Vals.length {xs:List V} {us:List Value} (r:Vals xs us):xs.length=us.length:=Paired.length r
theorem Vals.get:∀ {xs:List V} {us:List Value} {i:Nat} {x:V},Vals xs us→xs[i]?=some x→∃ u,us[i]?=some u∧RelV x u
 | _,_,_,_,.nil,e=>by simp at e
 | _,_,0,_,.cons r _,e=>by simp at e;subst e;exact ⟨_,rfl,r⟩
 | _,_,i + 1,x,.cons _ t,e=>by
  obtain ⟨u,h1,h2⟩:=Vals.get (i:=i) (x:=x) t (by simpa using e)
  exact ⟨u,by simpa using h1,h2⟩
theorem Vals.set {x:V} {u:Value} (r:RelV x u):∀ {xs:List V} {us:List Value} (i:Nat),Vals xs us→Vals (xs.set i x) (us.set i u)
 | _,_,_,.nil=>.nil
 | _,_,0,.cons _ t=>.cons r t
 | _,_,i + 1,.cons q t=>.cons q (Vals.set r i t)
theorem Vals.append:∀ {xs ys:List V} {us ws:List Value},Vals xs us→Vals ys ws→Vals (xs ++ ys) (us ++ ws)
 | _,_,_,_,.nil,s=>s
 | _,_,_,_,.cons r t,s=>.cons r (Vals.append t s)
theorem Vals.take:∀ {xs:List V} {us:List Value} (n:Nat),Vals xs us→Vals (xs.take n) (us.take n)
 | _,_,0,_=>.nil
 | _,_,_ + 1,.nil=>.nil
 | _,_,n + 1,.cons r t=>.cons r (Vals.take n t)
theorem Vals.drop:∀ {xs:List V} {us:List Value} (n:Nat),Vals xs us→Vals (xs.drop n) (us.drop n)
 | _,_,0,r=>r
 | _,_,_ + 1,.nil=>.nil
 | _,_,n + 1,.cons _ t=>Vals.drop n t
noncomputable def RelO:Option V→Option Value→Prop
 | some v,some u=>RelV v u
 | none,none=>True
 | _,_=>False
noncomputable def KV {κ:Type}:List (κ×V)→List (κ×Value)→Prop:=Paired fun (p:κ×V) (q:κ×Value)=>p.1=q.1∧RelV p.2 q.2
noncomputable def kV:Key→V
 | .inl i=>.int i
 | .inr x=>.str x
inductive HO where
 /-- a list -/
 | lst (xs:List V)
 /-- a tuple (never changes) -/
 | tup (xs:List V)
 /-- a dict whose keys are ints and texts;one whose keys are tuples of ints and texts (the empty one is both) -/
 | dK (kvs:List (Key×V)) | dT (kvs:List (List Key×V))
 /-- a set of ints: its members,its size -/
 | set (S:Int→Bool) (n:Nat)
 /-- an instance of the class at C,its dict at dx,its attributes -/
 | ins (C dx:Addr) (fs:List (Str×V))
 /-- the dict of the instance at x -/
 | own (x:Addr)
 /-- the dict of an exception -/
 | xd (fs:List (Str×V))
 /-- a bound method,f of x -/
 | met (f x:Addr)
 /-- a range object lo,lo + 1,.. below hi -/
 | rng (lo hi:Int)
 /-- a thing that is known to the object (the script;a dict while a loop walks it): read,never written while it is so -/
 | frz (o:Obj) (u:HO)
 /-- a code object's table -/
 | tbl (ps:Array Value)
 /-- any other thing,by what is true of its one object (a def of one's own: SetO a S n:=HO.ext fun h=>..) -/
 | ext (φ:Heap→Prop)
abbrev Hp:=Addr→Option HO
noncomputable def upd (H:Hp) (a:Addr) (o:HO):Hp:=fun b=>if b=a then some o else H b
theorem zao {H:Hp} {a:Addr} {o:HO}:upd H a o a=some o:=by unfold upd;rw [if_pos rfl]
theorem zaj {H:Hp} {a b:Addr} {o:HO} (h:b≠a):upd H a o b=H b:=by unfold upd;rw [if_neg h]
theorem Zb3 {H:Hp} {a b:Addr} {o u:HO} (h:H a=some o) (h':H b=some u) (d:o≠u):a≠b:=by
 intro e;subst e;rw [h] at h';exact d (Option.some.inj h')
theorem YaC {H:Hp} {a b:Addr} {o:HO} (h:H a=some o) (h':H b=none):a≠b:=by
 intro e;subst e;rw [h] at h';cases h'
noncomputable def PTup (h:Heap) (a:Addr) (its:Array Value):Prop:=∃ o,h.get? a=some o∧o.cls=.type "tuple" ∧ o.dict=none∧∃ n,o.data=.seq its n
theorem PTup.tup {h:Heap} {a:Addr} {its:Array Value} (x:PTup h a its):IsTup h a its:=let ⟨o,e,c,_,n,d⟩:=x;⟨o,e,c,n,d⟩
theorem PTup.new (h:Heap) (its:Array Value):PTup (h.push { cls:=.type "tuple",data:=.seq its }) h.objs.size its:=⟨_,Heap.get?_push_size _ rfl,rfl,rfl,_,rfl⟩
section
variable (P:Program) (w:World)
noncomputable def ObjOk (H:Hp) (h:Heap) (a:Addr):HO→Prop
 | .lst xs=>xs.length≤sizeLine∧∃ (its:List Value) (n:Nat),Vals xs its∧h.get? a=some { cls:=.type "list",data:=.seq its.toArray n }
 | .tup xs=>xs.length≤sizeLine∧∃ its:List Value,Vals xs its∧PTup h a its.toArray
 | .dK kvs=>kvs.length≤sizeLine∧(a == sysModules)=false∧∃ vs,KV kvs vs∧h.DictOf (mixKind P w) a vs
 | .dT kvs=>kvs.length≤sizeLine∧(a == sysModules)=false∧∃ xs:List (List Key×Addr×Value),
   Paired (fun (p:List Key×V) (q:List Key×Addr×Value)=>p.1=q.1∧H q.2.1=some (.tup (p.1.map kV))∧RelV p.2 q.2.2) kvs xs ∧
   ∃ o es ep,h.get? a=some o∧o.ExactDict∧o.data=.dict es ep∧es.toList=xs.map (entryOfKey (tupleKind (mixKind P w)))∧(xs.map (·.1)).Nodup
 | .set S n=>h.SetOf (intKind P w) a S n
 | .ins C dx fs=>H dx=some (.own a)∧fs.length≤1000∧dx≠a∧h.get? a=some (PySem.W.instObj C dx) ∧
   ∃ mA,h.Ns1 dx mA∧(∀ f,RelO (fs.lookup f) (mA f))∧PySem.Within mA (fs.map (·.1))
 | .own _=>∃ o,h.get? a=some o
 | .xd fs=>∃ mA,h.Ns1 a mA∧∀ f,RelO (fs.lookup f) (mA f)
 | .rng lo hi=>∃ t u v,h.get? a=some { cls:=.type "range",data:=.fields #[.int lo t,.int hi u,.int 1 v] }
 | .frz o u=>h.get? a=some o∧ObjOk H h a u
 | .tbl ps=>h.get? a=some { cls:=.none,data:=.fields ps }
 | .met f x=>h.get? a=some (PySem.W.methodObj (.ref f) (.ref x))
 | .ext φ=>φ h∧(∃ o,h.get? a=some o)∧∀ h1 h2:Heap,φ h1→(∀ o,h1.get? a=some o→h2.get? a=some o)→φ h2
noncomputable def HOk (H:Hp) (h:Heap):Prop:=∀ a o,H a=some o→ObjOk P w H h a o
end
section
variable {P:Program} {w:World} {H H':Hp} {h h':Heap} {a:Addr} {o:HO}
theorem ObjOk.lt (x:ObjOk P w H h a o):a < h.objs.size:=by
 cases o with
 | lst xs=>obtain ⟨_,_,_,_,e⟩:=x;exact Heap.lt_size e
 | tup xs=>obtain ⟨_,_,_,_,e,_⟩:=x;exact Heap.lt_size e
 | dK kvs=>obtain ⟨_,_,_,_,o,_,_,e,_⟩:=x;exact Heap.lt_size e
 | dT kvs=>obtain ⟨_,_,_,_,o,_,_,e,_⟩:=x;exact Heap.lt_size e
 | set S n=>obtain ⟨o,_,_,_,e,_⟩:=x;exact Heap.lt_size e
 | ins C dx fs=>obtain ⟨_,_,_,e,_⟩:=x;exact Heap.lt_size e
 | own y=>obtain ⟨_,e⟩:=x;exact Heap.lt_size e
 | xd fs=>obtain ⟨_,⟨_,_,_,e,_⟩,_⟩:=x;exact Heap.lt_size e
 | rng lo hi=>obtain ⟨_,_,_,e⟩:=x;exact Heap.lt_size e
 | frz ob u=>obtain ⟨e,_⟩:=x;exact Heap.lt_size e
 | tbl ps=>exact Heap.lt_size (show h.get? a=some _ from x)
 | met f y=>exact Heap.lt_size (show h.get? a=some _ from x)
 | ext φ=>obtain ⟨_,⟨_,e⟩,_⟩:=x;exact Heap.lt_size e
theorem Paired.mapP {α β:Type} {F G:α→β→Prop}:∀ {l₁:List α} {l₂:List β},Paired F l₁ l₂→(∀ a b,F a b→G a b)→Paired G l₁ l₂
 | _,_,.nil,_=>.nil
 | _,_,.cons r t,f=>.cons (f _ _ r) (Paired.mapP t f)
theorem ObjOk.stay (x:ObjOk P w H h a o) (k:∀ b u,(b=a∨H b=some (.own a))→h.get? b=some u→h'.get? b=some u)
  (ho:∀ b,H b=some (.own a)→H' b=some (.own a)) (ht:∀ b xs,H b=some (.tup xs)→H' b=some (.tup xs)):ObjOk P w H' h' a o:=by
 induction o with
 | lst xs=>obtain ⟨z,its,n,r,e⟩:=x;exact ⟨z,its,n,r,k _ _ (.inl rfl) e⟩
 | tup xs=>obtain ⟨z,its,r,ob,e,c⟩:=x;exact ⟨z,its,r,ob,k _ _ (.inl rfl) e,c⟩
 | dK kvs=>obtain ⟨z,y,vs,r,ob,es,ep,e,c⟩:=x;exact ⟨z,y,vs,r,ob,es,ep,k _ _ (.inl rfl) e,c⟩
 | dT kvs =>
  obtain ⟨z,y,xs,r,ob,es,ep,e,c⟩:=x
  exact ⟨z,y,xs,Paired.mapP r fun p q z=>⟨z.1,ht _ _ z.2.1,z.2.2⟩,ob,es,ep,k _ _ (.inl rfl) e,c⟩
 | set S n=>obtain ⟨ob,es,ep,t,e,c⟩:=x;exact ⟨ob,es,ep,t,k _ _ (.inl rfl) e,c⟩
 | ins C dx fs =>
  obtain ⟨d,z,ne,e,mA,⟨od,es,ep,e2,c⟩,r⟩:=x
  exact ⟨ho _ d,z,ne,k _ _ (.inl rfl) e,mA,⟨od,es,ep,k _ _ (.inr d) e2,c⟩,r⟩
 | own y=>obtain ⟨ob,e⟩:=x;exact ⟨ob,k _ _ (.inl rfl) e⟩
 | xd fs=>obtain ⟨mA,⟨od,es,ep,e,c⟩,r⟩:=x;exact ⟨mA,⟨od,es,ep,k _ _ (.inl rfl) e,c⟩,r⟩
 | rng lo hi=>obtain ⟨t,u,v,e⟩:=x;exact ⟨t,u,v,k _ _ (.inl rfl) e⟩
 | frz ob u ih=>obtain ⟨e,q⟩:=x;exact ⟨k _ _ (.inl rfl) e,ih q⟩
 | tbl ps =>
  have e:h.get? a=some { cls:=.none,data:=.fields ps }:=x
  show h'.get? a=some { cls:=.none,data:=.fields ps }
  exact k a _ (.inl rfl) e
 | met f y =>
  have e:h.get? a=some (PySem.W.methodObj (.ref f) (.ref y)):=x
  show h'.get? a=some (PySem.W.methodObj (.ref f) (.ref y))
  exact k a _ (.inl rfl) e
 | ext φ=>obtain ⟨p,⟨o,e⟩,st⟩:=x;exact ⟨st _ _ p fun o q=>k _ _ (.inl rfl) q,⟨o,k _ _ (.inl rfl) e⟩,st⟩
theorem HOk.lt (x:HOk P w H h) (e:H a=some o):a < h.objs.size:=(x a o e).lt
theorem HOk.fresh (x:HOk P w H h) (e:h.objs.size≤a):H a=none:=by
 cases q:H a with
 | none=>rfl
 | some u=>exact absurd (Nat.lt_of_lt_of_le (x.lt q) e) (Nat.lt_irrefl _)
theorem HOk.kept (x:HOk P w H h) (k:∀ b u,h.get? b=some u→h'.get? b=some u):HOk P w H h':=fun a o e =>
 (x a o e).stay (fun b u _ q=>k b u q) (fun _ q=>q) fun _ _ q=>q
theorem HOk.laid (x:HOk P w H h) (k:∀ b u,h.get? b=some u→h'.get? b=some u) (hp:h.objs.size≤a) (new:ObjOk P w (upd H a o) h' a o):HOk P w (upd H a o) h':=fun b u e=>by
 have hn:=x.fresh hp
 by_cases hb:b=a
 ·subst hb;rw [zao] at e;cases e;exact new
 ·rw [zaj hb] at e
  exact (x b u e).stay (fun c v _ q=>k c v q) (fun c q=>by rw [zaj (YaC q hn)];exact q) fun c xs q=>by rw [zaj (YaC q hn)];exact q
end
noncomputable def Rd (H:Hp) (a:Addr) (u:HO):Prop:=H a=some u∨∃ o,H a=some (.frz o u)
theorem Rd.ok {P:Program} {w:World} {H:Hp} {h:Heap} {a:Addr} {u:HO} (r:Rd H a u) (x:HOk P w H h):ObjOk P w H h a u:=by
 rcases r with r | ⟨o,r⟩
 ·exact x a u r
 ·obtain ⟨_,q⟩:=x a _ r
  exact q
noncomputable def Mut:Option HO→Prop
 | some (.lst _)=>True
 | some (.dK _)=>True
 | some (.dT _)=>True
 | some (.set _ _)=>True
 | some (.ins _ _ _)=>True
 | some (.ext _)=>True
 | _=>False
section
variable {P:Program} {w:World} {H:Hp} {h h':Heap} {x e:Addr} {o':HO}
theorem HOk.write (ok:HOk P w H h) (mu:Mut (H x)) (he:e=x∨H e=some (.own x)) (k:∀ b u,b≠e→h.get? b=some u→h'.get? b=some u) (heo:∃ u,h'.get? e=some u)
  (new:ObjOk P w (upd H x o') h' x o'):HOk P w (upd H x o') h':=fun b u q=>by
 have nown:∀ c y,H c=some (.own y)→c≠x:=fun c y r z=>by subst z;rw [r] at mu;exact mu
 have ntup:∀ c xs,H c=some (.tup xs)→c≠x:=fun c xs r z=>by subst z;rw [r] at mu;exact mu
 by_cases hb:b=x
 ·subst hb;rw [zao] at q;cases q;exact new
 ·rw [zaj hb] at q
  by_cases hbe:b=e
  ·have q':H b=some (.own x):=by
    rcases he with z | z
    ·exact absurd (hbe.trans z) hb
    ·rw [hbe];exact z
   rw [q] at q';cases q'
   obtain ⟨v,hv⟩:=heo
   exact ⟨v,by rw [hbe];exact hv⟩
  ·refine (ok b u q).stay (fun c v hc r=>k c v ?_ r) (fun c r=>by rw [zaj (nown c b r)];exact r) fun c xs r=>by rw [zaj (ntup c xs r)];exact r
   rcases hc with rfl | hc
   ·exact hbe
   ·rintro rfl
    rcases he with z | z
    ·exact nown c b hc z
    ·rw [hc] at z;cases z;exact hb rfl
end
structure Un (fs ex:List Addr) (H H':Hp) (h h':Heap):Prop where
 keep:∀ b o,h.get? b=some o→H b=none→b ∉ fs→b ∉ ex→h'.get? b=some o
 slot:∀ b o,h.get? b=some o→H b=none→b∈fs→b ∉ ex→∃ sl,h'.get? b=some { o with slots:=sl }
 free:∀ b o,h.get? b=some o→H b=none→b ∉ ex→H' b=none
 there:∀ b o,h.get? b=some o→b ∉ ex→∃ o',h'.get? b=some o'
 tups:∀ b xs,H b=some (.tup xs)→H' b=some (.tup xs)
 frzs:∀ b o u,H b=some (.frz o u)→H' b=some (.frz o u)
 tbls:∀ b ps,H b=some (.tbl ps)→∃ more,H' b=some (.tbl (ps ++ more))
section
variable {fs fs' ex ex':List Addr} {H H1 H2:Hp} {h h1 h2 h':Heap} {a x e:Addr} {o:HO}
theorem Un.any (u:Un fs ex H H1 h h1) {b:Addr} {ob:Obj} (q:h.get? b=some ob) (n:H b=none) (hx:b ∉ ex):∃ sl,h1.get? b=some { ob with slots:=sl }:=by
 by_cases hb:b∈fs
 ·exact u.slot b ob q n hb hx
 ·exact ⟨ob.slots,u.keep b ob q n hb hx⟩
theorem Un.kept (k:∀ b u,h.get? b=some u→h'.get? b=some u):Un fs ex H H h h' :=
 ⟨fun b ob q _ _ _=>k b ob q,fun b ob q _ _ _=>⟨ob.slots,k b ob q⟩,fun _ _ _ n _=>n,fun b ob q _=>⟨ob,k b ob q⟩,fun _ _ q=>q,fun _ _ _ q=>q,fun _ ps q=>⟨#[],by rw [q];simp⟩⟩
theorem Un.refl:Un fs ex H H h h:=Un.kept fun _ _ q=>q
theorem Un.laid (k:∀ b u,h.get? b=some u→h'.get? b=some u) (hp:h.objs.size≤a) (hn:H a=none):Un fs ex H (upd H a o) h h' where
 keep:=fun b u q _ _ _=>k b u q
 slot:=fun b u q _ _ _=>⟨u.slots,k b u q⟩
 free:=fun b u q n _=>by rw [zaj (Nat.ne_of_lt (Nat.lt_of_lt_of_le (Heap.lt_size q) hp))];exact n
 there:=fun b u q _=>⟨u,k b u q⟩
 tups:=fun b xs q=>by rw [zaj (YaC q hn)];exact q
 frzs:=fun b u xs q=>by rw [zaj (YaC q hn)];exact q
 tbls:=fun b ps q=>⟨#[],by rw [zaj (YaC q hn),q];simp⟩
theorem Un.write (mu:Mut (H x)) (he:e=x∨H e=some (.own x)) (k:∀ b u,b≠e→h.get? b=some u→h'.get? b=some u) (heo:∃ u,h'.get? e=some u):Un fs ex H (upd H x o) h h':=by
 have hx:∀ b,H b=none→b≠x:=fun b n z=>by subst z;rw [n] at mu;exact mu
 have hb:∀ b,H b=none→b≠e:=fun b n z=>by
  subst z
  rcases he with r | r
  ·exact hx b n r
  ·rw [n] at r;cases r
 have hm:∀ b u,H b=some u→¬ Mut (some u)→b≠x:=fun b u q nm z=>by subst z;rw [q] at mu;exact nm mu
 refine ⟨fun b u q n _ _=>k b u (hb b n) q,fun b u q n _ _=>⟨u.slots,k b u (hb b n) q⟩,fun b u q n _=>by rw [zaj (hx b n)];exact n,fun b u q _=>?_,
  fun b xs q=>by rw [zaj (hm b _ q fun z=>z)];exact q,fun b u xs q=>by rw [zaj (hm b _ q fun z=>z)];exact q,fun b ps q=>⟨#[],by rw [zaj (hm b _ q fun z=>z),q];simp⟩⟩
 by_cases hbe:b=e
 ·subst hbe;exact heo
 ·exact ⟨u,k b u hbe q⟩
end
noncomputable def trk (h:Heap) (H:Hp):List Addr:=(List.range h.objs.size).filter fun a=>(H a).isSome
noncomputable def hidT (h:Heap) (H:Hp):Heap:=PySem.W.hideAll h (trk h H)
theorem zbC (h:Heap) (H:Hp):(hidT h H).objs.size=h.objs.size:=PySem.W.hideAll_size _ _
theorem zbS {h:Heap} {H:Hp} {b:Addr} {o:Obj} (e:h.get? b=some o) (n:H b=none):(hidT h H).get? b=some o :=
 PySem.W.hideAll_get _ e fun hm=>by
  have q:(H b).isSome=true:=(List.mem_filter.mp hm).2
  rw [n] at q;simp at q
theorem Yb3 {h:Heap} {H:Hp} {b:Addr} {o:Obj} (e:(hidT h H).get? b=some o):h.get? b=some o∧H b=none:=by
 have e':h.get? b=some o:=PySem.W.of_hideAll (trk h H) e
 refine ⟨e',?_⟩
 cases q:H b with
 | none=>rfl
 | some x =>
  have hm:b∈trk h H:=List.mem_filter.mpr ⟨List.mem_range.mpr (Heap.lt_size e'),by simp [q]⟩
  have z:(hidT h H).get? b=none:=PySem.W.hideAll_none (trk h H) hm
  rw [z] at e;cases e
noncomputable def allNews (g h:Heap) (L:Addr):List (Addr×Obj):=(List.range h.objs.size).filterMap fun a=>if a=L∨(g.get? a).isSome=true then none else (h.get? a).map fun o=>(a,o)
noncomputable def rest (g h:Heap) (L d:Addr):List (Addr×Obj):=(allNews g h L).filter fun p=>decide (p.1≠d)
end L2
namespace L2
open PySem PySem.Spec PyProof.Rows
structure Mod (K:PySem.W.Frag) (mg:Str→Option Value) (base:Heap):Prop where
 kin:K.In base
 glob:base.Ns mainGlobals mg
 blt:∃ mb,base.Ns builtinsNs mb∧∀ x:Str,x≠"__name__" → mb x=bootBuiltins x
 nolimit:base.NoLimit
structure Cx where
 prog:Program
 w:World
 K:PySem.W.Frag
 mg:Str→Option Value
 base:Heap
 A:Around
 N:List Str
 s₀:Shared
 H₀:Hp
 env:Env
 outer:List Env
 stack:List Env
 ex:List Addr
 fn:Str→Bool
 calm:Bool
 pn:List (Addr×Obj)
 xe:Value→Shared→Prop
noncomputable def frs (l:List Env):List Addr:=l.filterMap (·.frame)
abbrev Cx.fs (X:Cx):List Addr:=frs X.outer
noncomputable def Vis (sc:Scope) (x:Str):Prop:=sc.names.lookup x=some .local∨sc.names.lookup x=some .cell∨sc.names.lookup x=some .free
noncomputable def Loc (sc:Scope) (x:Str):Prop:=sc.names.lookup x=some .local∨sc.names.lookup x=some .cell
noncomputable def Look (env:Env) (h:Heap) (m:Str→Option Value) (x:Str) (u:Value):Prop :=
 (env.kindOf x=some .local∧m x=some u)∨((env.kindOf x=some .cell∨env.kindOf x=some .free)∧∃ c,env.cells.lookup x=some c∧h.IsCell c (some u))
structure Cx.Ok (X:Cx):Prop where
 mod:Mod X.K X.mg X.base
 kind:X.env.scope.kind=.function
 glob:X.env.globals=mainGlobals
 blt:X.env.builtins=builtinsNs
 above:X.s₀.heap.objs.size≤X.env.locals
 inj:∀ x y c,X.env.cells.lookup x=some c→X.env.cells.lookup y=some c→x=y
 has:∀ x,(X.env.kindOf x=some .cell∨X.env.kindOf x=some .free)→∃ c,X.env.cells.lookup x=some c
 cab:∀ x c,X.fn x=true→X.env.cells.lookup x=some c→X.s₀.heap.objs.size≤c
 hd:X.calm=true→X.A.handled=none
 frames:X.A.frames=some X.stack
 stk:X.stack=X.outer∨(X.stack=X.env :: X.outer∧X.env.frame=some X.env.locals)
 exf:∀ b∈X.ex,b≠X.env.locals∧∀ x c,X.env.cells.lookup x=some c→c≠b
 bs:∀ b o,X.base.get? b=some o→X.s₀.heap.get? b=some o∧X.H₀ b=none
 bsz:X.base.objs.size≤X.s₀.heap.objs.size
 noex:∀ b o,X.base.get? b=some o→b ∉ X.ex
 exfs:∀ b∈X.ex,b ∉ X.fs
 funs:X.s₀.heap.FunFrames X.base X.outer
 frf:∀ b∈X.fs,X.H₀ b=none
structure Inv (X:Cx) (pins:List (Addr×Obj)) (σ:List (Option V)) (H:Hp) (s:Shared):Prop where
 ok:X.Ok
 os:s.os=X.s₀.os
 bare:AllBare s.gens
 base:Un X.fs X.ex X.H₀ H X.s₀.heap s.heap
 loc:∃ m,s.heap.Ns X.env.locals m∧∀ (i:Nat) (x:Str) (v:V),X.N[i]?=some x→σ[i]?=some (some v)→Vis X.env.scope x→∃ u,RelV v u∧Look X.env s.heap m x u
 cell:∀ x c,X.env.cells.lookup x=some c→∃ v,s.heap.IsCell c v
 free:H X.env.locals=none
 freeC:∀ x c,X.env.cells.lookup x=some c→H c=none
 pin:∀ p∈X.pn ++ pins,s.heap.get? p.1=some p.2∧H p.1=none∧p.1≠X.env.locals∧p.1 ∉ X.fs∧∀ v,p.2.data≠.cell v
 hok:HOk X.prog X.w H s.heap
 len:σ.length=X.N.length
section
variable {X:Cx} {pins:List (Addr×Obj)} {σ:List (Option V)} {H H':Hp} {s:Shared} {h':Heap}
theorem Cx.Ok.nofr (ok:X.Ok) {b:Addr} {o:Obj} (e:X.base.get? b=some o):b ∉ X.fs:=fun hb=>by
 have:=(ok.funs.mem hb).1
 rw [e] at this;cases this
theorem Inv.bs (I:Inv X pins σ H s):∀ b o,X.base.get? b=some o→s.heap.get? b=some o∧H b=none:=fun b o e =>
 ⟨I.base.keep b o (I.ok.bs b o e).1 (I.ok.bs b o e).2 (I.ok.nofr e) (I.ok.noex b o e),I.base.free b o (I.ok.bs b o e).1 (I.ok.bs b o e).2 (I.ok.noex b o e)⟩
theorem Inv.bk (I:Inv X pins σ H s):∀ b o,X.base.get? b=some o→s.heap.get? b=some o:=fun b o e=>(I.bs b o e).1
theorem Inv.mod (I:Inv X pins σ H s):Mod X.K X.mg X.base:=I.ok.mod
theorem Inv.kIn (I:Inv X pins σ H s):X.K.In s.heap:=I.ok.mod.kin.keeps I.bk
theorem Inv.lt (I:Inv X pins σ H s):X.env.locals < s.heap.objs.size:=let ⟨_,hn,_⟩:=I.loc;hn.lt
theorem Inv.sz (I:Inv X pins σ H s):X.s₀.heap.objs.size≤s.heap.objs.size:=Nat.le_trans I.ok.above (Nat.le_of_lt I.lt)
theorem Inv.nofs (I:Inv X pins σ H s) {a:Addr} (h:s.heap.objs.size≤a):a ∉ X.fs:=fun hb=>by
 obtain ⟨_,o,ho,_⟩:=I.ok.funs.mem hb
 exact absurd (Nat.lt_of_lt_of_le (Heap.lt_size ho) (Nat.le_trans I.sz h)) (Nat.lt_irrefl _)
theorem Inv.cne (I:Inv X pins σ H s):∀ x c,X.env.cells.lookup x=some c→c≠X.env.locals:=fun x c e z=>by
 obtain ⟨v,o,ho,hd⟩:=I.cell x c e
 obtain ⟨m,⟨o',es,ep,ho',hd',_⟩,_⟩:=I.loc
 rw [z,ho'] at ho;cases ho;rw [hd'] at hd;cases hd
theorem Inv.funs (I:Inv X pins σ H s):s.heap.FunFrames X.base X.outer:=by
 have all:∀ (l:List Env),(∀ b∈frs l,b∈X.fs)→X.s₀.heap.FunFrames X.base l→s.heap.FunFrames X.base l:=by
  intro l
  induction l with
  | nil=>intro _ _;trivial
  | cons env r ih =>
   intro hs hl
   obtain ⟨hk,⟨L,o,hf,hn,ho,hd⟩,hr⟩:=hl
   have hL:L∈X.fs:=hs L (by unfold frs;rw [List.filterMap_cons,hf];exact List.mem_cons_self)
   obtain ⟨sl,e⟩:=I.base.slot L o ho (I.ok.frf L hL) hL fun z=>I.ok.exfs L z hL
   exact ⟨hk,⟨L,_,hf,hn,e,hd⟩,ih (fun b hb=>hs b (by unfold frs;rw [List.filterMap_cons,hf];exact List.mem_cons_of_mem _ hb)) hr⟩
 exact all X.outer (fun _ hb=>hb) I.ok.funs
theorem Inv.stack (I:Inv X pins σ H s):s.heap.FunFrames X.base X.stack:=by
 rcases I.ok.stk with e | ⟨e,hf⟩
 ·rw [e];exact I.funs
 ·rw [e]
  obtain ⟨m,hn,_⟩:=I.loc
  refine .cons (by rw [I.ok.kind];decide) hf hn ?_ I.funs
  exact Heap.get?_none_of_le (Nat.le_trans I.ok.bsz I.ok.above)
theorem Inv.stkSub (I:Inv X pins σ H s):∀ b∈frs X.stack,b∈X.env.locals :: X.fs:=fun b hb=>by
 rcases I.ok.stk with e | ⟨e,hf⟩
 ·rw [e] at hb;exact List.mem_cons_of_mem _ hb
 ·rw [e] at hb
  unfold frs at hb
  rw [List.filterMap_cons,hf] at hb
  exact hb
theorem Inv.stkFree (I:Inv X pins σ H s):∀ b∈frs X.stack,H b=none:=fun b hb=>by
 rcases List.mem_cons.mp (I.stkSub b hb) with e | hb
 ·rw [e];exact I.free
 ·obtain ⟨_,o,ho,_⟩:=I.ok.funs.mem hb
  exact I.base.free b o ho (I.ok.frf b hb) fun z=>I.ok.exfs b z hb
theorem Inv.step {g':Array GenState} {t':Nat} {d':Drawn} {ch:List Addr} (I:Inv X pins σ H s)
  (hch:∀ b∈ch,(b∈X.ex∨X.s₀.heap.objs.size≤b)∧b≠X.env.locals∧(∀ x c,X.env.cells.lookup x=some c→c≠b)∧∀ p∈X.pn ++ pins,p.1≠b)
  (keep:∀ b o,b≠X.env.locals→b ∉ X.fs→b ∉ ch→s.heap.get? b=some o→H b=none→h'.get? b=some o)
  (slot:∀ b o,b≠X.env.locals→b∈X.fs→b ∉ ch→s.heap.get? b=some o→H b=none→∃ sl,h'.get? b=some { o with slots:=sl }) (free:∀ b o,b ∉ ch→s.heap.get? b=some o→H b=none→H' b=none)
  (there:∀ b o,b ∉ ch→s.heap.get? b=some o→∃ o',h'.get? b=some o')
  (tups:∀ b xs,H b=some (.tup xs)→H' b=some (.tup xs)) (frzs:∀ b o u,H b=some (.frz o u)→H' b=some (.frz o u)) (tbls:∀ b ps,H b=some (.tbl ps)→∃ more,H' b=some (.tbl (ps ++ more)))
  (ns:∀ m,s.heap.Ns X.env.locals m→h'.Ns X.env.locals m) (hok:HOk X.prog X.w H' h') (hg:AllBare g') :
  Inv X pins σ H' { s with heap:=h',gens:=g',drawn:=d',toks:=t' }:=by
 have neL:∀ b o,X.s₀.heap.get? b=some o→b≠X.env.locals:=fun b o e=>Nat.ne_of_lt (Nat.lt_of_lt_of_le (Heap.lt_size e) I.ok.above)
 have neC:∀ b o,X.s₀.heap.get? b=some o→b ∉ X.ex→b ∉ ch:=fun b o e hx hb=>by
  rcases (hch b hb).1 with z | z
  ·exact hx z
  ·exact absurd (Nat.lt_of_lt_of_le (Heap.lt_size e) z) (Nat.lt_irrefl _)
 have cellK:∀ x c,X.env.cells.lookup x=some c→∀ v,s.heap.IsCell c v→h'.IsCell c v:=fun x c e v ⟨o,ho,hd⟩=>by
  have nch:c ∉ ch:=fun z=>(hch c z).2.2.1 x c e rfl
  by_cases hc:c∈X.fs
  ·obtain ⟨sl,q⟩:=slot c o (I.cne x c e) hc nch ho (I.freeC x c e)
   exact ⟨_,q,hd⟩
  ·exact ⟨o,keep c o (I.cne x c e) hc nch ho (I.freeC x c e),hd⟩
 refine ⟨I.ok,I.os,hg,⟨fun b o e n hb hx=>?_,fun b o e n hb hx=>?_,fun b o e n hx=>?_,fun b o e hx=>?_,fun b xs e=>tups b xs (I.base.tups b xs e),fun b o xs e=>frzs b o xs (I.base.frzs b o xs e),fun b ps e=>?_⟩,?_,fun x c e=>?_,?_,fun x c e=>?_,fun p hp=>?_,hok,I.len⟩
 ·exact keep b o (neL b o e) hb (neC b o e hx) (I.base.keep b o e n hb hx) (I.base.free b o e n hx)
 ·obtain ⟨sl,e1⟩:=I.base.slot b o e n hb hx
  obtain ⟨sl',e2⟩:=slot b _ (neL b o e) hb (neC b o e hx) e1 (I.base.free b o e n hx)
  exact ⟨sl',e2⟩
 ·obtain ⟨o',e1⟩:=I.base.there b o e hx
  exact free b o' (neC b o e hx) e1 (I.base.free b o e n hx)
 ·obtain ⟨o',e1⟩:=I.base.there b o e hx
  exact there b o' (neC b o e hx) e1
 ·obtain ⟨m1,e1⟩:=I.base.tbls b ps e
  obtain ⟨m2,e2⟩:=tbls b _ e1
  exact ⟨m1 ++ m2,by rw [e2,Array.append_assoc]⟩
 ·obtain ⟨m,hn,hl⟩:=I.loc
  refine ⟨m,ns m hn,fun i x v e1 e2 e3=>?_⟩
  obtain ⟨u,r,l⟩:=hl i x v e1 e2 e3
  refine ⟨u,r,?_⟩
  rcases l with l | ⟨k,c,e,z⟩
  ·exact .inl l
  ·exact .inr ⟨k,c,e,cellK x c e _ z⟩
 ·obtain ⟨v,z⟩:=I.cell x c e
  exact ⟨v,cellK x c e v z⟩
 ·obtain ⟨m,⟨o,_,_,ho,_⟩,_⟩:=I.loc
  exact free _ o (fun z=>(hch _ z).2.1 rfl) ho I.free
 ·obtain ⟨v,o,ho,hd⟩:=I.cell x c e
  exact free c o (fun z=>(hch c z).2.2.1 x c e rfl) ho (I.freeC x c e)
 ·obtain ⟨e,n,ne,nf,d⟩:=I.pin p hp
  have nch:p.1 ∉ ch:=fun z=>(hch p.1 z).2.2.2 p hp rfl
  exact ⟨keep p.1 p.2 ne nf nch e n,free p.1 p.2 nch e n,ne,nf,d⟩
theorem Inv.un {t':Nat} (I:Inv X pins σ H s) (u:Un X.fs [] H H' s.heap h') (hok:HOk X.prog X.w H' h'):Inv X pins σ H' { s with heap:=h',toks:=t' }:=by
 obtain ⟨m,⟨o,es,ep,ho,r⟩,_⟩:=id I.loc
 obtain ⟨sl,hL⟩:=u.any ho I.free (by simp)
 exact I.step (g':=s.gens) (d':=s.drawn) (ch:=[]) (fun _ z=>nomatch z) (fun b o _ hb _ e n=>u.keep b o e n hb (by simp)) (fun b o _ hb _ e n=>u.slot b o e n hb (by simp)) (fun b o _ e n=>u.free b o e n (by simp)) (fun b o _ e=>u.there b o e (by simp)) u.tups u.frzs u.tbls (fun m' hm=>by
  obtain ⟨o',es',ep',ho',r'⟩:=hm
  rw [ho] at ho';cases ho'
  exact ⟨_,es',ep',hL,r'⟩) hok I.bare
theorem Inv.call {g':Array GenState} {t':Nat} {d':Drawn} {ch:List Addr} (I:Inv X pins σ H s) (u:Un (frs X.stack) ch H H' s.heap h') (hok:HOk X.prog X.w H' h') (hg:AllBare g')
  (hch:∀ b∈ch,(b∈X.ex∨X.s₀.heap.objs.size≤b)∧b≠X.env.locals∧(∀ x c,X.env.cells.lookup x=some c→c≠b)∧∀ p∈X.pn ++ pins,p.1≠b) :
  Inv X pins σ H' { s with heap:=h',gens:=g',drawn:=d',toks:=t' }:=by
 obtain ⟨m,⟨o,es,ep,ho,r⟩,_⟩:=id I.loc
 obtain ⟨sl,hL⟩:=u.any ho I.free fun z=>(hch _ z).2.1 rfl
 exact I.step (ch:=ch) hch (fun b o hL hb hc e n=>u.keep b o e n (fun z=>(List.mem_cons.mp (I.stkSub b z)).elim hL hb) hc) (fun b o _ _ hc e n=>u.any e n hc) (fun b o hc e n=>u.free b o e n hc) (fun b o hc e=>u.there b o e hc) u.tups u.frzs u.tbls (fun m' hm=>by
  obtain ⟨o',es',ep',ho',r'⟩:=hm
  rw [ho] at ho';cases ho'
  exact ⟨_,es',ep',hL,r'⟩) hok hg
theorem Inv.turned {t':Nat} {it:Addr} (I:Inv X pins σ H s) (k:∀ b o,b≠it→s.heap.get? b=some o→h'.get? b=some o) (hn:H it=none) (hL:it≠X.env.locals)
  (h1:it∈X.ex∨X.s₀.heap.objs.size≤it) (h2:∀ x c,X.env.cells.lookup x=some c→c≠it) (h3:∀ p∈X.pn ++ pins,p.1≠it):Inv X pins σ H { s with heap:=h',toks:=t' }:=by
 have nit:∀ b u,H b=some u→b≠it:=fun b u e z=>by rw [z,hn] at e;cases e
 refine I.step (g':=s.gens) (d':=s.drawn) (ch:=[it]) (fun b hb=>?_) (fun b o _ _ hc e _=>k b o (fun z=>hc (by simp [z])) e) (fun b o _ _ hc e _=>⟨o.slots,k b o (fun z=>hc (by simp [z])) e⟩) (fun _ _ _ _ n=>n)
  (fun b o hc e=>⟨o,k b o (fun z=>hc (by simp [z])) e⟩) (fun _ _ e=>e) (fun _ _ _ e=>e) (fun b ps e=>⟨#[],by rw [e];simp⟩) (fun m hm=>?_) (fun b u e=>?_) I.bare
 ·have e:b=it:=by simpa using hb
  subst e
  exact ⟨h1,hL,h2,h3⟩
 ·obtain ⟨o,es,ep,ho,r⟩:=hm
  exact ⟨o,es,ep,k _ o (Ne.symm hL) ho,r⟩
 ·refine (I.hok b u e).stay (fun c v hc q=>k c v ?_ q) (fun _ q=>q) fun _ _ q=>q
  rcases hc with z | z
  ·rw [z];exact nit b u e
  ·exact nit c _ z
theorem Inv.tok (I:Inv X pins σ H s) (t:Nat):Inv X pins σ H { s with toks:=t }:=I.un (h':=s.heap) (t':=t) Un.refl I.hok
theorem Inv.kept {t':Nat} (I:Inv X pins σ H s) (k:∀ b u,s.heap.get? b=some u→h'.get? b=some u):Inv X pins σ H { s with heap:=h',toks:=t' }:=I.un (Un.kept k) (I.hok.kept k)
theorem Inv.laid {a:Addr} {o:HO} {t':Nat} (I:Inv X pins σ H s) (k:∀ b u,s.heap.get? b=some u→h'.get? b=some u) (hp:s.heap.objs.size≤a) (new:ObjOk X.prog X.w (upd H a o) h' a o) :
  Inv X pins σ (upd H a o) { s with heap:=h',toks:=t' }:=I.un (Un.laid k hp (I.hok.fresh hp)) (I.hok.laid k hp new)
theorem Inv.write {x e:Addr} {o:HO} {t':Nat} (I:Inv X pins σ H s) (mu:Mut (H x)) (he:e=x∨H e=some (.own x)) (k:∀ b u,b≠e→s.heap.get? b=some u→h'.get? b=some u) (heo:∃ u,h'.get? e=some u)
  (new:ObjOk X.prog X.w (upd H x o) h' x o):Inv X pins σ (upd H x o) { s with heap:=h',toks:=t' }:=I.un (Un.write mu he k heo) (I.hok.write mu he k heo new)
theorem Inv.pins_of {pins':List (Addr×Obj)} (I:Inv X pins σ H s) (h:∀ p∈pins',s.heap.get? p.1=some p.2∧H p.1=none∧p.1≠X.env.locals∧p.1 ∉ X.fs∧∀ v,p.2.data≠.cell v):Inv X pins' σ H s :=
 ⟨I.ok,I.os,I.bare,I.base,I.loc,I.cell,I.free,I.freeC,fun p hp=>(List.mem_append.mp hp).elim (fun z=>I.pin p (List.mem_append_left _ z)) (h p),I.hok,I.len⟩
theorem xbp {N:List Str} (hN:N.Nodup) {i j:Nat} {x:Str} (a:N[i]?=some x) (b:N[j]?=some x):i=j:=by
 obtain ⟨h1,e1⟩:=List.getElem?_eq_some_iff.mp a
 obtain ⟨h2,e2⟩:=List.getElem?_eq_some_iff.mp b
 exact (List.getElem_inj hN).mp (e1.trans e2.symm)
theorem zbd {M:Model} {A:Around} {E:Value→Shared→Prop} {i:Nat} {x:Str} {v:V} {u:Value} {Q:Unit→Shared→Prop} (I:Inv X pins σ H s) (hN:X.N.Nodup) (hi:X.N[i]?=some x) (hx:Loc X.env.scope x) (r:RelV v u)
  (h:∀ s',Inv X pins (σ.set i (some v)) H s'→(∃ a,Heap.SameBut a s.heap s'.heap∧(a=X.env.locals∨X.env.cells.lookup x=some a))→Q () s') (hf:X.fn x=true∨X.env.scope.names.lookup x=some .local:=by first | exact .inl rfl | exact .inr rfl | assumption):wpAny M A (storeName X.env x u) Q E s:=by
 obtain ⟨m,hn,hl⟩:=id I.loc
 have hcls:(X.env.scope.kind == .class || (X.env.scope.kind == .module && X.env.locals != X.env.globals))=false:=by rw [I.ok.kind];rfl
 have hiσ:i < σ.length:=by rw [I.len];exact (List.getElem?_eq_some_iff.mp hi).1
 have cne:=I.cne
 have tracked:∀ {a:Addr} {h':Heap},(∃ o,s.heap.get? a=some o∧H a=none)→Heap.SameBut a s.heap h'→HOk X.prog X.w H h':=fun {a h'} ha hs b ob e=>by
  obtain ⟨_,_,hfree⟩:=ha
  refine (I.hok b ob e).stay (fun c w' hc q=>(hs.2 c ?_).trans q) (fun _ q=>q) fun _ _ q=>q
  rintro rfl
  rcases hc with rfl | hc
  ·rw [hfree] at e;cases e
  ·rw [hfree] at hc;cases hc
 rcases hx with hk | hk
 ·refine wpAny_storeName_local hk hn (fun h' hn' hs=>?_) hcls
  obtain ⟨oL,_,_,hoL,_⟩:=id hn
  refine h _ ⟨I.ok,I.os,I.bare,⟨fun b o e n hb hx=>?_,fun b o e n hb hx=>?_,I.base.free,fun b o e hx=>?_,I.base.tups,I.base.frzs,I.base.tbls⟩,⟨_,hn',fun j y v' e1 e2 e3=>?_⟩,fun y c e=>?_,I.free,I.freeC,fun p hp=>?_,tracked ⟨oL,hoL,I.free⟩ hs,by simpa using I.len⟩ ⟨_,hs,.inl rfl⟩
  ·exact (hs.2 b (Nat.ne_of_lt (Nat.lt_of_lt_of_le (Heap.lt_size e) I.ok.above))).trans (I.base.keep b o e n hb hx)
  ·obtain ⟨sl,e1⟩:=I.base.slot b o e n hb hx
   exact ⟨sl,(hs.2 b (Nat.ne_of_lt (Nat.lt_of_lt_of_le (Heap.lt_size e) I.ok.above))).trans e1⟩
  ·obtain ⟨o',e1⟩:=I.base.there b o e hx
   exact ⟨o',(hs.2 b (Nat.ne_of_lt (Nat.lt_of_lt_of_le (Heap.lt_size e) I.ok.above))).trans e1⟩
  ·by_cases hj:j=i
   ·subst hj
    rw [hi] at e1;cases e1
    rw [List.getElem?_set_self hiσ] at e2
    cases e2
    exact ⟨u,r,.inl ⟨hk,by simp⟩⟩
   ·rw [List.getElem?_set_ne (Ne.symm hj)] at e2
    obtain ⟨u',r',q⟩:=hl j y v' e1 e2 e3
    refine ⟨u',r',?_⟩
    rcases q with ⟨k,e⟩ | ⟨k,c,e,z⟩
    ·refine .inl ⟨k,?_⟩
     have:y≠x:=fun e=>hj (xbp hN e1 (e ▸ hi))
     simp [this,e]
    ·exact .inr ⟨k,c,e,z.sameBut hs (cne y c e)⟩
  ·obtain ⟨w',z⟩:=I.cell y c e
   exact ⟨w',z.sameBut hs (cne y c e)⟩
  ·obtain ⟨e,n,ne,nf,d⟩:=I.pin p hp
   exact ⟨(hs.2 p.1 ne).trans e,n,ne,nf,d⟩
 ·have hfn:X.fn x=true:=by
   rcases hf with z | z
   ·exact z
   ·rw [z] at hk;cases hk
  obtain ⟨c,hc⟩:=I.ok.has x (.inl hk)
  obtain ⟨w',z⟩:=I.cell x c hc
  refine wpAny_storeName_cell I.ok.kind hk hc z (fun h' hc' hs=>?_)
  obtain ⟨oc,hoc,hocd⟩:=id z
  refine h { s with heap:=h' } ⟨I.ok,I.os,I.bare,⟨fun b o e n hb hx=>?_,fun b o e n hb hx=>?_,I.base.free,fun b o e hx=>?_,I.base.tups,I.base.frzs,I.base.tbls⟩,⟨m,hn.sameBut hs (Ne.symm (cne x c hc)),fun j y v' e1 e2 e3=>?_⟩,fun y c' e=>?_,I.free,I.freeC,fun p hp=>?_,tracked ⟨oc,hoc,I.freeC x c hc⟩ hs,by simpa using I.len⟩ ⟨c,hs,.inr hc⟩
  ·exact (hs.2 b (Nat.ne_of_lt (Nat.lt_of_lt_of_le (Heap.lt_size e) (I.ok.cab x c hfn hc)))).trans (I.base.keep b o e n hb hx)
  ·obtain ⟨sl,e1⟩:=I.base.slot b o e n hb hx
   exact ⟨sl,(hs.2 b (Nat.ne_of_lt (Nat.lt_of_lt_of_le (Heap.lt_size e) (I.ok.cab x c hfn hc)))).trans e1⟩
  ·obtain ⟨o',e1⟩:=I.base.there b o e hx
   exact ⟨o',(hs.2 b (Nat.ne_of_lt (Nat.lt_of_lt_of_le (Heap.lt_size e) (I.ok.cab x c hfn hc)))).trans e1⟩
  ·by_cases hj:j=i
   ·subst hj
    rw [hi] at e1;cases e1
    rw [List.getElem?_set_self hiσ] at e2
    cases e2
    exact ⟨u,r,.inr ⟨.inl hk,c,hc,hc'⟩⟩
   ·rw [List.getElem?_set_ne (Ne.symm hj)] at e2
    obtain ⟨u',r',q⟩:=hl j y v' e1 e2 e3
    refine ⟨u',r',?_⟩
    rcases q with q | ⟨k,c',e,z'⟩
    ·exact .inl q
    ·refine .inr ⟨k,c',e,z'.sameBut hs ?_⟩
     rintro rfl
     exact hj (xbp hN e1 (I.ok.inj _ _ _ e hc ▸ hi))
  ·by_cases hcc:c'=c
   ·subst hcc;exact ⟨_,hc'⟩
   ·obtain ⟨w2,z2⟩:=I.cell y c' e
    exact ⟨w2,z2.sameBut hs hcc⟩
  ·obtain ⟨e,n,ne,nf,d⟩:=I.pin p hp
   refine ⟨(hs.2 p.1 ?_).trans e,n,ne,nf,d⟩
   intro q
   rw [q,hoc] at e
   have q':oc=p.2:=Option.some.inj e
   exact d w' (by rw [← q'];exact hocd)
theorem YaX {M:Model} {A:Around} {E:Value→Shared→Prop} {i:Nat} {x:Str} {v:V} {u:Value} {Q:Unit→Shared→Prop} (I:Inv X pins σ H s) (hN:X.N.Nodup) (hi:X.N[i]?=some x) (hx:Loc X.env.scope x) (r:RelV v u)
  (h:∀ s',Inv X pins (σ.set i (some v)) H s'→Q () s') (hf:X.fn x=true∨X.env.scope.names.lookup x=some .local:=by first | exact .inl rfl | exact .inr rfl | assumption):wpAny M A (storeName X.env x u) Q E s :=
 zbd I hN hi hx r (fun s' I' _=>h s' I') hf
theorem Inv.call' {s':Shared} {ch:List Addr} (I:Inv X pins σ H s) (ho:s'.os=s.os) (u:Un (frs X.stack) ch H H' s.heap s'.heap) (hok:HOk X.prog X.w H' s'.heap) (hg:AllBare s'.gens)
  (hch:∀ b∈ch,(b∈X.ex∨X.s₀.heap.objs.size≤b)∧b≠X.env.locals∧(∀ x c,X.env.cells.lookup x=some c→c≠b)∧∀ p∈X.pn ++ pins,p.1≠b):Inv X pins σ H' s':=by
 obtain ⟨h',g',d',t',o'⟩:=s'
 have e:o'=s.os:=ho
 subst e
 exact I.call (g':=g') (t':=t') (d':=d') u hok hg hch
end
abbrev XK:=Value→Option Addr→Hp→Prop
abbrev St:=List (Option V)
abbrev VK:=V→Hp→Prop
abbrev TE:=St→Hp→VK→Prop
abbrev TT:=St→Hp→(Bool→Hp→Prop)→Prop
abbrev TA:=St→Hp→(List V→Hp→Prop)→Prop
structure Ends where
 nx:St→Hp→Prop
 rt:VK
 bk:St→Hp→Prop:=fun _ _=>False
 ct:St→Hp→Prop:=fun _ _=>False
abbrev TS:=Ends→St→Hp→Prop
noncomputable def EP (X:Cx) (pins:List (Addr×Obj)) (σ:St) (Q:VK) (u:Value) (s':Shared):Prop:=∃ v H',Inv X pins σ H' s'∧RelV v u∧Q v H'
noncomputable def TP (X:Cx) (pins:List (Addr×Obj)) (σ:St) (Q:Bool→Hp→Prop) (b:Bool) (s':Shared):Prop:=∃ H',Inv X pins σ H' s'∧Q b H'
noncomputable def AP (X:Cx) (pins:List (Addr×Obj)) (σ:St) (Q:List V→Hp→Prop) (us:List Value) (s':Shared):Prop:=∃ vs H',Inv X pins σ H' s'∧Vals vs us∧Q vs H'
noncomputable def SP (X:Cx) (pins:List (Addr×Obj)) (D:Ends) (f:Flow) (s':Shared):Prop :=
 match f with
 | .next=>∃ σ' H',Inv X pins σ' H' s'∧D.nx σ' H'
 | .brk=>∃ σ' H',Inv X pins σ' H' s'∧D.bk σ' H'
 | .cont=>∃ σ' H',Inv X pins σ' H' s'∧D.ct σ' H'
 | .ret u=>∃ v σ' H',Inv X pins σ' H' s'∧RelV v u∧D.rt v H'
noncomputable def PE (X:Cx) (e:Expr) (t:TE):Prop :=
 ∀ (pins:List (Addr×Obj)) (s:Shared) (σ:St) (H:Hp) (Q:VK),Inv X pins σ H s→t σ H Q→wpAny (model X.prog X.w) X.A (eval e X.env) (EP X pins σ Q) X.xe s
noncomputable def PT (X:Cx) (e:Expr) (t:TT):Prop :=
 ∀ (pins:List (Addr×Obj)) (s:Shared) (σ:St) (H:Hp) (Q:Bool→Hp→Prop),Inv X pins σ H s→t σ H Q→wpAny (model X.prog X.w) X.A (isTrue e X.env (eval e X.env)) (TP X pins σ Q) X.xe s
noncomputable def PW (X:Cx) (e:Expr) (t:TT):Prop :=
 ∀ (whole:Sem Value) (pins:List (Addr×Obj)) (s:Shared) (σ:St) (H:Hp) (Q:Bool→Hp→Prop),Inv X pins σ H s→t σ H Q→wpAny (model X.prog X.w) X.A (isTrue e X.env whole) (TP X pins σ Q) X.xe s
theorem PW.pt {X:Cx} {e:Expr} {t:TT} (h:PW X e t):PT X e t:=h _
noncomputable def PA (X:Cx) (es:List Expr) (t:TA):Prop :=
 ∀ (pos:Pos) (pins:List (Addr×Obj)) (s:Shared) (σ:St) (H:Hp) (Q:List V→Hp→Prop),Inv X pins σ H s→t σ H Q→wpAny (model X.prog X.w) X.A (spliced (backTo pos (starEach es X.env))) (AP X pins σ Q) X.xe s
noncomputable def PS (X:Cx) (st:Stmt) (t:TS):Prop :=
 ∀ (pins:List (Addr×Obj)) (s:Shared) (σ:St) (H:Hp) (D:Ends),Inv X pins σ H s→t D σ H→wpAny (model X.prog X.w) X.A (exec st X.env) (SP X pins D) X.xe s
noncomputable def PSs (X:Cx) (st:List Stmt) (t:TS):Prop :=
 ∀ (pins:List (Addr×Obj)) (s:Shared) (σ:St) (H:Hp) (D:Ends),Inv X pins σ H s→t D σ H→wpAny (model X.prog X.w) X.A (execs st X.env) (SP X pins D) X.xe s
theorem thn {α:Type} {t:Sem α} {Q Q':α→Shared→Prop} {M:Model} {A:Around} {E:Value→Shared→Prop} {s:Shared} (h:wpAny M A t Q E s) (hQ:∀ a s,Q a s→Q' a s):wpAny M A t Q' E s:=wpAny_mono h hQ fun _ _ x=>x
end L2
namespace L2
open PySem PySem.Spec PyProof.Rows
section
variable {X:Cx}
theorem bin {a b:Expr} {ta tb:TE} (ha:PE X a ta) (hb:PE X b tb) {pins:List (Addr×Obj)} {s:Shared} {σ:St} {H:Hp} {R:V→V→Hp→Prop} (I:Inv X pins σ H s) (h:ta σ H fun x H1=>tb σ H1 fun y H2=>R x y H2)
  {α:Type} {Q:α→Shared→Prop} {f:Value→Value→Sem α}
  (hf:∀ v u s2 x y H2,Inv X pins σ H2 s2→RelV x v→RelV y u→R x y H2→wpAny (model X.prog X.w) X.A (f v u) Q X.xe s2) :
  wpAny (model X.prog X.w) X.A (eval a X.env) (fun v s₁=>wpAny (model X.prog X.w) X.A (eval b X.env) (fun u s₂=>wpAny (model X.prog X.w) X.A (f v u) Q X.xe s₂) X.xe s₁) X.xe s:=by
 refine thn (ha pins s σ H _ I h) fun v s1 ⟨x,H1,I1,r1,q1⟩=>?_
 refine thn (hb pins s1 σ H1 _ I1 q1) fun u s2 ⟨y,H2,I2,r2,q2⟩=>?_
 exact hf v u s2 x y H2 I2 r1 r2 q2
noncomputable def tVar (i:Nat):TE:=fun σ H Q=>∃ v,σ[i]?=some (some v)∧Q v H
noncomputable def tC (v:V):TE:=fun _ H Q=>Q v H
theorem pe_var {i:Nat} {x:Str} {pos:Pos} (hN:X.N[i]?=some x) (hv:Vis X.env.scope x) (hd:(x == ("__debug__" : Str))=false:=by decide) (hcd:(x == ("__classdict__" : Str))=false:=by decide):PE X (.Name x pos) (tVar i):=by
 intro pins s σ H Q I h
 obtain ⟨v,e,h⟩:=h
 obtain ⟨m,hn,hl⟩:=I.loc
 obtain ⟨u,r,l⟩:=hl i x v hN e hv
 have fin:EP X pins σ Q u s:=⟨v,H,I,r,h⟩
 rcases l with ⟨hk,hm⟩ | ⟨hk,c,hc,hcell⟩
 ·exact wpAny_Name (wpAny_loadName_local I.ok.kind hk hn hm fin) hd
 ·rcases hk with hk | hk
  ·exact wpAny_Name (wpAny_loadName_cell I.ok.kind hk hc hcell fin) hd
  ·exact wpAny_Name (wpAny_loadName_free I.ok.kind hk hc hcell fin hcd) hd
theorem Yac {i j pos}:PE X (.Constant (.int i) j pos) (tC (.int i)):=fun _ _ _ H _ I h=>wpAny_Constant_int ⟨.int i,H,I.tok _,⟨_,rfl⟩,h⟩
theorem ybC {b j pos}:PE X (.Constant (.bool b) j pos) (tC (.bl b)):=fun _ _ _ H _ I h=>Constant_bool ⟨.bl b,H,I,rfl,h⟩
theorem ybd {x j pos}:PE X (.Constant (.str x) j pos) (tC (.str x)):=fun _ _ _ H _ I h=>Calls.Constant_str ⟨.str x,H,I.tok _,⟨_,rfl⟩,h⟩
noncomputable def Gl (X:Cx) (x:Str):Prop:=X.env.kindOf x=some .globalImplicit
theorem xb3 {E:Value→Shared→Prop} {pins:List (Addr×Obj)} {s:Shared} {σ:St} {H:Hp} {x:Str} {u:Value} {pos:Pos} {Q:Value→Shared→Prop} (I:Inv X pins σ H s) (hg:Gl X x) (hm:X.mg x=some u) (h:Q u s)
  (hd:(x == ("__debug__" : Str))=false:=by decide):wpAny (model X.prog X.w) X.A (eval (.Name x pos) X.env) Q E s :=
 Calls.Name_function_global I.ok.kind hg (Calls.loadGlobal_global (by rw [I.ok.glob];exact I.mod.glob.keeps I.bk) hm h) hd
theorem Zbd {E:Value→Shared→Prop} {pins:List (Addr×Obj)} {s:Shared} {σ:St} {H:Hp} {x:Str} {u:Value} {pos:Pos} {Q:Value→Shared→Prop} (I:Inv X pins σ H s) (hg:Gl X x) (hm:X.mg x=none) (hv:bootBuiltins x=some u) (h:Q u s)
  (hn:x≠"__name__" := by decide) (hd:(x == ("__debug__" : Str))=false:=by decide):wpAny (model X.prog X.w) X.A (eval (.Name x pos) X.env) Q E s:=by
 obtain ⟨mb,h1,h2⟩:=I.mod.blt
 exact Calls.Name_function_global I.ok.kind hg (Calls.loadGlobal_builtin (by rw [I.ok.glob];exact I.mod.glob.keeps I.bk) hm (by rw [I.ok.blt];exact h1.keeps I.bk) ((h2 x hn).trans hv) h) hd
variable {a b:Expr} {ta tb:TE} {pos:Pos}
noncomputable def PC (X:Cx) (op:CmpOp) (a b:Expr) (t:TE):Prop :=
 ∀ (pins:List (Addr×Obj)) (s:Shared) (σ:St) (H:Hp) (Q:VK),Inv X pins σ H s→t σ H Q →
  wpAny (model X.prog X.w) X.A (eval a X.env) (fun v s₁=>wpAny (model X.prog X.w) X.A (eval b X.env) (fun u s₂=>wpAny (model X.prog X.w) X.A (compareOp op v u) (EP X pins σ Q) X.xe s₂) X.xe s₁) X.xe s
theorem nobehind (b:Expr) {op:CmpOp} (h:op≠.In) (h2:op≠.NotIn):behindInMarks op b=false:=by
 have e1:(op == CmpOp.In)=false:=by cases op <;> first | rfl | exact absurd rfl h
 have e2:(op == CmpOp.NotIn)=false:=by cases op <;> first | rfl | exact absurd rfl h2
 cases b <;> simp [behindInMarks,e1,e2]
noncomputable def tB (t:TE):TT:=fun σ H Q=>t σ H fun x H1=>∃ c,x=.bl c∧Q c H1
theorem Yb0 {op:CmpOp} {t:TE} (h:PC X op a b t) (h1:behindInMarks op b=false:=by first | exact nobehind _ (by decide) (by decide) | rfl):PT X (.Compare a [op] [b] pos) (tB t):=by
 intro pins s σ H Q I hw
 refine wpAny_isTrue_Compare1 (thn (h pins s σ H _ I hw) fun v s1 h1=>thn h1 fun u s2 h2=>thn h2 fun c s3 ⟨x,H1,I1,r1,q1⟩=>?_) h1
 obtain ⟨d,rfl,q⟩:=q1
 cases r1
 exact wpAny_truthy_bool ⟨H1,I1,q⟩
theorem ZbC {e:Expr} {t:TE} (h:PE X e t) (he:∀ whole,isTrue e X.env whole=(do let v ← whole;standAt e.pos;holding [v] (truthy v)):=by intro _;rfl):PT X e (tB t):=by
 intro pins s σ H Q I hw
 refine isTrue_plain (thn (h pins s σ H _ I hw) fun v s1 ⟨x,H1,I1,r1,q1⟩=>?_) (he _)
 obtain ⟨d,rfl,q⟩:=q1
 cases r1
 exact wpAny_truthy_bool ⟨H1,I1,q⟩
variable {tA tB':TT} {rest:List Expr}
noncomputable def tAnd (t u:TT):TT:=fun σ H Q=>t σ H fun c H1=>if c=true then u σ H1 Q else Q false H1
noncomputable def tOr (t u:TT):TT:=fun σ H Q=>t σ H fun c H1=>if c=true then Q true H1 else u σ H1 Q
noncomputable def tNot (t:TT):TT:=fun σ H Q=>t σ H fun c H1=>Q (!c) H1
theorem Xb3 (ha:PT X a tA):PW X (.BoolOp .And [a] pos) tA:=by
 intro wh pins s σ H Q I h
 refine isTrue_and (thn (ha pins s σ H Q I h) fun c s1 e=>?_)
 cases c with
 | true=>exact isTrue_and_nil e
 | false=>exact e
theorem pw_or1 (ha:PT X a tA):PW X (.BoolOp .Or [a] pos) tA:=by
 intro wh pins s σ H Q I h
 refine isTrue_or (thn (ha pins s σ H Q I h) fun c s1 e=>?_)
 cases c with
 | false=>exact isTrue_or_nil e
 | true=>exact e
theorem pw_and (ha:PT X a tA) (hb:PW X (.BoolOp .And (b :: rest) pos) tB'):PW X (.BoolOp .And (a :: b :: rest) pos) (tAnd tA tB'):=by
 intro wh pins s σ H Q I h
 refine isTrue_and (thn (ha pins s σ H _ I h) fun c s1 ⟨H1,I1,q1⟩=>?_)
 cases c with
 | true=>exact hb wh pins s1 σ H1 Q I1 q1
 | false=>exact ⟨H1,I1,q1⟩
theorem pw_or (ha:PT X a tA) (hb:PW X (.BoolOp .Or (b :: rest) pos) tB'):PW X (.BoolOp .Or (a :: b :: rest) pos) (tOr tA tB'):=by
 intro wh pins s σ H Q I h
 refine isTrue_or (thn (ha pins s σ H _ I h) fun c s1 ⟨H1,I1,q1⟩=>?_)
 cases c with
 | true=>exact ⟨H1,I1,q1⟩
 | false=>exact hb wh pins s1 σ H1 Q I1 q1
theorem pt_not (ha:PT X a tA):PT X (.UnaryOp .Not a pos) (tNot tA):=by
 intro pins s σ H Q I h
 exact isTrue_not (ha pins s σ H (fun c H1=>Q (!c) H1) I h)
end
end L2
namespace L2
open PySem PySem.Spec PyProof.Rows
noncomputable def SqL (K:PySem.W.Frag) (H:Hp) (a:Addr) (xs:List V):Prop :=
 Rd H a (.lst xs) ∨
  ∃ (o:Obj) (its:Array Value) (n:Nat),K.lookup a=some o∧o.cls=.type "list" ∧ o.dict=none∧o.data=.seq its n∧its.size≤sizeLine∧Vals xs its.toList
noncomputable def SqT (K:PySem.W.Frag) (H:Hp) (a:Addr) (xs:List V):Prop :=
 Rd H a (.tup xs) ∨
  ∃ (o:Obj) (its:Array Value) (n:Nat),K.lookup a=some o∧o.cls=.type "tuple" ∧ o.dict=none∧o.data=.seq its n∧its.size≤sizeLine∧Vals xs its.toList
noncomputable def absV:Value→Option V
 | .none=>some .non
 | .bool b=>some (.bl b)
 | .int i _=>some (.int i)
 | .str x _=>some (.str x)
 | .bytes b _=>some (.byt b)
 | .float b _=>some (.flt b)
 | .ref a=>some (.ref a)
 | .type n=>some (.ty n)
 | _=>none
theorem RelV.abs {x:V} {u:Value} (r:RelV x u):absV u=some x:=by
 cases x with
 | non=>cases r;rfl
 | bl _=>cases r;rfl
 | int _=>obtain ⟨t,rfl⟩:=r;rfl
 | str _=>obtain ⟨t,rfl⟩:=r;rfl
 | byt _=>obtain ⟨t,rfl⟩:=r;rfl
 | flt _=>obtain ⟨t,rfl⟩:=r;rfl
 | ref _=>cases r;rfl
 | ty _=>cases r;rfl
theorem RelV.inj {x y:V} {u:Value} (r:RelV x u) (q:RelV y u):x=y:=Option.some.inj (r.abs.symm.trans q.abs)
theorem Vals.inj:∀ {xs ys:List V} {us:List Value},Vals xs us→Vals ys us→xs=ys
 | _,_,_,.nil,.nil=>rfl
 | _,_,_,.cons r t,.cons r' t'=>by rw [r.inj r',Vals.inj t t']
section
variable {X:Cx} {pins:List (Addr×Obj)} {σ:St} {H:Hp} {s:Shared} {a:Addr} {xs ys:List V}
theorem SqT.of {K:PySem.W.Frag} (h:H a=some (.tup xs)):SqT K H a xs:=.inl (.inl h)
theorem Inv.list (I:Inv X pins σ H s) (h:SqL X.K H a xs):∃ its:List Value,Vals xs its∧PlainL s.heap a its.toArray∧xs.length≤sizeLine:=by
 rcases h with h | ⟨o,its,n,hk,hc,hd,hs,hz,r⟩
 ·obtain ⟨z,its,n,r,e⟩:=h.ok I.hok
  exact ⟨its,r,⟨_,n,e,rfl,rfl,rfl⟩,z⟩
 ·refine ⟨its.toList,r,⟨o,n,I.kIn a o hk,hc,hd,by simpa using hs⟩,?_⟩
  have e:=r.length
  simp only [Array.length_toList] at e
  omega
theorem Inv.tupleP (I:Inv X pins σ H s) (h:SqT X.K H a xs):∃ its:List Value,Vals xs its∧PTup s.heap a its.toArray∧xs.length≤sizeLine:=by
 rcases h with h | ⟨o,its,n,hk,hc,hd0,hs,hz,r⟩
 ·obtain ⟨z,its,r,p⟩:=h.ok I.hok
  exact ⟨its,r,p,z⟩
 ·refine ⟨its.toList,r,⟨o,I.kIn a o hk,hc,hd0,n,by simpa using hs⟩,?_⟩
  have e:=r.length
  simp only [Array.length_toList] at e
  omega
theorem Inv.tuple (I:Inv X pins σ H s) (h:SqT X.K H a xs):∃ its:List Value,Vals xs its∧IsTup s.heap a its.toArray∧xs.length≤sizeLine :=
 let ⟨its,r,p,z⟩:=I.tupleP h
 ⟨its,r,p.tup,z⟩
theorem Inv.list_inj (I:Inv X pins σ H s) (h:SqL X.K H a xs) (h':SqL X.K H a ys):xs=ys:=by
 obtain ⟨its,r,⟨o,n,e,_,_,d⟩,_⟩:=I.list h
 obtain ⟨its',r',⟨o',n',e',_,_,d'⟩,_⟩:=I.list h'
 rw [e] at e';cases e'
 rw [d] at d'
 injection d' with d1 _
 have:its=its':=by simpa using congrArg Array.toList d1
 subst this
 exact r.inj r'
theorem Inv.tuple_inj (I:Inv X pins σ H s) (h:SqT X.K H a xs) (h':SqT X.K H a ys):xs=ys:=by
 obtain ⟨its,r,⟨o,e,_,n,d⟩,_⟩:=I.tuple h
 obtain ⟨its',r',⟨o',e',_,n',d'⟩,_⟩:=I.tuple h'
 rw [e] at e';cases e'
 rw [d] at d'
 injection d' with d1 _
 have:its=its':=by simpa using congrArg Array.toList d1
 subst this
 exact r.inj r'
end
abbrev Cx.wish (X:Cx) (E:Value→Shared→Prop):Cx:={ X with xe:=E }
abbrev Cx.nox (X:Cx):Cx:=X.wish fun _ _=>False
theorem Cx.Ok.wish {X:Cx} (ok:X.Ok) (E:Value→Shared→Prop):(X.wish E).Ok :=
 ⟨ok.mod,ok.kind,ok.glob,ok.blt,ok.above,ok.inj,ok.has,ok.cab,ok.hd,ok.frames,ok.stk,ok.exf,ok.bs,ok.bsz,ok.noex,ok.exfs,ok.funs,ok.frf⟩
theorem Cx.Ok.unwish {X:Cx} {E:Value→Shared→Prop} (ok:(X.wish E).Ok):X.Ok :=
 ⟨ok.mod,ok.kind,ok.glob,ok.blt,ok.above,ok.inj,ok.has,ok.cab,ok.hd,ok.frames,ok.stk,ok.exf,ok.bs,ok.bsz,ok.noex,ok.exfs,ok.funs,ok.frf⟩
section
variable {X:Cx} {pins:List (Addr×Obj)} {σ:St} {H:Hp} {s:Shared} {E:Value→Shared→Prop}
theorem Inv.wish (I:Inv X pins σ H s) (E:Value→Shared→Prop):Inv (X.wish E) pins σ H s:=⟨I.ok.wish E,I.os,I.bare,I.base,I.loc,I.cell,I.free,I.freeC,I.pin,I.hok,I.len⟩
theorem Inv.unwish (I:Inv (X.wish E) pins σ H s):Inv X pins σ H s:=⟨I.ok.unwish,I.os,I.bare,I.base,I.loc,I.cell,I.free,I.freeC,I.pin,I.hok,I.len⟩
theorem SP.unwish {D:Ends} {f:Flow} {s':Shared} (h:SP (X.wish E) pins D f s'):SP X pins D f s':=by
 cases f with
 | next=>obtain ⟨σ',H',I,q⟩:=h;exact ⟨σ',H',I.unwish,q⟩
 | brk=>obtain ⟨σ',H',I,q⟩:=h;exact ⟨σ',H',I.unwish,q⟩
 | cont=>obtain ⟨σ',H',I,q⟩:=h;exact ⟨σ',H',I.unwish,q⟩
 | ret u=>obtain ⟨v,σ',H',I,r,q⟩:=h;exact ⟨v,σ',H',I.unwish,r,q⟩
theorem PSs.nox {st:List Stmt} {t:TS} (h:PSs X.nox st t):PSs X st t:=fun pins s σ H D I hw =>
 wpAny_mono (h pins s σ H D (I.wish _) hw) (fun _ _ q=>q.unwish) fun _ _ z=>False.elim z
end
section
variable {X:Cx} {st:Stmt} {rest:List Stmt} {t u:TS} {e:Expr} {te:TE} {pos:Pos}
noncomputable def tNext:TS:=fun D σ H=>D.nx σ H
noncomputable def tSeq (t u:TS):TS:=fun D σ H=>t { D with nx:=u D } σ H
theorem yam:PSs X [] tNext:=fun _ _ σ H _ I h=>wpAny_execs_nil ⟨σ,H,I,h⟩
theorem yab (h1:PS X st t) (h2:PSs X rest u):PSs X (st :: rest) (tSeq t u):=by
 intro pins s σ H D I h
 refine wpAny_execs_cons (thn (h1 pins s σ H { D with nx:=u D } I h) fun f s1 q=>?_)
 cases f with
 | next =>
  obtain ⟨σ',H',I',q⟩:=q
  exact h2 pins s1 σ' H' D I' q
 | ret v=>exact q
 | brk=>exact q
 | cont=>exact q
theorem Yad (h1:PS X st t):PSs X [st] t:=by
 intro pins s σ H D I h
 refine wpAny_execs_cons (thn (h1 pins s σ H D I h) fun f s1 q=>?_)
 cases f with
 | next=>exact wpAny_execs_nil q
 | ret v=>exact q
 | brk=>exact q
 | cont=>exact q
noncomputable def tBreak:TS:=fun D σ H=>D.bk σ H
theorem ybS:PS X (.Break pos) tBreak:=fun _ _ σ H _ I h=>wpAny_Break ⟨σ,H,I,h⟩
theorem Inv.quiet {pins:List (Addr×Obj)} {σ:St} {H:Hp} {s:Shared} (I:Inv X pins σ H s):interactive X.env=false:=by simp [interactive,I.ok.kind]
noncomputable def tDrop (te:TE):TS:=fun D σ H=>te σ H fun _ H1=>D.nx σ H1
theorem Xaz (he:PE X e te) (hs:swapsWith e none pos.line X.env=pure false:=by rfl):PS X (.Expr e pos) (tDrop te):=by
 intro pins s σ H D I h
 exact wpAny_Expr_any (thn (he pins s σ H _ I h) fun v s1 ⟨x,H1,I1,r1,q1⟩=>⟨σ,H1,I1,q1⟩) I.quiet hs
noncomputable def tRet (te:TE):TS:=fun D σ H=>te σ H D.rt
theorem yak (he:PE X e te):PS X (.Return (some e) pos) (tRet te):=by
 intro pins s σ H D I h
 exact wpAny_Return_some (thn (he pins s σ H _ I h) fun v s1 ⟨x,H1,I1,r1,q1⟩=>⟨x,σ,H1,I1,r1,q1⟩)
noncomputable def tIfS (c:TT) (t u:TS):TS:=fun D σ H=>c σ H fun b H1=>if b=true then t D σ H1 else u D σ H1
theorem XaG {c:Expr} {a b:List Stmt} {tc:TT} (hc:PT X c tc) (ha:PSs X a t) (hb:PSs X b u):PS X (.If c a b pos) (tIfS tc t u):=by
 intro pins s σ H D I h
 refine wpAny_If (thn (hc pins s σ H _ I h) fun d s1 ⟨H1,I1,q1⟩=>?_)
 cases d with
 | true=>exact ha pins s1 σ H1 D I1 q1
 | false=>exact hb pins s1 σ H1 D I1 q1
end
abbrev TG:=V→St→Hp→(St→Hp→Prop)→Prop
abbrev TGs:=List V→St→Hp→(St→Hp→Prop)→Prop
noncomputable def PG (X:Cx) (target:Expr) (t:TG):Prop :=
 ∀ (pins:List (Addr×Obj)) (s:Shared) (σ:St) (H:Hp) (v:V) (u:Value) (Q:St→Hp→Prop),Inv X pins σ H s→RelV v u→t v σ H Q →
  wpAny (model X.prog X.w) X.A (assign target X.env u) (fun _ s'=>∃ σ' H',Inv X pins σ' H' s'∧Q σ' H') X.xe s
noncomputable def PGs (X:Cx) (ts:List Expr) (t:TGs):Prop :=
 ∀ (pins:List (Addr×Obj)) (s:Shared) (σ:St) (H:Hp) (vs:List V) (us:List Value) (Q:St→Hp→Prop),Inv X pins σ H s→Vals vs us→t vs σ H Q →
  wpAny (model X.prog X.w) X.A (assignInOrder ((assignEach ts X.env).map (·.2)) us) (fun _ s'=>∃ σ' H',Inv X pins σ' H' s'∧Q σ' H') X.xe s
abbrev TSet:=V→V→V→Hp→(Hp→Prop)→Prop
noncomputable def PSet (X:Cx) (t:TSet):Prop :=
 ∀ (pins:List (Addr×Obj)) (s:Shared) (σ:St) (H:Hp) (o i v:V) (ov iv u:Value) (Q:Hp→Prop),Inv X pins σ H s→RelV o ov→RelV i iv→RelV v u→t o i v H Q →
  wpAny (model X.prog X.w) X.A (setItem ov iv u) (fun _ s'=>∃ H',Inv X pins σ H' s'∧Q H') X.xe s
section
variable {X:Cx} {pos:Pos}
noncomputable def gName (i:Nat):TG:=fun v σ H Q=>Q (σ.set i (some v)) H
theorem xae {i:Nat} {x:Str} (hN:X.N.Nodup) (hi:X.N[i]?=some x) (hx:Loc X.env.scope x) (hf:X.fn x=true∨X.env.scope.names.lookup x=some .local:=by first | exact .inl rfl | exact .inr rfl | assumption):PG X (.Name x pos) (gName i):=by
 intro pins s σ H v u Q I r h
 exact wpAny_assign_Name (YaX I hN hi hx r (fun s' I'=>⟨_,H,I',h⟩) hf)
noncomputable def gNil:TGs:=fun vs σ H Q=>vs=[]∧Q σ H
noncomputable def gCons (t:TG) (u:TGs):TGs:=fun vs σ H Q=>∃ v r,vs=v :: r∧t v σ H fun σ' H'=>u r σ' H' Q
theorem YaM:PGs X [] gNil:=by
 intro pins s σ H vs us Q I r h
 obtain ⟨e,h⟩:=h
 subst e
 cases r
 exact assignInOrder_nil ⟨σ,H,I,h⟩
theorem Yaj {e:Expr} {es:List Expr} {t:TG} {u:TGs} (h1:PG X e t) (h2:PGs X es u)
  (hs:(assignEach (e :: es) X.env).map (·.2)=assign e X.env :: (assignEach es X.env).map (·.2):=by rfl):PGs X (e :: es) (gCons t u):=by
 intro pins s σ H vs us Q I r h
 obtain ⟨v,vr,e1,h⟩:=h
 subst e1
 cases r with
 | cons r rr =>
  rw [hs]
  refine assignInOrder_cons (thn (h1 pins s σ H _ _ _ I r h) fun _ s1 ⟨σ1,H1,I1,q1⟩=>?_)
  exact h2 pins s1 σ1 H1 _ _ Q I1 rr q1
noncomputable def gTup (K:PySem.W.Frag) (n:Nat) (t:TGs):TG:=fun v σ H Q=>∃ a xs,v=.ref a∧SqT K H a xs∧xs.length=n∧t xs σ H Q
theorem ZaW {es:List Expr} {k:Nat} {t:TGs} {n:Nat} (hc:X.calm=true) (h:PGs X es t)
  (hn:(assignEach es X.env).length=n:=by rfl) (hst:(assignEach es X.env).findIdx? (·.1)=none:=by rfl):PG X (.Tuple es k pos) (gTup X.K n t):=by
 intro pins s σ H v u Q I r hw
 obtain ⟨a,xs,e1,hq,hl,hw⟩:=hw
 subst e1
 cases r
 obtain ⟨its,rv,ht,hz⟩:=I.tuple hq
 refine assign_Tuple_tuple (I.ok.hd hc) ht (by simp [hn,← hl,rv.length]) hst fun h' hx=>?_
 have I1:Inv X pins σ H { s with heap:=h' }:=I.kept (t':=s.toks) fun b o e=>hx b o (Nat.ne_of_lt (Heap.lt_size e)) e
 exact h pins _ σ H xs _ Q I1 (by simpa using rv) hw
noncomputable def gSub (to ti:TE) (t:TSet):TG:=fun v σ H Q=>to σ H fun o H1=>ti σ H1 fun i H2=>t o i v H2 fun H3=>Q σ H3
theorem Ybd {o i:Expr} {to ti:TE} {t:TSet} (ho:PE X o to) (hi:PE X i ti) (hs:PSet X t)
  (ha:∀ v,assign (.Subscript o i pos) X.env v=(do
   let ov ← holding [v] (eval o X.env)
   let iv ← holding [v,ov] (eval i X.env)
   standAt pos
   holding [v,ov,iv] (setItem ov iv v)
   release [v,ov,iv] []):=by intro _;rfl):PG X (.Subscript o i pos) (gSub to ti t):=by
 intro pins s σ H v u Q I r h
 rw [ha]
 refine wpAny_bind (wpAny_holding (thn (ho pins s σ H _ I h) fun ov s1 ⟨x,H1,I1,r1,q1⟩=>?_))
 refine wpAny_bind (wpAny_holding (thn (hi pins s1 σ H1 _ I1 q1) fun iv s2 ⟨y,H2,I2,r2,q2⟩=>?_))
 refine wpAny_bind (wpAny_standAt (wpAny_bind (wpAny_holding (thn (hs pins s2 σ H2 x y v ov iv u _ I2 r1 r2 r q2) fun _ s3 ⟨H3,I3,q3⟩=>?_))))
 exact wpAny_release ⟨σ,H3,I3,q3⟩
noncomputable def tAsg (te:TE) (g:TG):TS:=fun D σ H=>te σ H fun x H1=>g x σ H1 D.nx
theorem YaW {tg e:Expr} {te:TE} {g:TG} (he:PE X e te) (hg:PG X tg g) (hs:swapsWithSole [tg] e pos.line X.env=pure false:=by rfl) (hw:swappedStores [tg] e X.env=pure none:=by rfl)
  (h1:(assignEach [tg] X.env).map (·.2)=[assign tg X.env]:=by rfl):PS X (.Assign [tg] e pos) (tAsg te g):=by
 intro pins s σ H D I h
 refine wpAny_Assign_stores (thn (he pins s σ H _ I h) fun v s1 ⟨x,H1,I1,r1,q1⟩=>?_) hs hw
 rw [h1]
 exact thn (hg pins s1 σ H1 x v _ I1 r1 q1) fun _ s2 q=>q
theorem Yaf {i:Nat} {x:Str} {e:Expr} {te:TE} {pos':Pos} (hN:X.N.Nodup) (hi:X.N[i]?=some x) (hx:Loc X.env.scope x) (he:PE X e te) (hs:swapsWith e (some (.Name x pos')) pos.line X.env=pure false:=by rfl) (hf:X.fn x=true∨X.env.scope.names.lookup x=some .local:=by first | exact .inl rfl | exact .inr rfl | assumption) :
  PS X (.Assign [.Name x pos'] e pos) (tAsg te (gName i)):=by
 intro pins s σ H D I h
 refine wpAny_Assign_Name (thn (he pins s σ H _ I h) fun v s1 ⟨y,H1,I1,r1,q1⟩=>?_) hs
 exact YaX I1 hN hi hx r1 (fun s2 I2=>⟨_,H1,I2,q1⟩) hf
noncomputable def tPar (i j:Nat) (ta:TA):TS:=fun D σ H=>ta σ H fun vs H1=>∃ v w,vs=[v,w]∧D.nx ((σ.set i (some v)).set j (some w)) H1
theorem YbC {i j:Nat} {x y:Str} {a b:Expr} {ta:TA} {px py pt:Pos} {kt k2 pt2} (hc:X.calm=true) (hN:X.N.Nodup) (hi:X.N[i]?=some x) (hj:X.N[j]?=some y) (hij:i≠j)
  (hx:X.env.scope.names.lookup x=some .local) (hy:X.env.scope.names.lookup y=some .local) (ha:PA X [a,b] ta)
  (hw:swappedStores [.Tuple [.Name x px,.Name y py] kt pt] (.Tuple [a,b] k2 pt2) X.env=pure (some [x,y]))
  (hs:swapsWithSole [.Tuple [.Name x px,.Name y py] kt pt] (.Tuple [a,b] k2 pt2) pos.line X.env=pure false:=by rfl) :
  PS X (.Assign [.Tuple [.Name x px,.Name y py] kt pt] (.Tuple [a,b] k2 pt2) pos) (tPar i j ta):=by
 intro pins s σ H D I h
 rw [exec_Assign_arm]
 refine wpAny_bind (wpAny_standAt ?_)
 rw [hs]
 refine wpAny_bind (wpAny_pure ?_)
 rw [if_neg (by decide)]
 refine wpAny_bind (Tuple_ (thn (ha _ pins s σ H _ I h) fun us s1 ⟨vs,H1,I1,r1,q1⟩=>?_))
 obtain ⟨v,w,e1,q1⟩:=q1
 subst e1
 obtain ⟨u1,u2,rfl,rv,rw'⟩:∃ u1 u2,us=[u1,u2]∧RelV v u1∧RelV w u2:=by
  cases r1 with
  | cons p q =>
   cases q with
   | cons p' q' =>
    cases q'
    exact ⟨_,_,rfl,p,p'⟩
 refine wpAny_newObj_type ?_ (by show 2≤sizeLine;decide)
 have I2:Inv X pins σ H1 { s1 with heap:=s1.heap.push { cls:=.type "tuple",data:=.seq [u1,u2].toArray } }:=I1.kept (t':=s1.toks) fun b o e=>Heap.get?_push_of_some _ e
 rw [hw]
 refine wpAny_bind (wpAny_pure ?_)
 show wpAny (model X.prog X.w) X.A (do rule "assign.swapped-stores";let items ← unpackItems (.ref s1.heap.objs.size) 2 none;assignInOrder [fun v=>bindName X.env y v,fun v=>bindName X.env x v] items.reverse;pure Flow.next) _ _ _
 refine wpAny_bind (wpAny_rule (wpAny_bind (unpackItems_tuple (items:=#[u1,u2]) (I.ok.hd hc) (IsTup.new s1.heap _) fun h' hx'=>?_)))
 have I3:=I2.kept (h':=h') (t':=s1.toks) fun b o e=>hx' b o (Nat.ne_of_lt (Heap.lt_size e)) e
 show wpAny _ _ (assignInOrder [fun v=>bindName X.env y v,fun v=>bindName X.env x v] [u2,u1] >>= fun _=>pure Flow.next) _ _ _
 refine wpAny_bind (assignInOrder_cons (wpAny_bindName (YaX I3 hN hj (.inl hy) rw' (fun s2 I4=>?_) (.inr hy))))
 refine assignInOrder_cons (wpAny_bindName (YaX I4 hN hi (.inl hx) rv (fun s3 I5=>assignInOrder_nil (wpAny_pure ?_)) (.inr hx)))
 rw [List.set_comm _ _ (Ne.symm hij)] at I5
 exact ⟨_,H1,I5,q1⟩
end
section
variable {X:Cx} {pos:Pos}
noncomputable def tWhile (c:TT) (tb:TS):TS:=fun D σ H=>∃ W:Nat→St→Hp→Prop,(∃ m,W m σ H)∧∀ m σ H,W m σ H →
 c σ H fun b H1=>if b=true then ∃ N:St→Hp→Prop,(∀ σ' H',N σ' H'→∃ m',m' < m∧W m' σ' H')∧tb { D with nx:=N,ct:=N,bk:=D.nx } σ H1 else D.nx σ H1
theorem yaJ {c:Expr} {body:List Stmt} {tc:TT} {tb:TS} (hp:PassesOwn (model X.prog X.w) X.A X.env X.xe) (hc:PT X c tc) (hb:PSs X body tb):PS X (.While c body [] pos) (tWhile tc tb):=by
 intro pins s σ H D I h
 obtain ⟨W,⟨m0,w0⟩,turn⟩:=h
 refine wpAny_While (codeAny_whileLoop (fun n s'=>∃ σ' H',Inv X pins σ' H' s'∧W n σ' H') ?_ m0 ⟨σ,H,I,w0⟩)
 rintro n s1 ⟨σ1,H1,I1,w1⟩
 refine wpAny_passesOwn hp (thn (hc pins s1 σ1 H1 _ I1 (turn n σ1 H1 w1)) fun b s2 ⟨H2,I2,q2⟩=>?_)
 cases b with
 | true =>
  obtain ⟨N,hN,q2⟩:=q2
  rw [if_pos rfl]
  refine wpAny_passesOwn hp (thn (hb pins s2 σ1 H2 _ I2 q2) fun f s3 q3=>?_)
  cases f with
  | next =>
   obtain ⟨σ3,H3,I3,n3⟩:=q3
   obtain ⟨m',hm,w3⟩:=hN σ3 H3 n3
   exact ⟨m',hm,σ3,H3,I3,w3⟩
  | cont =>
   obtain ⟨σ3,H3,I3,n3⟩:=q3
   obtain ⟨m',hm,w3⟩:=hN σ3 H3 n3
   exact ⟨m',hm,σ3,H3,I3,w3⟩
  | brk=>exact q3
  | ret v=>exact q3
 | false =>
  rw [if_neg Bool.false_ne_true]
  exact wpAny_execs_nil ⟨σ1,H2,I2,q2⟩
end
structure It where
 go:Nat→Hp→Prop
 yld:Nat→Hp→V→Hp→Prop
 stop:Nat→Hp→Prop
noncomputable def FpOk (X:Cx) (pins:List (Addr×Obj)) (H:Hp) (b:Addr):Prop :=
 H b=none∧b≠X.env.locals∧b ∉ X.fs∧(b∈X.ex∨X.s₀.heap.objs.size≤b)∧(∀ x c,X.env.cells.lookup x=some c→c≠b)∧∀ p∈X.pn ++ pins,p.1≠b
theorem Inv.fpOk {X:Cx} {pins:List (Addr×Obj)} {σ:St} {H H':Hp} {s:Shared} {b:Addr} (I:Inv X pins σ H s) (hb:s.heap.objs.size≤b) (hn:H' b=none):FpOk X pins H' b:=by
 refine ⟨hn,Nat.ne_of_gt (Nat.lt_of_lt_of_le I.lt hb),I.nofs hb,.inr (Nat.le_trans I.sz hb),fun x c e z=>?_,fun p hp z=>?_⟩
 ·obtain ⟨v,q⟩:=I.cell x c e
  exact absurd (Nat.lt_of_lt_of_le q.lt (by rw [z];exact hb)) (Nat.lt_irrefl _)
 ·exact absurd (Nat.lt_of_lt_of_le (Heap.lt_size (I.pin p hp).1) (by rw [z];exact hb)) (Nat.lt_irrefl _)
structure Turn (P:Program) (w:World) (K:PySem.W.Frag) (tg:Expr) (J:It) (fp:List Addr) (it:Addr) (tn:Nat→Heap→Prop):Prop where
 mem:it∈fp
 obj:∀ i h,tn i h→∀ b∈fp,∃ o,h.get? b=some o∧∀ v,o.data≠.cell v
 keep:∀ i h h',tn i h→(∀ b∈fp,∀ o,h.get? b=some o→h'.get? b=some o)→tn i h'
 item:∀ (X:Cx),X.prog=P→X.w=w→X.K=K→X.calm=true→∀ (i:Nat) (pins:List (Addr×Obj)) (s:Shared) (σ:St) (H:Hp) (E:Value→Shared→Prop),Inv X pins σ H s→(∀ b∈fp,FpOk X pins H b)→tn i s.heap→J.go i H →
  wpAny (model P w) X.A (pyNext (.ref it)) (fun r s1=>∃ u,r=some u ∧
   wpAny (model P w) X.A (letOwnedTupleGo tg (.ref it) u) (fun _ s2=>∃ x H',Inv X pins σ H' s2∧RelV x u∧J.yld i H x H'∧tn (i + 1) s2.heap∧∀ b∈fp,H' b=none) E s1) E s
 done:∀ (X:Cx),X.prog=P→X.w=w→X.K=K→X.calm=true→∀ (i:Nat) (pins:List (Addr×Obj)) (s:Shared) (σ:St) (H:Hp) (E:Value→Shared→Prop),Inv X pins σ H s→(∀ b∈fp,FpOk X pins H b)→tn i s.heap→J.stop i H →
  wpAny (model P w) X.A (pyNext (.ref it)) (fun r s1=>r=none∧Inv X pins σ H s1) E s
 self:∀ (A:Around) (i:Nat) (s:Shared) (Q:Value→Shared→Prop) (E:Value→Shared→Prop),tn i s.heap→Q (.ref it) s→wpAny (model P w) A (pyIter (.ref it)) Q E s
abbrev TI:=St→Hp→(It→Hp→Prop)→Prop
noncomputable def PIE (X:Cx) (pins:List (Addr×Obj)) (σ:St) (tg:Expr) (R:It→Hp→Prop) (itv:Value) (s2:Shared):Prop :=
 ∃ (it:Addr) (fp:List Addr) (tn:Nat→Heap→Prop) (J:It) (H':Hp),itv=.ref it∧Inv X pins σ H' s2∧Turn X.prog X.w X.K tg J fp it tn∧tn 0 s2.heap∧(∀ b∈fp,FpOk X pins H' b)∧R J H'
noncomputable def PI (X:Cx) (tg iter:Expr) (wi:TI):Prop :=
 ∀ (pins:List (Addr×Obj)) (s:Shared) (σ:St) (H:Hp) (R:It→Hp→Prop),Inv X pins σ H s→wi σ H R →
  wpAny (model X.prog X.w) X.A (eval iter X.env) (fun v s1=>wpAny (model X.prog X.w) X.A (pyIter v) (PIE X pins σ tg R) X.xe s1) X.xe s
theorem zb4 {M:Model} {A:Around} {E:Value→Shared→Prop} {s:Shared} {tg:Expr} {it:Addr} {u:Value} {o:Obj} {n:String} {vs:Array Value} {Q:Unit→Shared→Prop} (ho:s.heap.get? it=some o) (hc:o.cls=.type n) (hd:o.data=.fields vs)
  (hn:["enumerate","zip","dict_itemiterator","dict_reverseitemiterator","odict_iterator","itertools.zip_longest","itertools.pairwise"].contains n=false) (hQ:Q () s):wpAny M A (letOwnedTupleGo tg (.ref it) u) Q E s:=by
 unfold letOwnedTupleGo
 cases tg <;> first
  | exact wpAny_pure hQ
  | (cases u <;> first
    | exact wpAny_pure hQ
    | (refine wpAny_bind (wpAny_load ho ?_)
       rw [hc,hd]
       show wpAny M A (if (["enumerate","zip","dict_itemiterator","dict_reverseitemiterator","odict_iterator","itertools.zip_longest","itertools.pairwise"].contains n && vs[0]? == some (rawInt _))=true then _ else _) Q E s
       rw [if_neg (by intro h;rw [hn,Bool.false_and] at h;cases h)]
       exact wpAny_pure hQ))
noncomputable def Itl (K:PySem.W.Frag) (a:Addr):It :=
 ⟨fun i H=>∃ xs x,SqL K H a xs∧xs[i]?=some x,fun i H x H'=>H'=H∧∀ xs,SqL K H a xs→xs[i]?=some x,fun i H=>∃ xs,SqL K H a xs∧xs.length≤i⟩
noncomputable def Itt (K:PySem.W.Frag) (a:Addr):It :=
 ⟨fun i H=>∃ xs x,SqT K H a xs∧xs[i]?=some x,fun i H x H'=>H'=H∧∀ xs,SqT K H a xs→xs[i]?=some x,fun i H=>∃ xs,SqT K H a xs∧xs.length≤i⟩
noncomputable def Itr (lo:Int) (n:Nat):It:=⟨fun i _=>i < n,fun i H x H'=>H'=H∧x=.int (lo + i),fun i _=>n≤i⟩
theorem xbC {P:Program} {w:World} {K:PySem.W.Frag} {tg:Expr} (a it:Addr):Turn P w K tg (Itl K a) [it] it (fun i h=>h.IsListIter it a i) where
 mem:=by simp
 obj:=fun i h st b hb=>by
  have e:b=it:=by simpa using hb
  subst e
  obtain ⟨o,e,c,d⟩:=st
  exact ⟨o,e,fun v z=>by rw [d] at z;cases z⟩
 keep:=fun i h h' st k=>st.at fun o e=>k it (by simp) o e
 item:=by
  intro X hP hw hK hc i pins s σ H E I hf st hg
  subst hP hw hK
  obtain ⟨xs,x,hq,hx⟩:=hg
  obtain ⟨its,rv,p,hz⟩:=I.list hq
  obtain ⟨u,hu,ru⟩:=rv.get hx
  obtain ⟨f0,f1,f2,f3,f4,f5⟩:=hf it (by simp)
  refine wpAny_pyNext_list_item st p.isList (x:=u) (by simpa using hu) fun h' st' sb=>?_
  have I1:Inv X pins σ H { s with heap:=h' }:=I.turned (t':=s.toks) (fun b o hb e=>(sb.2 b hb).trans e) f0 f1 f3 f4 f5
  obtain ⟨o,e,c,d⟩:=id st'
  exact ⟨u,rfl,zb4 (s:={ s with heap:=h' }) e c d (by decide) ⟨x,H,I1,ru,⟨rfl,fun ys hy=>by rw [I.list_inj hy hq];exact hx⟩,st',fun b hb=>(hf b hb).1⟩⟩
 done:=by
  intro X hP hw hK hc i pins s σ H E I hf st hg
  subst hP hw hK
  obtain ⟨xs,hq,hx⟩:=hg
  obtain ⟨its,rv,p,hz⟩:=I.list hq
  obtain ⟨f0,f1,f2,f3,f4,f5⟩:=hf it (by simp)
  have hl:=rv.length
  exact wpAny_pyNext_list_end (I.ok.hd hc) st p.isList (by simp;omega) fun h' eb=>⟨rfl,I.turned (t':=s.toks) (fun b o hb e=>eb b o hb e) f0 f1 f3 f4 f5⟩
 self:=fun _ _ _ _ _ st h=>wpAny_pyIter_listiter st h
theorem xbv {P:Program} {w:World} {K:PySem.W.Frag} {tg:Expr} (a it:Addr):Turn P w K tg (Itt K a) [it] it (fun i h=>h.IsTupleIter it a i) where
 mem:=by simp
 obj:=fun i h st b hb=>by
  have e:b=it:=by simpa using hb
  subst e
  obtain ⟨o,e,c,d⟩:=st
  exact ⟨o,e,fun v z=>by rw [d] at z;cases z⟩
 keep:=fun i h h' st k=>st.at fun o e=>k it (by simp) o e
 item:=by
  intro X hP hw hK hc i pins s σ H E I hf st hg
  subst hP hw hK
  obtain ⟨xs,x,hq,hx⟩:=hg
  obtain ⟨its,rv,p,hz⟩:=I.tuple hq
  obtain ⟨u,hu,ru⟩:=rv.get hx
  obtain ⟨f0,f1,f2,f3,f4,f5⟩:=hf it (by simp)
  refine wpAny_pyNext_tuple_item st (show s.heap.IsTuple a its.toArray from p) (x:=u) (by simpa using hu) fun h' st' sb=>?_
  have I1:Inv X pins σ H { s with heap:=h' }:=I.turned (t':=s.toks) (fun b o hb e=>(sb.2 b hb).trans e) f0 f1 f3 f4 f5
  obtain ⟨o,e,c,d⟩:=id st'
  exact ⟨u,rfl,zb4 (s:={ s with heap:=h' }) e c d (by decide) ⟨x,H,I1,ru,⟨rfl,fun ys hy=>by rw [I.tuple_inj hy hq];exact hx⟩,st',fun b hb=>(hf b hb).1⟩⟩
 done:=by
  intro X hP hw hK hc i pins s σ H E I hf st hg
  subst hP hw hK
  obtain ⟨xs,hq,hx⟩:=hg
  obtain ⟨its,rv,p,hz⟩:=I.tuple hq
  obtain ⟨f0,f1,f2,f3,f4,f5⟩:=hf it (by simp)
  have hl:=rv.length
  exact wpAny_pyNext_tuple_end (I.ok.hd hc) st (show s.heap.IsTuple a its.toArray from p) (by simp;omega) fun h' eb=>⟨rfl,I.turned (t':=s.toks) (fun b o hb e=>eb b o hb e) f0 f1 f3 f4 f5⟩
 self:=fun _ _ _ _ _ st h=>wpAny_pyIter_tupleiter st h
theorem Xbv {P:Program} {w:World} {K:PySem.W.Frag} {tg:Expr} (it:Addr) (lo:Int) (n:Nat):Turn P w K tg (Itr lo n) [it] it (fun i h=>IsRangeIter h it (lo + (i:Nat) * 1) ((n:Int) - (i:Nat)) 1) where
 mem:=by simp
 obj:=fun i h st b hb=>by
  have e:b=it:=by simpa using hb
  subst e
  exact ⟨_,st,fun v z=>by
   have z':Data.fields _=Data.cell v:=z
   cases z'⟩
 keep:=fun i h h' st k=>k it (by simp) _ st
 item:=by
  intro X hP hw hK hc i pins s σ H E I hf st hg
  subst hP hw hK
  obtain ⟨f0,f1,f2,f3,f4,f5⟩:=hf it (by simp)
  have W:=Walks.range (prog:=X.prog) (w:=X.w) (I.ok.hd hc) it lo 1 n
  refine W.item i s _ _ hg st fun v h' tk hv st' kk=>?_
  obtain ⟨t,rfl⟩:=hv
  have I1:Inv X pins σ H { s with heap:=h',toks:=tk }:=I.turned (fun b o hb e=>kk b o (by simpa using hb) e) f0 f1 f3 f4 f5
  refine ⟨_,rfl,zb4 (s:={ s with heap:=h',toks:=tk }) (n:="range_iterator") st' rfl rfl (by decide) ⟨.int (lo + i),H,I1,⟨t,?_⟩,⟨rfl,rfl⟩,st',fun b hb=>(hf b hb).1⟩⟩
  rw [Int.mul_one]
 done:=by
  intro X hP hw hK hc i pins s σ H E I hf st hg
  subst hP hw hK
  obtain ⟨f0,f1,f2,f3,f4,f5⟩:=hf it (by simp)
  exact wpAny_pyNext_range_end (I.ok.hd hc) st (by have:n≤i:=hg;omega) fun h' eb=>⟨rfl,I.turned (t':=s.toks) (fun b o hb e=>eb b o hb e) f0 f1 f3 f4 f5⟩
 self:=fun _ _ _ _ _ st h=>wpAny_pyIter_rangeiter st h
end L2
namespace L2
open PySem PySem.Spec PyProof.Rows
section
variable {X:Cx} {tg:Expr}
noncomputable def iList (K:PySem.W.Frag) (tl:TE):TI:=fun σ H R=>tl σ H fun x H1=>∃ a,x=.ref a∧(∃ xs,SqL K H1 a xs)∧R (Itl K a) H1
noncomputable def iTup (K:PySem.W.Frag) (tl:TE):TI:=fun σ H R=>tl σ H fun x H1=>∃ a,x=.ref a∧(∃ xs,SqT K H1 a xs)∧R (Itt K a) H1
theorem xa6 {l:Expr} {tl:TE} (hl:PE X l tl):PI X tg l (iList X.K tl):=by
 intro pins s σ H R I h
 refine thn (hl pins s σ H _ I h) fun v s1 ⟨x,H1,I1,r1,q1⟩=>?_
 obtain ⟨a,e,⟨xs,hq⟩,q⟩:=q1
 subst e
 cases r1
 obtain ⟨its,rv,p,hz⟩:=I1.list hq
 refine wpAny_pyIter_list p.isList ?_
 refine ⟨s1.heap.objs.size,[s1.heap.objs.size],_,_,H1,rfl,I1.kept (t':=s1.toks) fun b o e=>Heap.get?_push_of_some _ e,xbC a _,⟨_,Heap.get?_push_size _ rfl,rfl,rfl⟩,fun b hb=>?_,q⟩
 have e:b=s1.heap.objs.size:=by simpa using hb
 subst e
 exact I1.fpOk (Nat.le_refl _) (I1.hok.fresh (Nat.le_refl _))
theorem XaE {l:Expr} {tl:TE} (hl:PE X l tl):PI X tg l (iTup X.K tl):=by
 intro pins s σ H R I h
 refine thn (hl pins s σ H _ I h) fun v s1 ⟨x,H1,I1,r1,q1⟩=>?_
 obtain ⟨a,e,⟨xs,hq⟩,q⟩:=q1
 subst e
 cases r1
 obtain ⟨its,rv,p,hz⟩:=I1.tuple hq
 refine wpAny_pyIter_tuple (show s1.heap.IsTuple a its.toArray from p) ?_
 refine ⟨s1.heap.objs.size,[s1.heap.objs.size],_,_,H1,rfl,I1.kept (t':=s1.toks) fun b o e=>Heap.get?_push_of_some _ e,xbv a _,⟨_,Heap.get?_push_size _ rfl,rfl,rfl⟩,fun b hb=>?_,q⟩
 have e:b=s1.heap.objs.size:=by simpa using hb
 subst e
 exact I1.fpOk (Nat.le_refl _) (I1.hok.fresh (Nat.le_refl _))
theorem ZbS {pins:List (Addr×Obj)} {σ:St} {H:Hp} {s:Shared} {R:It→Hp→Prop} {E:Value→Shared→Prop} {lo hi:Int} {t u v:Tok} {tk:Nat} (I:Inv X pins σ H s) (h1:-(2 ^ 62)≤lo) (h2:lo < 2 ^ 62) (h3:-(2 ^ 62)≤hi) (h4:hi < 2 ^ 62)
  (q:R (Itr lo (hi - lo).toNat) H):wpAny (model X.prog X.w) X.A (pyIter (.ref s.heap.objs.size)) (PIE X pins σ tg R) E { s with heap:=s.heap.push { cls:=.type "range",data:=.fields #[.int lo t,.int hi u,.int 1 v] },toks:=tk }:=by
 refine wpAny_pyIter_range (IsRange.new ..) (small_one h1 h2 h3 h4) ?_
 have I1:Inv X pins σ H { s with heap:=s.heap.push { cls:=.type "range",data:=.fields #[.int lo t,.int hi u,.int 1 v] },toks:=tk }:=I.kept fun b o e=>Heap.get?_push_of_some _ e
 refine ⟨(s.heap.push { cls:=.type "range",data:=.fields #[.int lo t,.int hi u,.int 1 v] }).objs.size,[(s.heap.push { cls:=.type "range",data:=.fields #[.int lo t,.int hi u,.int 1 v] }).objs.size],_,_,H,rfl,
  I1.kept (t':=tk) fun b o e=>Heap.get?_push_of_some _ e,Xbv _ lo (hi - lo).toNat,?_,fun b hb=>?_,q⟩
 ·have e1:lo + ((0:Nat):Int) * 1=lo:=by simp
  have e2:(((hi - lo).toNat:Nat):Int) - ((0:Nat):Int)=Builtin.Range.rangeSize lo hi 1:=by rw [rangeSize_one];split <;> omega
  show IsRangeIter _ _ (lo + ((0:Nat):Int) * 1) ((((hi - lo).toNat:Nat):Int) - ((0:Nat):Int)) 1
  rw [e1,e2]
  exact Heap.get?_push_size _ rfl
 ·have e:b=(s.heap.push { cls:=.type "range",data:=.fields #[.int lo t,.int hi u,.int 1 v] }).objs.size:=by simpa using hb
  subst e
  exact I1.fpOk (Nat.le_refl _) (I1.hok.fresh (Nat.le_refl _))
noncomputable def iRng1 (ta:TA):TI:=fun σ H R=>ta σ H fun vs H1=>∃ j:Int,vs=[.int j]∧-(2 ^ 62)≤j∧j < 2 ^ 62∧R (Itr 0 j.toNat) H1
theorem Zaj {a:Expr} {ta:TA} {p pos:Pos} (hg:Gl X "range") (hm:X.mg "range" = none) (ha:PA X [a] ta) (hs:starEach [a] X.env=[(false,eval a X.env)]:=by rfl):PI X tg (.Call (.Name "range" p) [a] [] pos) (iRng1 ta):=by
 intro pins s σ H R I h
 refine Call_ (Zbd I hg hm boot_range (PyProof.Rows.callWith_type1 (thn (ha pos pins s σ H _ I h) fun us s1 ⟨vs,H1,I1,r1,q1⟩=>?_) hs rfl))
 obtain ⟨j,e,q1,q2,q⟩:=q1
 subst e
 cases r1 with
 | cons r rr =>
  cases rr
  obtain ⟨t,rfl⟩:=r
  exact call_range_1 (ZbS I1 (by omega) (by omega) q1 q2 (by simpa using q))
noncomputable def tFor (wi:TI) (g:TG) (tb:TS):TS:=fun D σ H=>wi σ H fun J H1=>∃ W:Nat→Nat→St→Hp→Prop,(∃ m,W 0 m σ H1)∧∀ i m σ H,W i m σ H →
 (J.stop i H∧D.nx σ H)∨(J.go i H∧∃ N:St→Hp→Prop,(∀ σ' H',N σ' H'→∃ m',m' < m∧W (i + 1) m' σ' H')∧∀ x H',J.yld i H x H'→g x σ H' fun σ2 H2=>tb { D with nx:=N,ct:=N,bk:=D.nx } σ2 H2)
noncomputable def pinsAt (fp:List Addr) (h:Heap):List (Addr×Obj):=fp.filterMap fun b=>(h.get? b).map fun o=>(b,o)
theorem zaP {fp:List Addr} {h:Heap} {b:Addr} {o:Obj} (hb:b∈fp) (e:h.get? b=some o):(b,o)∈pinsAt fp h:=List.mem_filterMap.mpr ⟨b,hb,by rw [e];rfl⟩
theorem XbC {fp:List Addr} {h:Heap} {p:Addr×Obj} (hp:p∈pinsAt fp h):p.1∈fp∧h.get? p.1=some p.2:=by
 obtain ⟨b,hb,e⟩:=List.mem_filterMap.mp hp
 cases q:h.get? b with
 | none=>rw [q] at e;cases e
 | some o =>
  rw [q] at e
  have e':(b,o)=p:=Option.some.inj e
  subst e'
  exact ⟨hb,q⟩
theorem Inv.pinned {pins:List (Addr×Obj)} {σ:St} {H:Hp} {s:Shared} {fp:List Addr} (I:Inv X pins σ H s) (hf:∀ b∈fp,FpOk X pins H b) (ho:∀ b∈fp,∃ o,s.heap.get? b=some o∧∀ v,o.data≠.cell v):Inv X (pins ++ pinsAt fp s.heap) σ H s :=
 I.pins_of fun p hp=>(List.mem_append.mp hp).elim (fun z=>I.pin p (List.mem_append_right _ z)) fun z=>by
  obtain ⟨hb,e⟩:=XbC z
  obtain ⟨f0,f1,f2,_⟩:=hf p.1 hb
  obtain ⟨o,e',d⟩:=ho p.1 hb
  rw [e] at e';cases e'
  exact ⟨e,f0,f1,f2,d⟩
theorem Inv.unpinned {pins pl:List (Addr×Obj)} {σ:St} {H:Hp} {s:Shared} (I:Inv X (pins ++ pl) σ H s):Inv X pins σ H s:=I.pins_of fun p hp=>I.pin p (List.mem_append_right _ (List.mem_append_left _ hp))
theorem zaH {iter:Expr} {body:List Stmt} {wi:TI} {g:TG} {tb:TS} {pos:Pos} (hp:PassesOwn (model X.prog X.w) X.A X.env X.xe) (hc:X.calm=true) (hi:PI X tg iter wi) (hg:PG X tg g) (hb:PSs X body tb)
  (hs:∀ x,foldedSetIterable iter X.env x=pure x:=by intro _;rfl):PS X (.For tg iter body [] pos) (tFor wi g tb):=by
 intro pins s σ H D I h
 refine wpAny_For (thn (hi pins s σ H _ I h) fun v s1 h1=>thn h1 fun itv s2 h2=>?_) hs
 obtain ⟨it,fp,tn,J,H2,e,I2,T,st2,f2,W,⟨m0,w0⟩,turn⟩:=h2
 subst e
 have stat:∀ {H':Hp},(∀ b∈fp,H' b=none)→∀ b∈fp,FpOk X pins H' b:=fun hn b hb=>⟨hn b hb,(f2 b hb).2⟩
 refine codeAny_forLoop_any (fun n s'=>∃ i σ' H',Inv X pins σ' H' s'∧tn i s'.heap∧(∀ b∈fp,H' b=none)∧W i n σ' H') ?_ m0 ⟨0,σ,H2,I2,st2,fun b hb=>(f2 b hb).1,w0⟩
 rintro n s3 ⟨i,σ3,H3,I3,st3,fr3,w3⟩
 rcases turn i n σ3 H3 w3 with ⟨stop,qn⟩ | ⟨go,N,hN,step⟩
 ·refine wpAny_passesOwn hp (thn (T.done X rfl rfl rfl hc i pins s3 σ3 H3 X.xe I3 (stat fr3) st3 stop) fun r s4 ⟨hr,I4⟩=>?_)
  subst hr
  exact wpAny_execs_nil ⟨σ3,H3,I4,qn⟩
 ·refine wpAny_passesOwn hp (thn (T.item X rfl rfl rfl hc i pins s3 σ3 H3 X.xe I3 (stat fr3) st3 go) fun r s4 ⟨u,hr,h4⟩=>?_)
  subst hr
  refine wpAny_passesOwn hp (thn h4 fun _ s5 ⟨x,H5,I5,r5,y5,st5,fr5⟩=>?_)
  have I5':=I5.pinned (stat fr5) (T.obj _ _ st5)
  refine wpAny_passesOwn hp (thn (hg _ s5 σ3 H5 x u _ I5' r5 (step x H5 y5)) fun _ s6 ⟨σ6,H6,I6,q6⟩=>?_)
  refine wpAny_passesOwn hp (thn (hb _ s6 σ6 H6 _ I6 q6) fun f s7 q7=>?_)
  have again:∀ {σ7:St} {H7:Hp},Inv X (pins ++ pinsAt fp s5.heap) σ7 H7 s7→N σ7 H7→∃ m,m < n∧∃ i σ' H',Inv X pins σ' H' s7∧tn i s7.heap∧(∀ b∈fp,H' b=none)∧W i m σ' H':=fun {σ7 H7} I7 n7=>by
   obtain ⟨m',hm,w7⟩:=hN σ7 H7 n7
   refine ⟨m',hm,i + 1,σ7,H7,I7.unpinned,T.keep _ _ _ st5 fun b hb o e=>(I7.pin (b,o) (List.mem_append_right _ (List.mem_append_right _ (zaP hb e)))).1,fun b hb=>?_,w7⟩
   obtain ⟨o,e,d⟩:=T.obj _ _ st5 b hb
   exact (I7.pin (b,o) (List.mem_append_right _ (List.mem_append_right _ (zaP hb e)))).2.1
  cases f with
  | next=>obtain ⟨σ7,H7,I7,n7⟩:=q7;exact again I7 n7
  | cont=>obtain ⟨σ7,H7,I7,n7⟩:=q7;exact again I7 n7
  | brk=>obtain ⟨σ7,H7,I7,q7⟩:=q7;exact ⟨σ7,H7,I7.unpinned,q7⟩
  | ret v=>obtain ⟨x7,σ7,H7,I7,r7,q7⟩:=q7;exact ⟨x7,σ7,H7,I7.unpinned,r7,q7⟩
end
end L2
namespace L2
open PySem PySem.Spec PyProof.Rows
abbrev R2:=V→V→Hp→VK→Prop
noncomputable def OpR (X:Cx) (f:Value→Value→Sem Value) (r:R2):Prop :=
 ∀ (pins:List (Addr×Obj)) (s:Shared) (σ:St) (H:Hp) (x y:V) (v u:Value) (Q:VK),Inv X pins σ H s→RelV x v→RelV y u→r x y H Q →
  wpAny (model X.prog X.w) X.A (f v u) (EP X pins σ Q) X.xe s
noncomputable def UnR (X:Cx) (f:Value→Sem Value) (r:V→Hp→VK→Prop):Prop :=
 ∀ (pins:List (Addr×Obj)) (s:Shared) (σ:St) (H:Hp) (x:V) (v:Value) (Q:VK),Inv X pins σ H s→RelV x v→r x H Q →
  wpAny (model X.prog X.w) X.A (f v) (EP X pins σ Q) X.xe s
noncomputable def CallR (X:Cx) (f:Value) (r:List V→Hp→VK→Prop):Prop :=
 ∀ (pins:List (Addr×Obj)) (s:Shared) (σ:St) (H:Hp) (xs:List V) (us:List Value) (Q:VK),Inv X pins σ H s→Vals xs us→r xs H Q →
  wpAny (model X.prog X.w) X.A (call f us) (EP X pins σ Q) X.xe s
noncomputable def tOp (r:R2) (ta tb:TE):TE:=fun σ H Q=>ta σ H fun x H1=>tb σ H1 fun y H2=>r x y H2 Q
noncomputable def tUn (r:V→Hp→VK→Prop) (ta:TE):TE:=fun σ H Q=>ta σ H fun x H1=>r x H1 Q
noncomputable def rI (C:Int→Int→Prop) (g:Int→Int→V):R2:=fun x y H Q=>∃ i j,x=.int i∧y=.int j∧C i j∧Q (g i j) H
noncomputable def rI0 (g:Int→Int→V):R2:=fun x y H Q=>∃ i j,x=.int i∧y=.int j∧Q (g i j) H
noncomputable def rU (g:Int→V):V→Hp→VK→Prop:=fun x H Q=>∃ i,x=.int i∧Q (g i) H
section
variable {X:Cx} {a b c:Expr} {ta tb tc:TE} {pos:Pos}
theorem binT (ha:PE X a ta) (hb:PE X b tb) {pins:List (Addr×Obj)} {s:Shared} {σ:St} {H:Hp} {R:V→V→Hp→Prop} (I:Inv X pins σ H s)
  (h:ta σ H fun x H1=>tb σ H1 fun y H2=>R x y H2) {Q:Value→Shared→Prop} {f:Value→Value→Sem Value}
  (hf:∀ v u s2 x y H2,Inv X pins σ H2 s2→RelV x v→RelV y u→R x y H2→wpAny (model X.prog X.w) X.A (f v u) Q X.xe s2) :
  wpAny (model X.prog X.w) X.A (eval a X.env) (fun v s₁=>wpAny (model X.prog X.w) X.A (eval b X.env) (fun u s₂=>wpAny (model X.prog X.w) X.A (f v u) Q X.xe s₂) X.xe s₁) X.xe s:=by
 refine thn (ha pins s σ H _ I h) fun v s1 ⟨x,H1,I1,r1,q1⟩=>?_
 refine thn (hb pins s1 σ H1 _ I1 q1) fun u s2 ⟨y,H2,I2,r2,q2⟩=>?_
 exact hf v u s2 x y H2 I2 r1 r2 q2
theorem Zah {op:Operator} {r:R2} (ho:OpR X (binaryOp op) r) (ha:PE X a ta) (hb:PE X b tb):PE X (.BinOp a op b pos) (tOp r ta tb):=by
 intro pins s σ H Q I h
 exact wpAny_BinOp (binT ha hb I h fun v u s2 x y H2 I2 rx ry q=>ho pins s2 σ H2 x y v u Q I2 rx ry q)
theorem Xa2 {op:UnaryOp} {r:V→Hp→VK→Prop} (ho:UnR X (unaryOp op) r) (ha:PE X a ta):PE X (.UnaryOp op a pos) (tUn r ta):=by
 intro pins s σ H Q I h
 exact UnaryOp_ (thn (ha pins s σ H _ I h) fun v s1 ⟨x,H1,I1,r1,q1⟩=>ho pins s1 σ H1 x v Q I1 r1 q1)
theorem opI {f:Value→Value→Sem Value} {C:Int→Int→Prop} {g:Int→Int→Int}
  (rule:∀ (i j:Int) (t u:Tok) (s:Shared) (Q:Value→Shared→Prop) (E:Value→Shared→Prop),C i j→Q (.int (g i j) s.toks) { s with toks:=s.toks + 1 }→wpAny (model X.prog X.w) X.A (f (.int i t) (.int j u)) Q E s) :
  OpR X f (rI C fun i j=>.int (g i j)):=by
 intro pins s σ H x y v u Q I rx ry h
 obtain ⟨i,j,rfl,rfl,hc,q⟩:=h
 obtain ⟨t,rfl⟩:=rx
 obtain ⟨t',rfl⟩:=ry
 exact rule i j t t' s _ _ hc ⟨.int (g i j),H,I.tok _,⟨_,rfl⟩,q⟩
theorem opI0 {f:Value→Value→Sem Value} {g:Int→Int→Int}
  (rule:∀ (i j:Int) (t u:Tok) (s:Shared) (Q:Value→Shared→Prop) (E:Value→Shared→Prop),Q (.int (g i j) s.toks) { s with toks:=s.toks + 1 }→wpAny (model X.prog X.w) X.A (f (.int i t) (.int j u)) Q E s) :
  OpR X f (rI0 fun i j=>.int (g i j)):=by
 intro pins s σ H x y v u Q I rx ry h
 obtain ⟨i,j,rfl,rfl,q⟩:=h
 obtain ⟨t,rfl⟩:=rx
 obtain ⟨t',rfl⟩:=ry
 exact rule i j t t' s _ _ ⟨.int (g i j),H,I.tok _,⟨_,rfl⟩,q⟩
theorem opB0 {f:Value→Value→Sem Value} {g:Int→Int→Bool}
  (rule:∀ (i j:Int) (t u:Tok) (s:Shared) (Q:Value→Shared→Prop) (E:Value→Shared→Prop),Q (.bool (g i j)) s→wpAny (model X.prog X.w) X.A (f (.int i t) (.int j u)) Q E s) :
  OpR X f (rI0 fun i j=>.bl (g i j)):=by
 intro pins s σ H x y v u Q I rx ry h
 obtain ⟨i,j,rfl,rfl,q⟩:=h
 obtain ⟨t,rfl⟩:=rx
 obtain ⟨t',rfl⟩:=ry
 exact rule i j t t' s _ _ ⟨.bl (g i j),H,I,rfl,q⟩
noncomputable def CDiv (i j:Int):Prop:=0 < j∧j < 1073741824
noncomputable def CPow (i j:Int):Prop:=0≤j∧j≤1000000∧i.natAbs < 2 ^ 64
noncomputable def CMul (i j:Int):Prop:=(-(2 ^ 64) < i∧i < 2 ^ 64)∨(-(2 ^ 64) < j∧j < 2 ^ 64)
theorem CMul.ok {i j:Int} (h:CMul i j):IntMulOk i j:=by
 rcases h with ⟨h1,h2⟩ | ⟨h1,h2⟩
 ·exact .of_left (intBits_le_64 h1 h2)
 ·exact .of_right (intBits_le_64 h1 h2)
theorem zaw:OpR X (binaryOp .Add) (rI0 fun i j=>.int (i + j)):=opI0 fun _ _ _ _ _ _ _ q=>add_int q
theorem Xbp:OpR X (binaryOp .Sub) (rI0 fun i j=>.int (i - j)):=opI0 fun _ _ _ _ _ _ _ q=>sub_int q
theorem xaQ:OpR X (binaryOp .Mult) (rI CMul fun i j=>.int (i * j)):=opI fun _ _ _ _ _ _ _ hc q=>mul_int q hc.ok
theorem Zbl:OpR X (binaryOp .FloorDiv) (rI CDiv fun i j=>.int (i / j)):=opI fun i j _ _ _ _ _ hc q=>by
 have h1:(0:Int) < j:=hc.1
 have h2:j < 1073741824:=hc.2
 exact floordiv_int (by omega) (by rw [Int.fdiv_eq_ediv_of_nonneg i (by omega)];exact q) (.inl (PyProof.noPylong_small (by omega)))
theorem yaH:OpR X (binaryOp .Mod) (rI (fun _ j=>0 < j) fun i j=>.int (i % j)):=opI fun i j _ _ _ _ _ hc q=>by
 have h1:(0:Int) < j:=hc
 exact mod_int' (by omega) (by rw [Int.fmod_eq_emod_of_nonneg i (by omega)];exact q)
theorem xb0:OpR X (binaryOp .Pow) (rI CPow fun i j=>.int (i ^ j.toNat)):=opI fun _ _ _ _ _ _ _ hc q=>pow_int_small hc.1 hc.2.1 hc.2.2 q
theorem unI {f:Value→Sem Value} {g:Int→Int}
  (rule:∀ (i:Int) (t:Tok) (s:Shared) (Q:Value→Shared→Prop) (E:Value→Shared→Prop),Q (.int (g i) s.toks) { s with toks:=s.toks + 1 }→wpAny (model X.prog X.w) X.A (f (.int i t)) Q E s) :
  UnR X f (rU fun i=>.int (g i)):=by
 intro pins s σ H x v Q I rx h
 obtain ⟨i,rfl,q⟩:=h
 obtain ⟨t,rfl⟩:=rx
 exact rule i t s _ _ ⟨.int (g i),H,I.tok _,⟨_,rfl⟩,q⟩
theorem XaQ:UnR X (unaryOp .USub) (rU fun i=>.int (-i)):=unI fun _ _ _ _ _ q=>neg_int q
end
noncomputable def scal:V→V→Bool
 | .non,.non=>true | .non,.int _=>true | .int _,.non=>true | .non,.bl _=>true | .bl _,.non=>true | .non,.str _=>true | .str _,.non=>true
 | .int _,.int _=>true | .bl _,.bl _=>true | .str _,.str _=>true | .byt _,.byt _=>true
 | .int _,.str _=>true | .str _,.int _=>true | .bl _,.str _=>true | .str _,.bl _=>true
 | _,_=>false
noncomputable def rEq:R2:=fun x y H Q=>scal x y=true∧Q (.bl (decide (x=y))) H
noncomputable def rNe:R2:=fun x y H Q=>scal x y=true∧Q (.bl (!decide (x=y))) H
theorem zbD {i j:Int}:decide (V.int i=V.int j)=(i == j):=by
 rw [Bool.eq_iff_iff]
 simp
theorem Xb0 {i j:Bool}:decide (V.bl i=V.bl j)=(i == j):=by
 rw [Bool.eq_iff_iff]
 simp
theorem ybD {i j:Str}:decide (V.str i=V.str j)=(i == j):=by
 rw [Bool.eq_iff_iff]
 simp
theorem ZbD {i j:Array UInt8}:decide (V.byt i=V.byt j)=(i.toList == j.toList):=by
 rw [Bool.eq_iff_iff]
 cases i
 cases j
 simp
section
variable {X:Cx} {a b c:Expr} {ta tb tc:TE} {pos:Pos}
theorem Xaj {pins:List (Addr×Obj)} {σ:St} {H:Hp} {s:Shared} {Q:VK} {k k':Bool} (I:Inv X pins σ H s) (q:Q (.bl k) H) (e:k=k'):EP X pins σ Q (.bool k') s:=by
 subst e
 exact ⟨.bl k,H,I,rfl,q⟩
theorem Xa6:OpR X (compareOp .Eq) rEq:=by
 intro pins s σ H x y v u Q I rx ry h
 obtain ⟨hs,q⟩:=h
 cases x with
 | non =>
  cases rx
  cases y with
  | non=>cases ry;exact PySem.EqNone.eq_none_none (Xaj I q (by simp))
  | bl j=>cases ry;exact PySem.EqNone.eq_none_bool (Xaj I q (by simp))
  | int j=>obtain ⟨t',rfl⟩:=ry;exact PySem.EqNone.eq_none_int (Xaj I q (by simp))
  | str j=>obtain ⟨t',rfl⟩:=ry;exact PySem.EqNone.eq_none_str (Xaj I q (by simp))
  | _=>exact absurd (show false=true from hs) Bool.false_ne_true
 | bl i =>
  cases rx
  cases y with
  | non=>cases ry;exact PySem.EqNone.eq_bool_none (Xaj I q (by simp))
  | bl j=>cases ry;exact eq_bool (Xaj I q Xb0)
  | str j=>obtain ⟨t',rfl⟩:=ry;exact PySem.EqMixed.eq_bool_str (Xaj I q (by simp))
  | _=>exact absurd (show false=true from hs) Bool.false_ne_true
 | int i =>
  obtain ⟨t,rfl⟩:=rx
  cases y with
  | non=>cases ry;exact PySem.EqNone.eq_int_none (Xaj I q (by simp))
  | int j=>obtain ⟨t',rfl⟩:=ry;exact eq_int (Xaj I q zbD)
  | str j=>obtain ⟨t',rfl⟩:=ry;exact PySem.EqMixed.eq_int_str (Xaj I q (by simp))
  | _=>exact absurd (show false=true from hs) Bool.false_ne_true
 | str i =>
  obtain ⟨t,rfl⟩:=rx
  cases y with
  | non=>cases ry;exact PySem.EqNone.eq_str_none (Xaj I q (by simp))
  | bl j=>cases ry;exact PySem.EqMixed.eq_str_bool (Xaj I q (by simp))
  | int j=>obtain ⟨t',rfl⟩:=ry;exact PySem.EqMixed.eq_str_int (Xaj I q (by simp))
  | str j=>obtain ⟨t',rfl⟩:=ry;exact eq_str (Xaj I q ybD)
  | _=>exact absurd (show false=true from hs) Bool.false_ne_true
 | byt i =>
  obtain ⟨t,rfl⟩:=rx
  cases y with
  | byt j=>obtain ⟨t',rfl⟩:=ry;exact PySem.W.eq_bytes (Xaj I q ZbD)
  | _=>exact absurd (show false=true from hs) Bool.false_ne_true
 | _=>cases y <;> exact absurd (show false=true from hs) Bool.false_ne_true
theorem zbw:OpR X (compareOp .NotEq) rNe:=by
 intro pins s σ H x y v u Q I rx ry h
 obtain ⟨hs,q⟩:=h
 cases x with
 | non =>
  cases rx
  cases y with
  | non=>cases ry;exact PySem.EqNone.ne_none_none (Xaj I q (by simp))
  | bl j=>cases ry;exact PySem.EqNone.ne_none_bool (Xaj I q (by simp))
  | int j=>obtain ⟨t',rfl⟩:=ry;exact PySem.EqNone.ne_none_int (Xaj I q (by simp))
  | str j=>obtain ⟨t',rfl⟩:=ry;exact PySem.EqNone.ne_none_str (Xaj I q (by simp))
  | _=>exact absurd (show false=true from hs) Bool.false_ne_true
 | bl i =>
  cases rx
  cases y with
  | non=>cases ry;exact PySem.EqNone.ne_bool_none (Xaj I q (by simp))
  | bl j=>cases ry;exact ne_bool (Xaj I q (congrArg not Xb0))
  | str j=>obtain ⟨t',rfl⟩:=ry;exact PySem.EqMixed.ne_bool_str (Xaj I q (by simp))
  | _=>exact absurd (show false=true from hs) Bool.false_ne_true
 | int i =>
  obtain ⟨t,rfl⟩:=rx
  cases y with
  | non=>cases ry;exact PySem.EqNone.ne_int_none (Xaj I q (by simp))
  | int j=>obtain ⟨t',rfl⟩:=ry;exact ne_int (Xaj I q (congrArg not zbD))
  | str j=>obtain ⟨t',rfl⟩:=ry;exact PySem.EqMixed.ne_int_str (Xaj I q (by simp))
  | _=>exact absurd (show false=true from hs) Bool.false_ne_true
 | str i =>
  obtain ⟨t,rfl⟩:=rx
  cases y with
  | non=>cases ry;exact PySem.EqNone.ne_str_none (Xaj I q (by simp))
  | bl j=>cases ry;exact PySem.EqMixed.ne_str_bool (Xaj I q (by simp))
  | int j=>obtain ⟨t',rfl⟩:=ry;exact PySem.EqMixed.ne_str_int (Xaj I q (by simp))
  | str j=>obtain ⟨t',rfl⟩:=ry;exact ne_str (Xaj I q (congrArg not ybD))
  | _=>exact absurd (show false=true from hs) Bool.false_ne_true
 | byt i =>
  obtain ⟨t,rfl⟩:=rx
  cases y with
  | byt j=>obtain ⟨t',rfl⟩:=ry;exact PySem.W.ne_bytes (Xaj I q (congrArg not ZbD))
  | _=>exact absurd (show false=true from hs) Bool.false_ne_true
 | _=>cases y <;> exact absurd (show false=true from hs) Bool.false_ne_true
theorem op_lt:OpR X (compareOp .Lt) (rI0 fun i j=>.bl (decide (i < j))):=opB0 fun _ _ _ _ _ _ _ q=>lt_int q
theorem op_gt:OpR X (compareOp .Gt) (rI0 fun i j=>.bl (decide (j < i))):=opB0 fun _ _ _ _ _ _ _ q=>gt_int q
theorem op_ge:OpR X (compareOp .GtE) (rI0 fun i j=>.bl (decide (j≤i))):=opB0 fun _ _ _ _ _ _ _ q=>ge_int q
theorem nomark (b:Expr) {op:CmpOp} (h:op≠.In:=by decide) (h2:op≠.NotIn:=by decide):behindInMarks op b=false:=by
 have e1:(op == CmpOp.In)=false:=by cases op <;> first | rfl | exact absurd rfl h
 have e2:(op == CmpOp.NotIn)=false:=by cases op <;> first | rfl | exact absurd rfl h2
 cases b <;> simp [behindInMarks,e1,e2]
theorem Ybl {op:CmpOp} {r:R2} (ho:OpR X (compareOp op) r) (ha:PE X a ta) (hb:PE X b tb) (hm:behindInMarks op b=false):PE X (.Compare a [op] [b] pos) (tOp r ta tb):=by
 intro pins s σ H Q I h
 exact wpAny_Compare1 (binT ha hb I h fun v u s2 x y H2 I2 rx ry q=>ho pins s2 σ H2 x y v u Q I2 rx ry q) hm
noncomputable def tTest (t:TE):TT:=fun σ H Q=>t σ H fun x H'=>∃ k,x=.bl k∧Q k H'
theorem Yah {op:CmpOp} {r:R2} (ho:OpR X (compareOp op) r) (ha:PE X a ta) (hb:PE X b tb) (hm:behindInMarks op b=false):PT X (.Compare a [op] [b] pos) (tTest (tOp r ta tb)):=by
 intro pins s σ H Q I h
 refine wpAny_isTrue_Compare1 (thn (ha pins s σ H _ I h) fun v s1 ⟨x,H1,I1,r1,q1⟩=>thn (hb pins s1 σ H1 _ I1 q1) fun u s2 ⟨y,H2,I2,r2,q2⟩ =>
  thn (ho pins s2 σ H2 x y v u _ I2 r1 r2 q2) fun c s3 ⟨z,H3,I3,r3,k,e,q3⟩=>?_) hm
 subst e
 cases r3
 exact wpAny_truthy_bool ⟨H3,I3,q3⟩
theorem line63:(sizeLine:Nat) < 2 ^ 63:=by rw [sizeLine_eq];decide
theorem vals1 {x:V} {us:List Value} (r:Vals [x] us):∃ u,us=[u]∧RelV x u:=by
 cases r with
 | cons r1 r2=>cases r2;exact ⟨_,rfl,r1⟩
theorem vals2 {x y:V} {us:List Value} (r:Vals [x,y] us):∃ u w',us=[u,w']∧RelV x u∧RelV y w':=by
 cases r with
 | cons r1 r2 =>
  cases r2 with
  | cons r3 r4=>cases r4;exact ⟨_,_,rfl,r1,r3⟩
theorem YbD (hc:X.calm=true):CallR X (.builtin "max") (fun xs H Q=>∃ i j,xs=[.int i,.int j]∧Q (.int (if j > i then j else i)) H):=by
 intro pins s σ H xs us Q I r h
 obtain ⟨i,j,rfl,q⟩:=h
 obtain ⟨u,w',rfl,⟨t,rfl⟩,⟨t',rfl⟩⟩:=vals2 r
 refine max_two_ints (I.ok.hd hc) fun h' tk k=>⟨_,H,I.kept k,?_,q⟩
 by_cases hj:j > i
 ·rw [if_pos hj,if_pos hj];exact ⟨_,rfl⟩
 ·rw [if_neg hj,if_neg hj];exact ⟨_,rfl⟩
theorem xbD (hc:X.calm=true):CallR X (.builtin "min") (fun xs H Q=>∃ i j,xs=[.int i,.int j]∧Q (.int (if j < i then j else i)) H):=by
 intro pins s σ H xs us Q I r h
 obtain ⟨i,j,rfl,q⟩:=h
 obtain ⟨u,w',rfl,⟨t,rfl⟩,⟨t',rfl⟩⟩:=vals2 r
 refine min_two_ints (I.ok.hd hc) fun h' tk k=>⟨_,H,I.kept k,?_,q⟩
 by_cases hj:j < i
 ·rw [if_pos hj,if_pos hj];exact ⟨_,rfl⟩
 ·rw [if_neg hj,if_neg hj];exact ⟨_,rfl⟩
theorem XbD:CallR X (.type "int") (fun xs H Q=>(∃ i,xs=[.int i]∧Q (.int i) H)∨∃ k,xs=[.bl k]∧Q (.int (if k then 1 else 0)) H):=by
 intro pins s σ H xs us Q I r h
 rcases h with ⟨i,rfl,q⟩ | ⟨k,rfl,q⟩
 ·obtain ⟨u,rfl,t,rfl⟩:=vals1 r
  exact call_int_int ⟨.int i,H,I,⟨_,rfl⟩,q⟩
 ·obtain ⟨u,rfl,r1⟩:=vals1 r
  cases r1
  exact call_int_bool ⟨.int (if k then 1 else 0),H,I.tok _,⟨_,rfl⟩,q⟩
end
end L2
namespace L2
open PySem PySem.Spec PyProof.Rows
section
variable {prog:Program} {w:World} {A:Around} {E:Value→Shared→Prop} {s:Shared} {K:PySem.W.Frag} {x dx C f:Addr} {mA:Str→Option Value} {name:Str} {v:Value}
end
section
variable {P:Program} {w:World} {H H':Hp} {h h':Heap} {a C dx:Addr} {fs fs':List (Str×V)}
end
section
variable {X:Cx} {pins:List (Addr×Obj)} {σ:St} {H:Hp} {s:Shared} {a C dx:Addr} {fs:List (Str×V)} {f:Str} {v:V} {A:Around} {E:Value→Shared→Prop}
end
section
variable {X:Cx} {o e value:Expr} {f:Str} {pos pos' tpos:Pos} {ta tv:TE}
end
section
variable {X:Cx} {pins:List (Addr×Obj)} {σ:St} {H:Hp} {s:Shared} {A:Around} {E:Value→Shared→Prop} {Q:Value→Shared→Prop} {c:Value} {b:Bool}
end
end L2
namespace L2
open PySem PySem.Spec PyProof.Rows
structure Room (k:Nat) (A:Around):Prop where
 hd:A.handled=none
 dp:A.depth + 3 * k + 5 < recursionLimit
 un:A.units + 16 * k + 200 < cLine
 gd:A.guards=some []
theorem Room.mono {j k:Nat} {A:Around} (r:Room k A) (h:j≤k):Room j A:=⟨r.hd,by have:=r.dp;omega,by have:=r.un;omega,r.gd⟩
theorem Room.deeper {k:Nat} {A:Around} (r:Room (k + 1) A) (env:Env):Room k (A.deeper env) :=
 ⟨r.hd,by have:=r.dp;show A.depth + 1 + 3 * k + 5 < _;omega,by have:=r.un;show A.units + 3 + 16 * k + 200 < _;omega,r.gd⟩
theorem Room.depth {k:Nat} {A:Around} (r:Room k A):A.depth < recursionLimit:=by have:=r.dp;omega
theorem Room.units {k:Nat} {A:Around} (r:Room k A):A.units + 64 < cLine:=by have:=r.un;omega
noncomputable def tNil:TA:=fun _ H Q=>Q [] H
noncomputable def tCons (ta:TE) (tr:TA):TA:=fun σ H Q=>ta σ H fun x H1=>tr σ H1 fun xs H2=>Q (x :: xs) H2
section
variable {X:Cx} {e:Expr} {es:List Expr} {te:TE} {t:TA} {pos:Pos}
theorem xaa:PA X [] tNil:=fun _ _ _ _ H Q I h=>Calls.spliced_nil ⟨[],H,I,.nil,h⟩
theorem zaa (ha:PE X e te) (hr:PA X es t) (hs:starEach (e :: es) X.env=(false,eval e X.env) :: starEach es X.env:=by rfl):PA X (e :: es) (tCons te t):=by
 intro pos pins s σ H Q I h
 rw [hs]
 show wpAny _ _ (spliced ((false,eval e X.env) :: backTo pos (starEach es X.env))) _ _ s
 refine Calls.spliced_cons (thn (ha pins s σ H _ I h) fun u s1 ⟨x,H1,I1,r1,q1⟩=>?_)
 exact thn (hr pos pins s1 σ H1 _ I1 q1) fun us s2 ⟨xs,H2,I2,r2,q2⟩=>⟨x :: xs,H2,I2,.cons r1 r2,q2⟩
noncomputable def tTup (t:TA):TE:=fun σ H Q=>t σ H fun xs H1=>xs.length≤sizeLine∧∀ p,H1 p=none→Q (.ref p) (upd H1 p (.tup xs))
noncomputable def tLst (t:TA):TE:=fun σ H Q=>t σ H fun xs H1=>xs.length≤sizeLine∧∀ p,H1 p=none→Q (.ref p) (upd H1 p (.lst xs))
theorem xaA {x1} (h:PA X es t):PE X (.Tuple es x1 pos) (tTup t):=by
 intro pins s σ H Q I hq
 refine wpAny_Tuple_spliced (thn (h pos pins s σ H _ I hq) fun us s1 ⟨xs,H1,I1,r,z,q⟩=>⟨by rw [← r.length];exact z,?_⟩)
 have hf:H1 s1.heap.objs.size=none:=I1.hok.fresh (Nat.le_refl _)
 refine ⟨.ref s1.heap.objs.size,upd H1 s1.heap.objs.size (.tup xs),I1.laid (t':=s1.toks) (fun b u e=>Heap.get?_push_of_some _ e) (Nat.le_refl _) ?_,rfl,q _ hf⟩
 exact ⟨z,us,r,⟨_,Heap.get?_push_size _ rfl,rfl,rfl,_,rfl⟩⟩
theorem Zan (h:PA X es t):PE X (.List es pos) (tLst t):=by
 intro pins s σ H Q I hq
 refine wpAny_List_spliced (thn (h pos pins s σ H _ I hq) fun us s1 ⟨xs,H1,I1,r,z,q⟩=>⟨by rw [← r.length];exact z,?_⟩)
 have hf:H1 s1.heap.objs.size=none:=I1.hok.fresh (Nat.le_refl _)
 refine ⟨.ref s1.heap.objs.size,upd H1 s1.heap.objs.size (.lst xs),I1.laid (t':=s1.toks) (fun b u e=>Heap.get?_push_of_some _ e) (Nat.le_refl _) ?_,rfl,q _ hf⟩
 exact ⟨z,us,0,r,Heap.get?_push_size _ rfl⟩
end
abbrev Sp:=List V→Hp→VK→XK→Prop
abbrev CXT:=List Env→Hp→Shared→XK→Value→Shared→Prop
structure Env0 (P:Program) (w:World) (K:PySem.W.Frag) (mg:Str→Option Value) (base:Heap) (A:Around) (outer:List Env) (s:Shared) (H:Hp):Prop where
 frames:A.frames=some outer
 mod:Mod K mg base
 bs:∀ b o,base.get? b=some o→s.heap.get? b=some o∧H b=none
 bsz:base.objs.size≤s.heap.objs.size
 funs:s.heap.FunFrames base outer
 frf:∀ b∈frs outer,H b=none
 hok:HOk P w H s.heap
 bare:AllBare s.gens
noncomputable def CE (outer:List Env) (P:Program) (w:World) (H:Hp) (s:Shared) (Q:VK) (u:Value) (s':Shared):Prop :=
 ∃ v H',s'.os=s.os∧AllBare s'.gens∧Un (frs outer) [] H H' s.heap s'.heap∧HOk P w H' s'.heap∧RelV v u∧Q v H'
noncomputable def CR (CX:CXT) (outer:List Env) (P:Program) (w:World) (H:Hp) (s:Shared) (Q:VK) (E:XK) (r:Result) (s':Shared):Prop :=
 match r with
 | .ok (.ret u)=>CE outer P w H s Q u s'
 | .ok _=>False
 | .error e=>CX outer H s E e s'
structure FnOk (P:Program) (w:World) (K:PySem.W.Frag) (mg:Str→Option Value) (base:Heap) (CX:CXT) (k:Nat) (f:Addr) (fd:FuncData) (ps:List Str) (sp:Sp):Prop where
 len:∀ vs H Q E,sp vs H Q E→vs.length=ps.length
 run:∀ (A:Around) (outer:List Env) (s:Shared) (H:Hp) (args:Args) (us:List Value) (vs:List V) (Q:VK) (E:XK),Room k A→Env0 P w K mg base A outer s H→BindsTo s fd args (ps.zip us)→Vals vs us→sp vs H Q E →
  codeAny (model P w) A (.call (.ref f) args) (CR CX outer P w H s Q E) s
theorem FnOk.imp {P:Program} {w:World} {K:PySem.W.Frag} {mg:Str→Option Value} {base:Heap} {CX:CXT} {k:Nat} {f:Addr} {fd:FuncData} {ps:List Str} {sp sp':Sp} (F:FnOk P w K mg base CX k f fd ps sp)
  (h:∀ vs H Q E,sp' vs H Q E→sp vs H Q E):FnOk P w K mg base CX k f fd ps sp' :=
 ⟨fun vs H Q E q=>F.len vs H Q E (h _ _ _ _ q),fun A outer s H args us vs Q E hr he hb hv hs=>F.run A outer s H args us vs Q E hr he hb hv (h _ _ _ _ hs)⟩
section
variable {X:Cx} {pins:List (Addr×Obj)} {σ:St} {H:Hp} {s s':Shared}
theorem Inv.env0 (I:Inv X pins σ H s):Env0 X.prog X.w X.K X.mg X.base X.A X.stack s H :=
 ⟨I.ok.frames,I.ok.mod,I.bs,Nat.le_trans I.ok.bsz I.sz,I.stack,I.stkFree,I.hok,I.bare⟩
theorem Inv.after {Q:VK} {u:Value} (I:Inv X pins σ H s) (h:CE X.stack X.prog X.w H s Q u s'):EP X pins σ Q u s':=by
 obtain ⟨v,H',os,bare,un,hok,r,q⟩:=h
 obtain ⟨hh,g,d,t,os'⟩:=s'
 obtain rfl:os'=s.os:=os
 exact ⟨v,H',I.call (h':=hh) (g':=g) (d':=d) (t':=t) (ch:=[]) un hok bare (fun b z=>absurd z (by simp)),r,q⟩
end
noncomputable def tCall (sp:Sp) (dvs:List V) (E:XK) (t:TA):TE:=fun σ H Q=>t σ H fun vs H1=>sp (vs ++ dvs) H1 Q E
noncomputable def Binds (K:PySem.W.Frag) (fd:FuncData) (ps:List Str) (ds:List Value):Prop :=
 ∀ (s:Shared) (us:List Value),K.In s.heap→(us ++ ds).length=ps.length→BindsTo s fd ⟨us,[]⟩ (ps.zip (us ++ ds))
theorem Binds.all {K:PySem.W.Frag} {fd:FuncData} {ps:List Str} (h:∀ us:List Value,us.length=ps.length→bindArgs fd ⟨us,[]⟩=pure (ps.zip us)):Binds K fd ps []:=fun s us _ hl=>by
 rw [List.append_nil] at hl ⊢
 exact .of_eq (h us hl)
noncomputable def Passes (CX:CXT) (X:Cx) (E:XK):Prop:=∀ (pins:List (Addr×Obj)) (σ:St) (H:Hp) (s:Shared) (e:Value) (s':Shared),Inv X pins σ H s→CX X.stack H s E e s'→X.xe e s'
section
variable {X:Cx} {CX:CXT} {k:Nat} {f C:Addr} {fd:FuncData} {ps:List Str} {sp:Sp} {dvs:List V} {ds:List Value} {E:XK} {x m:Str} {p pos apos:Pos} {e o:Expr} {es:List Expr} {ta:TE} {t:TA}
theorem run_fn {pins:List (Addr×Obj)} {σ:St} {H:Hp} {s:Shared} {Q:VK} {us:List Value} {vs:List V} (F:FnOk X.prog X.w X.K X.mg X.base CX k f fd ps sp) (hr:Room k X.A) (hb:Binds X.K fd ps ds) (hd:Vals dvs ds) (hx:Passes CX X E)
  (I:Inv X pins σ H s) (r:Vals vs us) (h:sp (vs ++ dvs) H Q E):wpAny (model X.prog X.w) X.A (call (.ref f) us) (EP X pins σ Q) X.xe s:=by
 have r2:Vals (vs ++ dvs) (us ++ ds):=r.append hd
 have hl:(us ++ ds).length=ps.length:=by rw [← r2.length];exact F.len _ _ _ _ h
 refine wpAny_call (codeAny_mono (F.run X.A X.stack s H ⟨us,[]⟩ (us ++ ds) (vs ++ dvs) Q E hr I.env0 (hb s us I.kIn hl) r2 h) fun r s' hq=>?_)
 cases r with
 | error e=>exact hx pins σ H s e s' I hq
 | ok fl =>
  cases fl with
  | ret u=>exact I.after hq
  | next=>exact False.elim hq
  | brk=>exact False.elim hq
  | cont=>exact False.elim hq
theorem zaf (F:FnOk X.prog X.w X.K X.mg X.base CX k f fd ps sp) (hr:Room k X.A) (hg:Gl X x) (hm:X.mg x=some (.ref f)) (hk:PySem.W.keepIn X.K (.ref f)=true) (hb:Binds X.K fd ps ds) (hd:Vals dvs ds) (hx:Passes CX X E)
  (ha:PA X (e :: es) t) (hdb:(x == ("__debug__" : Str))=false:=by decide) (he:starEach (e :: es) X.env=(false,eval e X.env) :: starEach es X.env:=by rfl) (hpl:(backTo pos (starEach es X.env)).any (·.1)=false:=by rfl) :
  PE X (.Call (.Name x p) (e :: es) [] pos) (tCall sp dvs E t):=by
 intro pins s σ H Q I h
 refine wpAny_Call_Name_kw (xb3 I hg hm ?_ hdb)
 refine PySem.W.callWith_K (h₀:=X.base) I.ok.mod.kin hk (thn (ha pos pins s σ H _ I h) fun us s1 ⟨vs,H1,I1,r,q⟩=>⟨I1.kIn,?_⟩) he hpl
 exact run_fn F hr hb hd hx I1 r q
end
section
variable {X:Cx} {CX:CXT} {k:Nat} {f C:Addr} {fd:FuncData} {ps ks:List Str} {sp:Sp} {E:XK} {x m:Str} {p pos apos kpos:Pos} {e o:Expr} {es:List Expr} {kws:List Keyword} {te ta:TE} {t tk:TA} {nm:Option Str}
variable {g:List Value→List Value→List Value} {gV:List V→List V→List V}
end
structure FnScope (N P:List Str) (sc:Scope):Prop where
 kind:sc.kind=.function
 co:sc.isCoroutine=false
 gen:sc.isGenerator=false
 nd:N.Nodup
 pre:N.take P.length=P
 par:∀ x∈P,sc.names.lookup x=some .local∨sc.names.lookup x=some .cell
 nofree:∀ y∈sc.names,y.2≠.free
theorem xbd {kindOf:Str→Option NameKind} {x:Str}:∀ {binds:List (Str×Value)} {m:Str→Option Value},(∀ v,(x,v) ∉ binds)→bindL kindOf binds m x=m x
 | [],_,_=>rfl
 | (n,v) :: r,m,h=>by
  unfold bindL
  rw [xbd fun w hw=>h w (List.mem_cons_of_mem _ hw)]
  split
  ·have:x≠n:=by rintro rfl;exact h v List.mem_cons_self
   simp [this]
  ·rfl
theorem Xbd {kindOf:Str→Option NameKind} {x:Str}:∀ {binds:List (Str×Value)} {m:Str→Option Value},(∀ v,(x,v) ∉ binds)→bindC kindOf binds m x=m x
 | [],_,_=>rfl
 | (n,v) :: r,m,h=>by
  unfold bindC
  rw [Xbd fun w hw=>h w (List.mem_cons_of_mem _ hw)]
  split
  ·rfl
  ·have:x≠n:=by rintro rfl;exact h v List.mem_cons_self
   simp [this]
theorem zbe {kindOf:Str→Option NameKind} {x:Str} {v:Value}:∀ {P:List Str} {vs:List Value} {i:Nat} {m:Str→Option Value},P.Nodup→P[i]?=some x→vs[i]?=some v→kindOf x=some .local →
  bindL kindOf (P.zip vs) m x=some v
 | [],_,_,_,_,h,_,_=>by simp at h
 | _ :: _,[],_,_,_,_,h,_=>by simp at h
 | p :: P,w :: vs,0,m,nd,h1,h2,hk=>by
  simp at h1 h2;subst h1;subst h2
  show bindL kindOf ((p,w) :: P.zip vs) m p=_
  unfold bindL
  rw [xbd fun v hv=>(List.nodup_cons.mp nd).1 (List.of_mem_zip hv).1,if_pos hk]
  simp
 | p :: P,w :: vs,i + 1,m,nd,h1,h2,hk=>by
  show bindL kindOf ((p,w) :: P.zip vs) m x=_
  unfold bindL
  exact zbe (i:=i) (List.nodup_cons.mp nd).2 (by simpa using h1) (by simpa using h2) hk
theorem ybe {kindOf:Str→Option NameKind} {x:Str} {v:Value}:∀ {P:List Str} {vs:List Value} {i:Nat} {m:Str→Option Value},P.Nodup→P[i]?=some x→vs[i]?=some v→kindOf x≠some .local →
  bindC kindOf (P.zip vs) m x=some v
 | [],_,_,_,_,h,_,_=>by simp at h
 | _ :: _,[],_,_,_,_,h,_=>by simp at h
 | p :: P,w :: vs,0,m,nd,h1,h2,hk=>by
  simp at h1 h2;subst h1;subst h2
  show bindC kindOf ((p,w) :: P.zip vs) m p=_
  unfold bindC
  rw [Xbd fun v hv=>(List.nodup_cons.mp nd).1 (List.of_mem_zip hv).1,if_neg hk]
  simp
 | p :: P,w :: vs,i + 1,m,nd,h1,h2,hk=>by
  show bindC kindOf ((p,w) :: P.zip vs) m x=_
  unfold bindC
  exact ybe (i:=i) (List.nodup_cons.mp nd).2 (by simpa using h1) (by simpa using h2) hk
noncomputable def start (N:List Str) (vs:List V):St:=vs.map some ++ List.replicate (N.length - vs.length) none
noncomputable def cxOf (CX:CXT) (P:Program) (w:World) (K:PySem.W.Frag) (mg:Str→Option Value) (base:Heap) (N:List Str) (qual:Str) (scope:Scope) (f:Addr) (cd:Value) (A:Around) (outer:List Env) (s:Shared) (H:Hp) (E:XK):Cx where
 prog:=P
 w:=w
 K:=K
 mg:=mg
 base:=base
 A:=A.deeper (envOfC qual scope s.heap.objs.size f cd)
 N:=N
 s₀:=s
 H₀:=H
 env:=envOfC qual scope s.heap.objs.size f cd
 outer:=outer
 stack:=envOfC qual scope s.heap.objs.size f cd :: outer
 ex:=[]
 calm:=true
 fn:=fun _=>true
 pn:=[]
 xe:=fun e s'=>wpAny (model P w) (A.deeper (envOfC qual scope s.heap.objs.size f cd)) («leaving» (envOfC qual scope s.heap.objs.size f cd) e) (fun _ s''=>CX outer H s E e s'') (fun e' s''=>CX outer H s E e' s'') s'
theorem zbq {sc:Scope} {n:Nat} {x:Str} (h:sc.names.lookup x=some .cell):∃ c,(cellsFrom n sc.names []).lookup x=some c:=by
 have q:=PySem.W.cellsFrom_some sc.names n [] (.inl h)
 exact Option.isSome_iff_exists.mp q
theorem zbE {CX:CXT} {P:Program} {w:World} {K:PySem.W.Frag} {mg:Str→Option Value} {base:Heap} {N ps:List Str} {qual:Str} {scope:Scope} {f:Addr} {cd:Value} {A:Around} {outer:List Env} {s s1:Shared} {H:Hp} {E:XK} {us:List Value} {vs:List V}
  (S:FnScope N ps scope) (hd:A.handled=none) (e0:Env0 P w K mg base A outer s H) (hl:vs.length=ps.length) (r:Vals vs us)
  (x:InCallC s s.heap.objs.size (bindL (envOfC qual scope s.heap.objs.size f cd).kindOf (ps.zip us) fun _=>none) (cellsFrom (s.heap.objs.size + 1) scope.names []) (bindC (envOfC qual scope s.heap.objs.size f cd).kindOf (ps.zip us) fun _=>none) s1) :
  Inv (cxOf CX P w K mg base N qual scope f cd A outer s H E) [] (start N vs) H s1:=by
 have hpl:ps.length≤N.length:=by have:=congrArg List.length S.pre;rw [List.length_take] at this;omega
 obtain ⟨h1,tk,rfl,hk⟩:=x.done
 have noA:∀ b:Addr,b ∉ (cxOf CX P w K mg base N qual scope f cd A outer s H E).ex:=fun b z=>absurd (show b∈([]:List Addr) from z) (by simp)
 refine ⟨⟨e0.mod,S.kind,rfl,rfl,Nat.le_refl _,fun y z c h1 h2=>?_,fun y hy=>?_,fun y c _ h=>?_,fun _=>hd,Around.frames_deeper e0.frames,.inr ⟨rfl,rfl⟩,fun b z=>absurd z (noA b),e0.bs,e0.bsz,fun b _ _=>noA b,fun b z=>absurd z (noA b),e0.funs,e0.frf⟩,
  rfl,e0.bare,Un.kept hk,⟨_,x.toInCall.ns,fun i y v h1 h2 h3=>?_⟩,fun y c h=>⟨_,x.cell y c h⟩,e0.hok.fresh (Nat.le_refl _),fun y c h=>?_,fun p hp=>absurd (show p∈([]:List (Addr×Obj)) from hp) (by simp),e0.hok.kept hk,?_⟩
 ·exact name_of_addr x.apart (PySem.mem_of_lookup h1) (PySem.mem_of_lookup h2)
 ·have hy:scope.names.lookup y=some .cell∨scope.names.lookup y=some .free:=hy
  rcases hy with hy | hy
  ·exact zbq hy
  ·exact absurd rfl (S.nofree _ (PySem.mem_of_lookup hy))
 ·exact Nat.le_of_lt (x.above y c (PySem.mem_of_lookup h))
 ·have hi:i < vs.length:=by
   unfold start at h2
   by_cases hi:i < vs.length
   ·exact hi
   ·rw [List.getElem?_append_right (by simpa using hi)] at h2
    rw [List.getElem?_replicate] at h2
    split at h2 <;> cases h2
  have ha:vs[i]?=some v:=by
   unfold start at h2
   rw [List.getElem?_append_left (by simpa using hi),List.getElem?_map] at h2
   cases e:vs[i]? with
   | none=>rw [e] at h2;cases h2
   | some a=>rw [e] at h2;cases h2;rfl
  obtain ⟨u,hu,rv⟩:=r.get ha
  have hp:ps[i]?=some y:=by
   rw [← S.pre,List.getElem?_take_of_lt (by omega)];exact h1
  have ndP:ps.Nodup:=by rw [← S.pre];exact S.nd.sublist (List.take_sublist _ _)
  refine ⟨u,rv,?_⟩
  rcases S.par y (List.mem_of_getElem? hp) with k | k
  ·exact .inl ⟨k,zbe ndP hp hu k⟩
  ·obtain ⟨c,e⟩:=zbq (n:=s.heap.objs.size + 1) k
   refine .inr ⟨.inl k,c,e,?_⟩
   have q:=x.cell y c e
   rw [ybe ndP hp hu (by show scope.names.lookup y≠_;rw [k];decide)] at q
   exact q
 ·exact e0.hok.fresh (Nat.le_of_lt (x.above y c (PySem.mem_of_lookup h)))
 ·unfold start
  show _=N.length
  rw [List.length_append,List.length_map,List.length_replicate]
  omega
theorem fn_of {CX:CXT} {P:Program} {w:World} {K:PySem.W.Frag} {mg:Str→Option Value} {base:Heap} {k:Nat} {f:Addr} {name qual:Str} {params:Arguments} {body:List Stmt} {scope:Scope} {dV kV doc pm cdv ct oc:Value} {an od:Option Addr}
  {osl:Array (Option Value)} {N ps:List Str} {sp:Sp} (lk:K.lookup f=some ⟨oc,od,.func (PySem.W.fnOf name qual params body scope dV kV doc pm an cdv ct),osl⟩) (hcd:PySem.W.codeIn K cdv qual=true) (S:FnScope N ps scope)
  (len:∀ vs H Q E,sp vs H Q E→vs.length=ps.length)
  (hbody:∀ (A:Around) (outer:List Env) (s:Shared) (H:Hp) (vs:List V) (Q:VK) (E:XK),Room k (A.deeper (envOfC qual scope s.heap.objs.size f cdv))→sp vs H Q E →
   ∃ t,PSs (cxOf CX P w K mg base N qual scope f cdv A outer s H E) body t∧t { nx:=fun _ H'=>Q .non H',rt:=Q } (start N vs) H) :
  FnOk P w K mg base CX (k + 1) f (PySem.W.fnOf name qual params body scope dV kV doc pm an cdv ct) ps sp:=by
 refine ⟨len,fun A outer s H args us vs Q E hr e0 hb r hsp=>?_⟩
 have hl:=len _ _ _ _ hsp
 have KX:K.In s.heap:=e0.mod.kin.keeps fun b o e=>(e0.bs b o e).1
 have lim:s.heap.NoLimit:=e0.mod.nolimit.keeps fun b o e=>(e0.bs b o e).1
 have hkind:∀ y∈ps.zip us,scope.names.lookup y.1=some .local∨(scope.names.lookup y.1=some .cell∧((cellsFrom (s.heap.objs.size + 1) scope.names []).lookup y.1).isSome=true):=fun ⟨n,v⟩ hy=>by
  rcases S.par n (List.of_mem_zip hy).1 with q | q
  ·exact .inl q
  ·exact .inr ⟨q,PySem.W.cellsFrom_some _ _ _ (.inl q)⟩
 refine codeAny_call_function hr.depth (KX _ _ lk) rfl S.co S.gen rfl (PySem.W.codeRec_of KX hcd) (hb _ _ _ _ ?_)
 refine wpAny_newFunctionEnv_cells S.kind hkind fun env he s1 x=>?_
 subst he
 refine ⟨lim.keeps x.toInCall.keep,codeAny_func ?_⟩
 obtain ⟨t,ht,hq⟩:=hbody A outer s H vs Q E (hr.deeper _) hsp
 have I:Inv (cxOf CX P w K mg base N qual scope f cdv A outer s H E) [] (start N vs) H s1:=zbE S hr.hd e0 hl r x
 refine wpAny_mono (ht [] s1 (start N vs) H _ I hq) (fun fl s' hs=>?_) fun e s' hs=>hs
 have fin:∀ {σ':St} {H':Hp} {v:V} {u:Value},Inv (cxOf CX P w K mg base N qual scope f cdv A outer s H E) [] σ' H' s'→RelV v u→Q v H'→CE outer P w H s Q u s' :=
  fun {σ' H' v u} J rv q=>⟨v,H',J.os,J.bare,J.base,J.hok,rv,q⟩
 cases fl with
 | ret u =>
  obtain ⟨v,σ',H',J,rv,q⟩:=hs
  exact fin J rv q
 | next =>
  obtain ⟨σ',H',J,q⟩:=hs
  exact fin (v:=V.non) (u:=Value.none) J rfl q
 | brk =>
  obtain ⟨_,_,_,q⟩:=hs
  exact False.elim q
 | cont =>
  obtain ⟨_,_,_,q⟩:=hs
  exact False.elim q
end L2
namespace L2
open PySem PySem.Spec PyProof.Rows
section
variable {X:Cx} {x:Str} {p pos:Pos} {e:Expr} {es:List Expr} {t:TA} {id T:String} {r:List V→Hp→VK→Prop}
noncomputable def tCB (r:List V→Hp→VK→Prop) (t:TA):TE:=fun σ H Q=>t σ H fun vs H1=>r vs H1 Q
theorem xaf (hc:CallR X (.builtin id) r) (hg:Gl X x) (hm:X.mg x=none) (hv:bootBuiltins x=some (.builtin id)) (ha:PA X (e :: es) t) (hn:x≠"__name__" := by decide) (hdb:(x == ("__debug__" : Str))=false:=by decide)
  (he:starEach (e :: es) X.env=(false,eval e X.env) :: starEach es X.env:=by rfl) (hpl:(backTo pos (starEach es X.env)).any (·.1)=false:=by rfl):PE X (.Call (.Name x p) (e :: es) [] pos) (tCB r t):=by
 intro pins s σ H Q I h
 refine wpAny_Call_Name_kw (Zbd I hg hm hv ?_ hn hdb)
 exact PyProof.Rows.callWith_builtin1 (thn (ha pos pins s σ H _ I h) fun us s1 ⟨vs,H1,I1,r1,q1⟩=>hc pins s1 σ H1 vs us Q I1 r1 q1) he hpl
theorem yad (hc:CallR X (.type T) r) (hg:Gl X x) (hm:X.mg x=none) (hv:bootBuiltins x=some (.type T)) (ha:PA X (e :: es) t) (hn:x≠"__name__" := by decide) (hdb:(x == ("__debug__" : Str))=false:=by decide)
  (he:starEach (e :: es) X.env=(false,eval e X.env) :: starEach es X.env:=by rfl) (hpl:(backTo pos (starEach es X.env)).any (·.1)=false:=by rfl):PE X (.Call (.Name x p) (e :: es) [] pos) (tCB r t):=by
 intro pins s σ H Q I h
 refine wpAny_Call_Name_kw (Zbd I hg hm hv ?_ hn hdb)
 exact PyProof.Rows.callWith_type1 (thn (ha pos pins s σ H _ I h) fun us s1 ⟨vs,H1,I1,r1,q1⟩=>hc pins s1 σ H1 vs us Q I1 r1 q1) he hpl
end
end L2
namespace HT
open PySem PyProof.Rows
theorem YbS (A:Around) (s:Shared) (a:Int) (t:Tok) (c:Int) (u:Tok):∃ e,SeqAt.EqAt A s (.int a t) (.int c u) e∧(e=true↔a=c) :=
 ⟨(a == c),SeqAt.EqAt.int_int a t c u,by simp⟩
section
open PySem.SeqAt
open PySem.AutoSeq1 (wpAny_loadPart')
open PySem.MeetsSeq PySem.MeetsSeq2 PySem.MeetsSeq3
end
section
variable {prog:Program} {w:World} {A:Around} {E:Value→Shared→Prop} {s:Shared}
theorem yb4 {t b:Addr} {vs ws:List Value} {Q:Value→Shared→Prop} (ht:IsTup s.heap t vs.toArray) (hb:IsTup s.heap b ws.toArray) (hv:vs≠[])
  (h1:ws=[]→Q (.ref t) s) (h2:ws≠[]→Q (.ref s.heap.objs.size) { s with heap:=s.heap.push { cls:=.type "tuple",data:=.seq (vs ++ ws).toArray } })
  (hsz:vs.length + ws.length≤sizeLine):wpAny (model prog w) A (binaryOp .Add (.ref t) (.ref b)) Q E s:=by
 obtain ⟨⟨cls,dd,data,sl⟩,ho,hc,n,hd⟩:=id ht
 obtain ⟨⟨cls2,dd2,data2,sl2⟩,ho2,hc2,n2,hd2⟩:=id hb
 simp only at hc hd hc2 hd2
 subst hc hd hc2 hd2
 have e:vs.toArray ++ ws.toArray=(vs ++ ws).toArray:=by simp
 by_cases hw:ws=[]
 ·exact concat_meets ⟨_,ho,rfl⟩ ⟨_,ho2,rfl⟩ noFill_tuple_add seq_tuple_add PySem.F.slot_tuple_add PySem.F.entry_tuple_add (PySem.F.args_tuple_add_2 _ _)
   (tuple_addW1 t b vs.toArray ws.toArray n n2 dd dd2 sl sl2 (by simpa using hv) (by simp [hw])) ⟨ho,ho2,h1 hw⟩
 ·refine concat_meets ⟨_,ho,rfl⟩ ⟨_,ho2,rfl⟩ noFill_tuple_add seq_tuple_add PySem.F.slot_tuple_add PySem.F.entry_tuple_add (PySem.F.args_tuple_add_2 _ _)
   (tuple_addW2 t b vs.toArray ws.toArray n n2 dd dd2 sl sl2 (by simpa using hv) (by simpa using hw) (by rw [List.size_toArray,List.size_toArray];exact hsz)) ⟨ho,ho2,?_⟩
  rw [e]
  exact h2 hw
noncomputable def sIx (n d:Nat):Option Int→Nat
 | none=>d
 | some v=>if v < 0 then (v + (n:Int)).toNat else min v.toNat n
theorem xbS (n d:Nat):sIx n d none=d:=rfl
theorem Zb4 (n d k:Nat):sIx n d (some (k:Int))=min k n:=by
 show (if (k:Int) < 0 then ((k:Int) + (n:Int)).toNat else min (k:Int).toNat n)=min k n
 rw [if_neg (by omega),Int.toNat_natCast]
theorem sIx_le (n d:Nat) (hd:d≤n) (o:Option Int):sIx n d o≤n:=by
 cases o with
 | none=>exact hd
 | some v =>
  show (if v < 0 then (v + (n:Int)).toNat else min v.toNat n)≤n
  by_cases hv:v < 0
  ·rw [if_pos hv];omega
  ·rw [if_neg hv];exact Nat.min_le_right _ _
theorem ybE (v:Int) (n d:Nat):(if v < 0 then max (v + (n:Int)) 0 else min v (n:Int))=((sIx n d (some v):Nat):Int):=by
 show (if v < 0 then max (v + (n:Int)) 0 else min v (n:Int))=(((if v < 0 then (v + (n:Int)).toNat else min v.toNat n):Nat):Int)
 by_cases hv:v < 0
 ·simp only [if_pos hv];omega
 ·simp only [if_neg hv];omega
theorem ybw (lo hi:Option Int) (n:Nat):Builtin.Slice.sliceAdjust lo hi 1 (n:Int)=(((sIx n 0 lo:Nat):Int),((sIx n n hi:Nat):Int)):=by
 have h1:¬ ((1:Int) < 0):=by omega
 unfold Builtin.Slice.sliceAdjust
 simp only [h1,if_false]
 refine Prod.ext ?_ ?_
 ·cases lo with
  | none=>rfl
  | some v=>exact ybE v n 0
 ·cases hi with
  | none=>rfl
  | some v=>exact ybE v n n
theorem Zbw (i j:Nat):Builtin.Slice.slicePlaces (i:Int) (j:Int) 1=j - i:=by
 unfold Builtin.Slice.slicePlaces
 have h1:(1:Int) > 0:=by omega
 simp only [h1,if_true,Int.ediv_one]
 split <;> omega
theorem ya4 {v:Value} {o:Option Int} {Q:Option Int→Shared→Prop} (p:IsPart v o) (h:Q o s):wpAny (model prog w) A (Builtin.Slice.slicePartIndex v) Q E s:=by
 cases p with
 | none=>exact slicePart_none h
 | int i t=>exact slicePart_int h
theorem yaM {sl:Addr} {vl vu:Value} {lo hi:Option Int} {n:Nat} {Q:Int×Int×Nat→Shared→Prop} (hs:s.heap.IsSliceOf sl vl vu .none) (pl:IsPart vl lo) (pu:IsPart vu hi)
  (h:Q (((sIx n 0 lo:Nat):Int),1,sIx n n hi - sIx n 0 lo) s):wpAny (model prog w) A (Builtin.Slice.sliceApplied (.ref sl) (pure (n:Int))) Q E s:=by
 obtain ⟨os,hos,hcs,hds⟩:=id hs
 unfold Builtin.Slice.sliceApplied Builtin.Slice.sliceFields
 refine wpAny_bind (wpAny_bind (wpAny_field hos hds (x:=vl) rfl (wpAny_bind (wpAny_field hos hds (x:=vu) rfl (wpAny_bind (wpAny_field hos hds (x:=.none) rfl (wpAny_pure ?_)))))))
 refine wpAny_bind (slicePart_none ?_)
 show wpAny _ _ (if ((1:Int) == 0)=true then _ else _) _ _ s
 rw [if_neg (by decide)]
 refine wpAny_bind (ya4 pl (wpAny_bind (ya4 pu (wpAny_bind (wpAny_pure ?_)))))
 show wpAny _ _ (match Builtin.Slice.sliceAdjust lo hi 1 (n:Int) with | (lo,hi)=>pure (lo,(1:Int),Builtin.Slice.slicePlaces lo hi 1)) _ _ s
 rw [ybw lo hi n]
 show wpAny _ _ (pure (((sIx n 0 lo:Nat):Int),(1:Int),Builtin.Slice.slicePlaces ((sIx n 0 lo:Nat):Int) ((sIx n n hi:Nat):Int) 1)) _ _ s
 rw [Zbw]
 exact wpAny_pure h
theorem XbS (xs:Array Value) (i k:Nat):((List.range k).filterMap fun (m:Nat)=>xs[((i:Int) + (m:Int) * 1).toNat]?).toArray=((xs.toList.drop i).take k).toArray:=by
 have e:(fun (m:Nat)=>xs[((i:Int) + (m:Int) * 1).toNat]?)=fun m=>xs[i + m]?:=by
  funext m
  have:((i:Int) + (m:Int) * 1).toNat=i + m:=by omega
  rw [this]
 rw [e]
 have:=pick_run xs i k
 rw [List.filterMap_map] at this
 have e2:((fun x=>xs[x]?) ∘ fun x=>i + x)=fun m=>xs[i + m]?:=rfl
 rw [e2] at this
 rw [this]
theorem yaV {t sl:Addr} {items:Array Value} {vl vu:Value} {lo hi:Option Int} {Q:Value→Shared→Prop} (ht:IsTup s.heap t items) (hs:s.heap.IsSliceOf sl vl vu .none) (pl:IsPart vl lo) (pu:IsPart vu hi)
  (hw:¬ (sIx items.size 0 lo=0∧sIx items.size items.size hi=items.size))
  (h:Q (.ref s.heap.objs.size) { s with heap:=s.heap.push { cls:=.type "tuple",data:=.seq ((items.toList.drop (sIx items.size 0 lo)).take (sIx items.size items.size hi - sIx items.size 0 lo)).toArray } })
  (hsz:items.size≤sizeLine):wpAny (model prog w) A (getItem (.ref t) (.ref sl)) Q E s:=by
 have htake:sizeOk (.seq ((items.toList.drop (sIx items.size 0 lo)).take (sIx items.size items.size hi - sIx items.size 0 lo)).toArray):=by
  show ((items.toList.drop (sIx items.size 0 lo)).take (sIx items.size items.size hi - sIx items.size 0 lo)).toArray.size≤sizeLine
  rw [List.size_toArray,List.length_take,List.length_drop,Array.length_toList]
  omega
 have hj:sIx items.size items.size hi≤items.size:=sIx_le _ _ (Nat.le_refl _) hi
 obtain ⟨os,hos,hcs,hds⟩:=id hs
 have hTs:s.TypeIs (.ref sl) "slice" := ⟨os,hos,hcs⟩
 unfold getItem
 try with_reducible refine wpAny_holding ?_
 first | refine wpAny_bind (wpAny_pure ?_) | skip
 refine wpAny_bind (wpAny_sequenceKey ht.typeIs (by decide) ?_)
 refine wpAny_bind (wpAny_callSpecial?_slot (name:=Str.ofString "__getitem__") ht.typeIs PyProof.Rows.slot_tuple_getitem
  (wpAny_call_entry PyProof.Rows.slot_tuple_getitem ht.typeIs entry_tuple_getitem ?_ (args_tuple_getitem _ _)))
 show wpAny _ _ (Builtin.Tuple.tupleItemsOf (.ref t) >>= _) _ _ s
 refine wpAny_bind (tupleItemsOf_ ht ?_)
 refine wpAny_bind (wpAny_typeOf hTs ?_)
 rw [if_pos (by decide)]
 refine wpAny_bind (yaM hs pl pu ?_)
 have hno:¬ ((((sIx items.size 0 lo:Nat):Int) == 0 && (1:Int) == 1 && (sIx items.size items.size hi - sIx items.size 0 lo) == items.size)=true):=by
  intro q
  rw [Bool.and_eq_true,Bool.and_eq_true] at q
  have q1:((sIx items.size 0 lo:Nat):Int)=0:=eq_of_beq q.1.1
  have q2:sIx items.size items.size hi - sIx items.size 0 lo=items.size:=eq_of_beq q.2
  exact hw ⟨by omega,by omega⟩
 show wpAny _ _ (if (((sIx items.size 0 lo:Nat):Int) == 0 && (1:Int) == 1 && (sIx items.size items.size hi - sIx items.size 0 lo) == items.size)=true then _ else _) _ _ s
 rw [if_neg hno,XbS]
 first
  | exact wpAny_bind (m:=Builtin.Tuple.tupleExact _) (wpAny_newObj_type (wpAny_pure ⟨_,rfl,wpAny_pure h⟩) htake)
  | exact wpAny_bind (m:=Builtin.Tuple.tupleExact _) (wpAny_newObj_type (wpAny_bind (wpAny_pure (wpAny_pure ⟨_,rfl,wpAny_pure h⟩))) htake)
  | exact wpAny_bind (wpAny_bind (m:=Builtin.Tuple.tupleExact _) (wpAny_newObj_type (wpAny_pure (wpAny_pure ⟨_,rfl,wpAny_pure h⟩)) htake))
  | exact wpAny_bind (wpAny_bind (m:=Builtin.Tuple.tupleExact _) (wpAny_newObj_type (wpAny_pure ⟨_,rfl,wpAny_pure h⟩) htake))
end
end HT
namespace L2
open PySem PySem.Spec PyProof.Rows
abbrev TO:=St→Hp→(Option Int→Hp→Prop)→Prop
noncomputable def PO (X:Cx) (e:Option Expr) (t:TO):Prop :=
 ∀ (pins:List (Addr×Obj)) (s:Shared) (σ:St) (H:Hp) (Q:Option Int→Hp→Prop),Inv X pins σ H s→t σ H Q →
  wpAny (model X.prog X.w) X.A (evalPart e X.env) (fun u s'=>∃ o H',Inv X pins σ H' s'∧IsPart u o∧Q o H') X.xe s
noncomputable def tNoPart:TO:=fun _ H Q=>Q none H
noncomputable def tPart (t:TE):TO:=fun σ H Q=>t σ H fun x H1=>∃ i,x=.int i∧Q (some i) H1
theorem Za4 {ns:List Int}:∀ {us:List Value},Vals (ns.map V.int) us→IntsAre us ns:=by
 induction ns with
 | nil=>intro us r;rw [List.map_nil] at r;cases r;exact .nil
 | cons n ns ih =>
  intro us r
  rw [List.map_cons] at r
  cases r with
  | cons r1 r2 =>
   obtain ⟨t,e⟩:=r1
   subst e
   exact .cons n t (ih r2)
section
variable {X:Cx} {e:Expr} {te:TE} {lo hi:Option Expr} {tl th:TO} {pos p2:Pos}
theorem ZbE:PO X none tNoPart:=by
 intro pins s σ H Q I h
 rw [evalPart_none]
 exact wpAny_pure ⟨none,H,I,.none,h⟩
theorem YbE (h:PE X e te):PO X (some e) (tPart te):=by
 intro pins s σ H Q I hw
 rw [evalPart_some]
 refine thn (h pins s σ H _ I hw) fun u s1 ⟨x,H1,I1,r1,q1⟩=>?_
 obtain ⟨i,rfl,q⟩:=q1
 obtain ⟨t,rfl⟩:=r1
 exact ⟨some i,H1,I1,.int i t,q⟩
noncomputable def SlR (X:Cx) (r:V→Option Int→Option Int→Hp→VK→Prop):Prop :=
 ∀ (pins:List (Addr×Obj)) (s:Shared) (σ:St) (H:Hp) (x:V) (v vl vu:Value) (lo hi:Option Int) (sl:Addr) (Q:VK),Inv X pins σ H s→RelV x v→s.heap.IsSliceOf sl vl vu .none→IsPart vl lo→IsPart vu hi→r x lo hi H Q →
  ∃ T id,typeLookup (.type T) "__getitem__" = pure (some (.builtin id))∧s.TypeIs v T∧wpAny (model X.prog X.w) X.A (getItem v (.ref sl)) (EP X pins σ Q) X.xe s
noncomputable def tSl (r:V→Option Int→Option Int→Hp→VK→Prop) (te:TE) (tl th:TO):TE:=fun σ H Q=>te σ H fun x H1=>tl σ H1 fun l H2=>th σ H2 fun u H3=>r x l u H3 Q
theorem ybq {r:V→Option Int→Option Int→Hp→VK→Prop} (hr:SlR X r) (he:PE X e te) (hl:PO X lo tl) (hu:PO X hi th):PE X (.Subscript e (.Slice lo hi none p2) pos) (tSl r te tl th):=by
 intro pins s σ H Q I h
 refine Subscript_ (thn (he pins s σ H _ I h) fun v s1 ⟨x,H1,I1,r1,q1⟩=>?_)
 refine wpAny_Slice (thn (hl pins s1 σ H1 _ I1 q1) fun vl s2 ⟨l,H2,I2,pl,q2⟩=>thn (hu pins s2 σ H2 _ I2 q2) fun vu s3 ⟨u,H3,I3,pu,q3⟩=>?_)
 rw [evalPart_none]
 refine wpAny_pure ?_
 have I4:Inv X pins σ H3 { s3 with heap:=s3.heap.push { cls:=.type "slice",data:=.fields #[vl,vu,.none] } }:=I3.kept (t':=s3.toks) fun b ob q=>Heap.get?_push_of_some _ q
 obtain ⟨T,id,hT,ht,hg⟩:=hr pins { s3 with heap:=s3.heap.push { cls:=.type "slice",data:=.fields #[vl,vu,.none] } } σ H3 x v vl vu l u s3.heap.objs.size Q I4 r1 (Heap.IsSliceOf.new ..) pl pu q3
 show wpAny (model X.prog X.w) X.A (subscriptTail e (.Slice lo hi none p2) v (.ref s3.heap.objs.size)) (EP X pins σ Q) X.xe { s3 with heap:=s3.heap.push { cls:=.type "slice",data:=.fields #[vl,vu,.none] } }
 exact tail_any (ops:=[.ref s3.heap.objs.size,v]) ht hT hg (by with_unfolding_all rfl)
noncomputable def cutV (xs:List V) (lo hi:Option Int):List V:=(xs.drop (HT.sIx xs.length 0 lo)).take (HT.sIx xs.length xs.length hi - HT.sIx xs.length 0 lo)
theorem yaY (xs:List V) (lo hi:Option Int):(cutV xs lo hi).length≤xs.length:=by
 unfold cutV
 rw [List.length_take,List.length_drop]
 omega
noncomputable def rSlT (K:PySem.W.Frag):V→Option Int→Option Int→Hp→VK→Prop:=fun x lo hi H Q=>∃ a xs,x=.ref a∧SqT K H a xs ∧
 ¬ (HT.sIx xs.length 0 lo=0∧HT.sIx xs.length xs.length hi=xs.length)∧∀ p,H p=none→Q (.ref p) (upd H p (.tup (cutV xs lo hi)))
theorem sl_tup:SlR X (rSlT X.K):=by
 intro pins s σ H x v vl vu lo hi sl Q I rx hs pl pu h
 obtain ⟨a,xs,rfl,hx,hw,q⟩:=h
 cases rx
 obtain ⟨its,r,ht,hz⟩:=I.tuple hx
 have hlen:its.toArray.size=xs.length:=by rw [List.size_toArray];exact r.length.symm
 refine ⟨"tuple",_,PyProof.Rows.slot_tuple_getitem.lookup,ht.typeIs,?_⟩
 refine HT.yaV ht hs pl pu (by rw [hlen];exact hw) ?_ (by rw [hlen];exact hz)
 rw [hlen]
 refine ⟨.ref s.heap.objs.size,_,I.laid (t':=s.toks) (o:=.tup (cutV xs lo hi)) (fun b ob q=>Heap.get?_push_of_some _ q) (Nat.le_refl _) ?_,rfl,q _ (I.hok.fresh (Nat.le_refl _))⟩
 exact ⟨Nat.le_trans (yaY xs lo hi) hz,_,(r.drop (HT.sIx xs.length 0 lo)).take (HT.sIx xs.length xs.length hi - HT.sIx xs.length 0 lo),PTup.new _ _⟩
noncomputable def rCatT (K:PySem.W.Frag):R2:=fun x y H Q=>∃ a b xs ys,x=.ref a∧y=.ref b∧SqT K H a xs∧SqT K H b ys∧xs≠[]∧xs.length + ys.length≤sizeLine ∧
 (ys=[]→Q (.ref a) H)∧(ys≠[]→∀ p,H p=none→Q (.ref p) (upd H p (.tup (xs ++ ys))))
theorem Vals.nil_iff {xs:List V} {us:List Value} (r:Vals xs us):us=[]↔xs=[]:=by
 cases r with
 | nil=>simp
 | cons _ _=>simp
theorem Yb4:OpR X (binaryOp .Add) (rCatT X.K):=by
 intro pins s σ H x y v u Q I rx ry h
 obtain ⟨a,b,xs,ys,rfl,rfl,ha,hb,hx,hz,q1,q2⟩:=h
 cases rx
 cases ry
 obtain ⟨its,r1,p1,_⟩:=I.tuple ha
 obtain ⟨its2,r2,p2,_⟩:=I.tuple hb
 refine HT.yb4 p1 p2 (fun z=>hx (r1.nil_iff.mp z)) (fun z=>⟨.ref a,H,I,rfl,q1 (r2.nil_iff.mp z)⟩) (fun z=>?_) (by rw [← r1.length,← r2.length];exact hz)
 refine ⟨.ref s.heap.objs.size,_,I.laid (t':=s.toks) (o:=.tup (xs ++ ys)) (fun b ob q=>Heap.get?_push_of_some _ q) (Nat.le_refl _) ?_,rfl,q2 (fun w=>z (r2.nil_iff.mpr w)) _ (I.hok.fresh (Nat.le_refl _))⟩
 exact ⟨by rw [List.length_append];exact hz,_,r1.append r2,PTup.new _ _⟩
end
end L2
namespace L2
open PySem PySem.Spec PyProof.Rows
noncomputable def ixN (n:Nat) (i:Int):Option Nat:=if 0≤i then (if i < n then some i.toNat else none) else if -(n:Int)≤i then some (i + n).toNat else none
noncomputable def atI {α:Type} (xs:List α) (i:Int):Option α:=(ixN xs.length i).bind fun j=>xs[j]?
theorem xbl {n:Nat} {i:Int} {j:Nat} (h:ixN n i=some j):seqIndex? i n=some j∧j < n∧-(n:Int)≤i∧i < n:=by
 unfold ixN at h
 by_cases h0:0≤i
 ·rw [if_pos h0] at h
  by_cases h1:i < n
  ·rw [if_pos h1] at h
   have e:i.toNat=j:=Option.some.inj h
   exact ⟨by rw [seqIndex_of h0 h1,e],by omega,by omega,h1⟩
  ·rw [if_neg h1] at h;cases h
 ·rw [if_neg h0] at h
  by_cases h1:-(n:Int)≤i
  ·rw [if_pos h1] at h
   have e:(i + n).toNat=j:=Option.some.inj h
   exact ⟨by rw [seqIndex_neg (by omega) h1,e],by omega,h1,by omega⟩
  ·rw [if_neg h1] at h;cases h
theorem xbE {α:Type} {xs:List α} {i:Int} {v:α} (h:atI xs i=some v):∃ j,seqIndex? i xs.length=some j∧xs[j]?=some v∧j < xs.length∧-(xs.length:Int)≤i∧i < xs.length:=by
 unfold atI at h
 cases e:ixN xs.length i with
 | none=>rw [e] at h;cases h
 | some j =>
  rw [e] at h
  obtain ⟨h1,h2,h3,h4⟩:=xbl e
  exact ⟨j,h1,h,h2,h3,h4⟩
theorem zaD {α:Type} {xs:List α} {j:Nat} {v:α} (h:xs[j]?=some v):atI xs (j:Int)=some v:=by
 have hj:j < xs.length:=(List.getElem?_eq_some_iff.mp h).1
 have e:ixN xs.length (j:Int)=some j:=by
  unfold ixN
  rw [if_pos (by omega),if_pos (by omega)];simp
 unfold atI;rw [e];exact h
noncomputable def PlainIx (b:Expr):Prop:=∀ o i,subscripted b false o i=operate [o,i] (getItem o i)
noncomputable def IxR (X:Cx) (r:R2):Prop :=
 ∀ (value slice:Expr) (pins:List (Addr×Obj)) (s:Shared) (σ:St) (H:Hp) (x y:V) (v u:Value) (Q:VK),Inv X pins σ H s→RelV x v→RelV y u→r x y H Q →
  subscripted slice false v u=operate [v,u] (getItem v u)→wpAny (model X.prog X.w) X.A (subscriptTail value slice v u) (EP X pins σ Q) X.xe s
noncomputable def MtR (X:Cx) (id:String) (r:V→List V→Hp→VK→Prop):Prop :=
 ∀ (pins:List (Addr×Obj)) (s:Shared) (σ:St) (H:Hp) (x:V) (xs:List V) (v:Value) (us:List Value) (Q:VK),Inv X pins σ H s→RelV x v→Vals xs us→r x xs H Q →
  wpAny (model X.prog X.w) X.A (call (.builtin id) (v :: us)) (EP X pins σ Q) X.xe s
section
variable {X:Cx} {a b:Expr} {ta tb:TE} {pos:Pos}
theorem Zai {r:R2} (hr:IxR X r) (ha:PE X a ta) (hb:PE X b tb) (hs:PlainIx b):PE X (.Subscript a b pos) (tOp r ta tb):=by
 intro pins s σ H Q I h
 exact Subscript_ (binT ha hb I h fun v u s2 x y H2 I2 rx ry q=>hr a b pins s2 σ H2 x y v u Q I2 rx ry q (hs _ _))
noncomputable def rIxL (K:PySem.W.Frag):R2:=fun x y H Q=>∃ p xs i v,x=.ref p∧y=.int i∧SqL K H p xs∧atI xs i=some v∧Q v H
noncomputable def rIxT (K:PySem.W.Frag):R2:=fun x y H Q=>∃ p xs i v,x=.ref p∧y=.int i∧SqT K H p xs∧atI xs i=some v∧Q v H
theorem zak:IxR X (rIxL X.K):=by
 intro value slice pins s σ H x y v u Q I rx ry h hs
 obtain ⟨p,xs,i,z,rfl,rfl,hq,he,q⟩:=h
 cases rx
 obtain ⟨t,rfl⟩:=ry
 obtain ⟨its,r,pl,hz⟩:=I.list hq
 obtain ⟨j,h1,h2,h3,h4,h5⟩:=xbE he
 obtain ⟨w,ew,rw'⟩:=r.get h2
 have hl:=r.length
 have hn:=line63
 have fin:EP X pins σ Q w s:=⟨z,H,I,rw',q⟩
 by_cases h0:0≤i
 ·have hj:i.toNat=j:=by
   rw [seqIndex_of h0 h5] at h1
   exact Option.some.inj h1
  exact item_listR pl.isList h0 (by omega) (by rw [hj];simpa using ew) fin hs
 ·have hj:(i + (its.toArray.size:Int)).toNat=j:=by
   rw [seqIndex_neg (by omega) h4] at h1
   rw [List.size_toArray,← hl]
   exact Option.some.inj h1
  exact subscriptTail_builtinR (x:=w) pl.isList.typeIs slot_list_getitem.lookup
   (wpAny_getItem_list_neg (Q:=fun r s'=>r=w∧EP X pins σ Q r s') pl.isList (by omega) (by rw [List.size_toArray] <;> omega) (by omega) (by rw [hj];simpa using ew) ⟨rfl,fin⟩) hs
theorem Zas:IxR X (rIxT X.K):=by
 intro value slice pins s σ H x y v u Q I rx ry h hs
 obtain ⟨p,xs,i,z,rfl,rfl,hq,he,q⟩:=h
 cases rx
 obtain ⟨t,rfl⟩:=ry
 obtain ⟨its,r,pl,hz⟩:=I.tuple hq
 obtain ⟨j,h1,h2,h3,h4,h5⟩:=xbE he
 obtain ⟨w,ew,rw'⟩:=r.get h2
 have hl:=r.length
 have hn:=line63
 have fin:EP X pins σ Q w s:=⟨z,H,I,rw',q⟩
 exact subscriptTail_builtinR (x:=w) pl.typeIs slot_tuple_getitem.lookup
  (getItem_tuple (j:=j) (Q:=fun r s'=>r=w∧EP X pins σ Q r s') pl (by omega) (by omega) (by rw [List.size_toArray,← hl];exact h1) (by simpa using ew) ⟨rfl,fin⟩) hs
theorem Ybw (its:List Value) (n j:Nat) (u:Value):Obj.mapSeq (·.setIfInBounds j u) { cls:=.type "list",data:=.seq its.toArray n }={ cls:=.type "list",data:=.seq (its.set j u).toArray n }:=by
 simp [Obj.mapSeq]
theorem Inv.lst {pins:List (Addr×Obj)} {σ:St} {H:Hp} {s:Shared} {p:Addr} {xs:List V} (I:Inv X pins σ H s) (h:H p=some (.lst xs)) :
  ∃ (its:List Value) (n:Nat),Vals xs its∧s.heap.get? p=some { cls:=.type "list",data:=.seq its.toArray n }∧xs.length≤sizeLine:=by
 obtain ⟨z,its,n,r,e⟩:=I.hok p _ h
 exact ⟨its,n,r,e,z⟩
theorem Inv.lstUpd {pins:List (Addr×Obj)} {σ:St} {H:Hp} {s:Shared} {p:Addr} {xs ys:List V} {its its':List Value} {n n':Nat} {f:Obj→Obj} (I:Inv X pins σ H s) (h:H p=some (.lst xs))
  (ho:s.heap.get? p=some { cls:=.type "list",data:=.seq its.toArray n }) (hf:f { cls:=.type "list",data:=.seq its.toArray n }={ cls:=.type "list",data:=.seq its'.toArray n' }) (r:Vals ys its') (hz:ys.length≤sizeLine) (t:Nat) :
  Inv X pins σ (upd H p (.lst ys)) { s with heap:=s.heap.update p f,toks:=t }:=by
 have e:(s.heap.update p f).get? p=some { cls:=.type "list",data:=.seq its'.toArray n' }:=by
  rw [Heap.get?_update_self f ho (by rw [hf] <;> rfl),hf]
 refine I.write (x:=p) (e:=p) (by rw [h];trivial) (.inl rfl) (fun b u hb q=>(Heap.get?_update_other _ _ (Ne.symm hb)).trans q) ⟨_,e⟩ ?_
 exact ⟨hz,its',n',r,e⟩
noncomputable def rSetL:V→V→V→Hp→(Hp→Prop)→Prop:=fun o i v H Q=>∃ p xs k j,o=.ref p∧i=.int k∧H p=some (.lst xs)∧ixN xs.length k=some j∧Q (upd H p (.lst (xs.set j v)))
theorem zaT:PSet X rSetL:=by
 intro pins s σ H o i v ov iv u Q I ro ri rv h
 obtain ⟨p,xs,k,j,rfl,rfl,hp,hj,q⟩:=h
 cases ro
 obtain ⟨t,rfl⟩:=ri
 obtain ⟨its,n,r,ho,hz⟩:=I.lst hp
 obtain ⟨h1,h2,h3,h4⟩:=xbl hj
 have hl:=r.length
 have hn:=line63
 have I':Inv X pins σ (upd H p (.lst (xs.set j v))) { s with heap:=s.heap.update p (Obj.mapSeq (·.setIfInBounds j u)) } :=
  I.lstUpd hp ho (Ybw its n j u) (r.set rv j) (by rw [List.length_set];exact hz) s.toks
 by_cases h0:0≤k
 ·have hk:k.toNat=j:=by
   rw [seqIndex_of h0 h4] at h1
   exact Option.some.inj h1
  exact PySem.W.ki_setAt ho h0 (by omega) (by rw [List.size_toArray,← hl];exact h4) (by rw [hk];exact ⟨_,I',q⟩)
 ·have hk:(k + (its.toArray.size:Int)).toNat=j:=by
   rw [seqIndex_neg (by omega) h3] at h1
   rw [List.size_toArray,← hl]
   exact Option.some.inj h1
  exact PySem.W.ki_setBack ho (by omega) (by rw [List.size_toArray,← hl];exact h3) (by omega) (by rw [hk];exact ⟨_,I',q⟩)
theorem Zbe (lo hi:Option Int) (n:Nat):(sliceBounds lo hi none n).1=((HT.sIx n 0 lo:Nat):Int)∧(sliceBounds lo hi none n).2.1=((HT.sIx n n hi:Nat):Int)∧(sliceBounds lo hi none n).2.2=1:=by
 refine ⟨?_,?_,rfl⟩
 ·cases lo with
  | none=>simp [sliceBounds,HT.sIx]
  | some i =>
   simp only [sliceBounds,HT.sIx,Option.getD_none,show (1:Int) > 0 by decide,if_true]
   by_cases h:i < 0
   ·simp only [h,if_true] <;> omega
   ·simp only [h,if_false] <;> omega
 ·cases hi with
  | none=>simp [sliceBounds,HT.sIx]
  | some i =>
   simp only [sliceBounds,HT.sIx,Option.getD_none,show (1:Int) > 0 by decide,if_true]
   by_cases h:i < 0
   ·simp only [h,if_true] <;> omega
   ·simp only [h,if_false] <;> omega
theorem za7 (its:List Value) (lo hi:Option Int):slicePick its.toArray lo hi none=((its.drop (HT.sIx its.length 0 lo)).take (HT.sIx its.length its.length hi - HT.sIx its.length 0 lo)).toArray:=by
 obtain ⟨h1,h2,h3⟩:=Zbe lo hi its.toArray.size
 unfold slicePick
 rw [h1,h2,h3]
 simp only [sliceRange_one,pick_run,List.size_toArray] <;> rfl
noncomputable def rSlL (K:PySem.W.Frag):V→Option Int→Option Int→Hp→VK→Prop:=fun x lo hi H Q=>∃ a xs,x=.ref a∧SqL K H a xs∧∀ p,H p=none→Q (.ref p) (upd H p (.lst (cutV xs lo hi)))
theorem xb4:SlR X (rSlL X.K):=by
 intro pins s σ H x v vl vu lo hi sl Q I rx hs pl pu h
 obtain ⟨a,xs,rfl,hx,q⟩:=h
 cases rx
 obtain ⟨its,r,ht,hz⟩:=I.list hx
 have hlen:=r.length
 refine ⟨"list",_,slot_list_getitem.lookup,ht.isList.typeIs,?_⟩
 refine wpAny_getItem_list_slice ht.isList hs pl pu .none (by simp) ?_ (by rw [List.size_toArray] <;> omega)
 rw [za7,← hlen]
 refine ⟨.ref s.heap.objs.size,_,I.laid (t':=s.toks) (o:=.lst (cutV xs lo hi)) (fun b ob q=>Heap.get?_push_of_some _ q) (Nat.le_refl _) ?_,rfl,q _ (I.hok.fresh (Nat.le_refl _))⟩
 exact ⟨Nat.le_trans (yaY xs lo hi) hz,_,0,(r.drop (HT.sIx xs.length 0 lo)).take (HT.sIx xs.length xs.length hi - HT.sIx xs.length 0 lo),Heap.get?_push_size _ rfl⟩
noncomputable def flatV:V→Bool
 | .non=>true
 | .bl _=>true
 | .int _=>true
 | .str _=>true
 | _=>false
noncomputable def eqV:V→V→Bool
 | .non,.non=>true
 | .bl a,.bl b=>a == b
 | .bl a,.int b=>(if a then 1 else 0) == b
 | .int a,.bl b=>a == (if b then 1 else 0)
 | .int a,.int b=>a == b
 | .str a,.str b=>a == b
 | _,_=>false
theorem eqAt_V {A:Around} {s:Shared} {y x:V} {u v:Value} (ry:RelV y u) (rx:RelV x v) (fy:flatV y=true) (fx:flatV x=true):SeqAt.EqAt A s u v (eqV y x):=by
 cases y with
 | non =>
  cases ry
  cases x with
  | non=>cases rx;exact SeqAt.EqAt.same _
  | bl b=>cases rx;exact SeqAt.EqAt.none_bool b
  | int b=>obtain ⟨t,rfl⟩:=rx;exact SeqAt.EqAt.none_int b t
  | str b=>obtain ⟨t,rfl⟩:=rx;exact SeqAt.EqAt.none_str b t
  | _=>exact absurd (show false=true from fx) Bool.false_ne_true
 | bl a =>
  cases ry
  cases x with
  | non=>cases rx;exact SeqAt.EqAt.bool_none a
  | bl b=>cases rx;exact SeqAt.EqAt.bool_bool a b
  | int b=>obtain ⟨t,rfl⟩:=rx;exact SeqAt.EqAt.bool_int a b t
  | str b=>obtain ⟨t,rfl⟩:=rx;exact SeqAt.EqAt.bool_str a b t
  | _=>exact absurd (show false=true from fx) Bool.false_ne_true
 | int a =>
  obtain ⟨t',rfl⟩:=ry
  cases x with
  | non=>cases rx;exact SeqAt.EqAt.int_none a t'
  | bl b=>cases rx;exact SeqAt.EqAt.int_bool a t' b
  | int b=>obtain ⟨t,rfl⟩:=rx;exact SeqAt.EqAt.int_int a t' b t
  | str b=>obtain ⟨t,rfl⟩:=rx;exact SeqAt.EqAt.int_str a t' b t
  | _=>exact absurd (show false=true from fx) Bool.false_ne_true
 | str a =>
  obtain ⟨t',rfl⟩:=ry
  cases x with
  | non=>cases rx;exact SeqAt.EqAt.str_none a t'
  | bl b=>cases rx;exact SeqAt.EqAt.str_bool a t' b
  | int b=>obtain ⟨t,rfl⟩:=rx;exact SeqAt.EqAt.str_int a t' b t
  | str b=>obtain ⟨t,rfl⟩:=rx;exact SeqAt.EqAt.str_str a t' b t
  | _=>exact absurd (show false=true from fx) Bool.false_ne_true
 | _=>exact absurd (show false=true from fy) Bool.false_ne_true
noncomputable def eqU (x:V) (u:Value):Bool:=match u with
 | .none=>eqV .non x
 | .bool b=>eqV (.bl b) x
 | .int i _=>eqV (.int i) x
 | .str z _=>eqV (.str z) x
 | _=>false
theorem zb1 {x y:V} {u:Value} (r:RelV y u) (f:flatV y=true):eqU x u=eqV y x:=by
 cases y with
 | non=>cases r;rfl
 | bl b=>cases r;rfl
 | int i=>obtain ⟨t,rfl⟩:=r;rfl
 | str z=>obtain ⟨t,rfl⟩:=r;rfl
 | _=>exact absurd (show false=true from f) Bool.false_ne_true
theorem ZaY {x:V}:∀ {xs:List V} {us:List Value},Vals xs us→xs.all flatV=true→us.any (eqU x)=xs.any fun y=>eqV y x
 | _,_,.nil,_=>rfl
 | y :: xs,u :: us,.cons r t,f=>by
  rw [List.all_cons,Bool.and_eq_true] at f
  rw [List.any_cons,List.any_cons,zb1 r f.1,ZaY t f.2]
theorem yaT {A:Around} {s:Shared} {x:V} {v:Value} (rx:RelV x v) (fx:flatV x=true):∀ {xs:List V} {us:List Value},Vals xs us→xs.all flatV=true→∀ u∈us,SeqAt.EqAt A s u v (eqU x u)
 | _,_,.nil,_=>fun u hu=>by cases hu
 | y :: xs,u :: us,.cons r t,f=>fun u' hu=>by
  rw [List.all_cons,Bool.and_eq_true] at f
  rcases List.mem_cons.mp hu with rfl | hu
  ·rw [zb1 r f.1];exact eqAt_V r rx f.1 fx
  ·exact yaT rx fx t f.2 u' hu
noncomputable def inV (x:V) (xs:List V):Bool:=xs.any fun y=>eqV y x
noncomputable def rIn (K:PySem.W.Frag) (neg:Bool):R2:=fun x y H Q=>∃ p xs,y=.ref p∧(SqL K H p xs∨SqT K H p xs)∧flatV x=true∧xs.all flatV=true∧Q (.bl (if neg then !inV x xs else inV x xs)) H
theorem XbE:OpR X (compareOp .In) (rIn X.K false):=by
 intro pins s σ H x y v u Q I rx ry h
 obtain ⟨p,xs,rfl,hq,fx,fs,q⟩:=h
 cases ry
 rcases hq with hq | hq
 ·obtain ⟨its,r,pl,hz⟩:=I.list hq
  refine SeqAt.in_listAt (eqU x) pl.isList (fun w hw=>yaT rx fx r fs w (by simpa using hw)) ⟨.bl _,H,I,rfl,?_⟩
  rw [show its.toArray.any (eqU x)=its.any (eqU x) by simp,ZaY r fs]
  exact q
 ·obtain ⟨its,r,pl,hz⟩:=I.tuple hq
  refine SeqAt.in_tupleAt (eqU x) pl (fun w hw=>yaT rx fx r fs w (by simpa using hw)) ⟨.bl _,H,I,rfl,?_⟩
  rw [show its.toArray.any (eqU x)=its.any (eqU x) by simp,ZaY r fs]
  exact q
theorem xaM:OpR X (compareOp .NotIn) (rIn X.K true):=by
 intro pins s σ H x y v u Q I rx ry h
 obtain ⟨p,xs,rfl,hq,fx,fs,q⟩:=h
 cases ry
 rcases hq with hq | hq
 ·obtain ⟨its,r,pl,hz⟩:=I.list hq
  refine SeqAt.notIn_listAt (eqU x) pl.isList (fun w hw=>yaT rx fx r fs w (by simpa using hw)) ⟨.bl _,H,I,rfl,?_⟩
  rw [show its.toArray.any (eqU x)=its.any (eqU x) by simp,ZaY r fs]
  exact q
 ·obtain ⟨its,r,pl,hz⟩:=I.tuple hq
  refine SeqAt.notIn_tupleAt (eqU x) pl (fun w hw=>yaT rx fx r fs w (by simpa using hw)) ⟨.bl _,H,I,rfl,?_⟩
  rw [show its.toArray.any (eqU x)=its.any (eqU x) by simp,ZaY r fs]
  exact q
theorem Yae:CallR X (.builtin "len") (fun xs H Q=>∃ p ys,xs=[.ref p]∧(SqL X.K H p ys∨SqT X.K H p ys)∧Q (.int ys.length) H):=by
 intro pins s σ H xs us Q I r h
 obtain ⟨p,ys,rfl,hq,q⟩:=h
 obtain ⟨u,rfl,rx⟩:=vals1 r
 cases rx
 have hn:=line63
 rcases hq with hq | hq
 ·obtain ⟨its,r',pl,hz⟩:=I.list hq
  have hlen:=r'.length
  exact Calls.call_len_list pl.isList (by simp only [List.size_toArray] <;> omega) ⟨.int ys.length,H,I.tok _,⟨s.toks + 1,by rw [List.size_toArray,hlen]⟩,q⟩
 ·obtain ⟨its,r',pl,hz⟩:=I.tuple hq
  have hlen:=r'.length
  exact len_tuple pl (by simp only [List.size_toArray] <;> omega) ⟨.int ys.length,H,I.tok _,⟨s.toks + 1,by rw [List.size_toArray,hlen]⟩,q⟩
theorem Zay:CallR X (.type "list") (fun xs H Q=>∃ p ys,xs=[.ref p]∧(SqL X.K H p ys∨SqT X.K H p ys)∧∀ l,H l=none→Q (.ref l) (upd H l (.lst ys))):=by
 intro pins s σ H xs us Q I r h
 obtain ⟨p,ys,rfl,hq,q⟩:=h
 obtain ⟨u,rfl,rx⟩:=vals1 r
 cases rx
 have fin:∀ (its:List Value),Vals ys its→ys.length≤sizeLine→∀ (h':Heap) (c':Nat),(∀ b o',s.heap.get? b=some o'→h'.get? b=some o') →
   h'.get? s.heap.objs.size=some { cls:=.type "list",dict:=none,data:=.seq its.toArray c',slots:=#[] }→EP X pins σ Q (.ref s.heap.objs.size) { s with heap:=h' }:=fun its r' hz h' c' kp e =>
  ⟨.ref s.heap.objs.size,_,I.laid (t':=s.toks) kp (Nat.le_refl _) (show ObjOk X.prog X.w _ h' _ (.lst ys) from ⟨hz,its,c',r',e⟩),rfl,q _ (I.hok.fresh (Nat.le_refl _))⟩
 rcases hq with hq | hq
 ·obtain ⟨its,r',pl,hz⟩:=I.list hq
  have hlen:=r'.length
  obtain ⟨o,ho,hc,n,hd⟩:=pl.isList
  exact call_list_seq p (.inl rfl) ho hc hd (fun h' c' kp e=>fin its r' hz h' c' kp e) (by simp only [List.size_toArray] <;> omega)
 ·obtain ⟨its,r',pl,hz⟩:=I.tuple hq
  have hlen:=r'.length
  obtain ⟨o,ho,hc,n,hd⟩:=pl
  exact call_list_seq p (.inr rfl) ho hc hd (fun h' c' kp e=>fin its r' hz h' c' kp e) (by simp only [List.size_toArray] <;> omega)
theorem xad:CallR X (.type "tuple") (fun xs H Q=>∃ p ys,xs=[.ref p]∧((SqL X.K H p ys∧∀ l,H l=none→Q (.ref l) (upd H l (.tup ys)))∨(SqT X.K H p ys∧Q (.ref p) H))):=by
 intro pins s σ H xs us Q I r h
 obtain ⟨p,ys,rfl,h⟩:=h
 obtain ⟨u,rfl,rx⟩:=vals1 r
 cases rx
 rcases h with ⟨hq,q⟩ | ⟨hq,q⟩
 ·obtain ⟨its,r',pl,hz⟩:=I.list hq
  have hlen:=r'.length
  refine call_tuple_list pl.isList (fun h' kp=>?_) (by simp only [List.size_toArray] <;> omega)
  have I1:Inv X pins σ H { s with heap:=h' }:=I.kept (t':=s.toks) kp
  have I2:Inv X pins σ (upd H h'.objs.size (.tup ys)) { s with heap:=h'.push { cls:=.type "tuple",data:=.seq its.toArray } } :=
   I1.laid (t':=s.toks) (fun b o e=>Heap.get?_push_of_some _ e) (Nat.le_refl _) (show ObjOk X.prog X.w _ _ _ (.tup ys) from ⟨hz,its,r',PTup.new _ _⟩)
  exact ⟨.ref h'.objs.size,_,I2,rfl,q _ (I1.hok.fresh (Nat.le_refl _))⟩
 ·obtain ⟨its,r',pl,hz⟩:=I.tuple hq
  exact call_tuple_same pl ⟨.ref p,H,I,rfl,q⟩
noncomputable def tyV (K:PySem.W.Frag) (T:String) (x:V) (H:Hp):Prop:=match x with
 | .str _=>T="str"
 | .int _=>T="int"
 | .ref p=>(T="list" ∧ ∃ xs,SqL K H p xs)∨(T="tuple" ∧ ∃ xs,SqT K H p xs) ∨
   (T="dict" ∧ ((∃ kvs,H p=some (.dK kvs))∨∃ kvs,H p=some (.dT kvs)))∨(T="set" ∧ ∃ S n,H p=some (.set S n))
 | _=>False
theorem tyV_is {pins:List (Addr×Obj)} {σ:St} {H:Hp} {s:Shared} {T:String} {x:V} {v:Value} (I:Inv X pins σ H s) (r:RelV x v) (ty:tyV X.K T x H) :
  s.TypeIs v T∧∀ a,v=.ref a→∃ ob,s.heap.get? a=some ob∧ob.dict=none:=by
 cases x with
 | str z =>
  obtain ⟨t,rfl⟩:=r
  cases (show T="str" from ty)
  exact ⟨typeIs_str s z t,fun _ e=>nomatch e⟩
 | int i =>
  obtain ⟨t,rfl⟩:=r
  cases (show T="int" from ty)
  exact ⟨typeIs_int s i t,fun _ e=>nomatch e⟩
 | ref p =>
  cases r
  rcases ty with ⟨rfl,xs,hq⟩ | ⟨rfl,xs,hq⟩ | ⟨rfl,hk⟩ | ⟨rfl,S,n,hk⟩
  ·obtain ⟨its,_,pl,_⟩:=I.list hq
   refine ⟨pl.isList.typeIs,fun a e=>?_⟩
   cases e
   obtain ⟨o,n,e,c,hd,_⟩:=pl
   exact ⟨o,e,hd⟩
  ·obtain ⟨its,_,⟨o,e,c,d,_⟩,_⟩:=I.tupleP hq
   refine ⟨⟨o,e,c⟩,fun a e2=>?_⟩
   cases e2
   exact ⟨o,e,d⟩
  ·have z:∃ o,s.heap.get? p=some o∧o.ExactDict:=by
    rcases hk with ⟨kvs,hk⟩ | ⟨kvs,hk⟩
    ·obtain ⟨_,_,_,_,o,_,_,e,ex,_⟩:=I.hok p _ hk
     exact ⟨o,e,ex⟩
    ·obtain ⟨_,_,_,_,o,_,_,e,ex,_⟩:=I.hok p _ hk
     exact ⟨o,e,ex⟩
   obtain ⟨o,e,ex⟩:=z
   refine ⟨⟨o,e,ex.1⟩,fun a e2=>?_⟩
   cases e2
   exact ⟨o,e,ex.2.1⟩
  ·obtain ⟨o,_,_,_,e,ex,_⟩:=I.hok p _ hk
   refine ⟨⟨o,e,ex.1⟩,fun a e2=>?_⟩
   cases e2
   exact ⟨o,e,ex.2.1⟩
 | _=>exact False.elim ty
noncomputable def tBM (K:PySem.W.Frag) (T:String) (r:V→List V→Hp→VK→Prop) (to:TE) (t:TA):TE:=fun σ H Q=>to σ H fun x H1=>tyV K T x H1∧t σ H1 fun xs H2=>r x xs H2 Q
variable {o e:Expr} {es:List Expr} {to:TE} {t:TA} {name:Str} {apos cpos:Pos} {T id:String} {r:V→List V→Hp→VK→Prop}
theorem ZaT (pa:PlainAttrs T) (slot:Slot T name id) (hty:typeOf (.builtin id)=pure (.type "method_descriptor")) (hm:MtR X id r) (ho:PE X o to) (ha:PA X (e :: es) t)
  (hbase:attributeBase o name X.env (eval o X.env)=eval o X.env:=by rfl)
  (hfew:((backTo cpos (starEach (e :: es) X.env)).all (fun x=>!x.1) && (backToKw cpos (keywordEach [] X.env)).all (fun x=>x.1.isSome)
   && decide ((e :: es).length + ([]:List Keyword).length + (if ([]:List Keyword).isEmpty then 0 else 1) < 30))=true:=by rfl)
  (hline:(apos.endLine == cpos.line)=true:=by rfl) (hs:starEach (e :: es) X.env=(false,eval e X.env) :: starEach es X.env:=by rfl) (hplain:(backTo cpos (starEach es X.env)).any (·.1)=false:=by rfl) :
  PE X (.Call (.Attribute o name apos) (e :: es) [] cpos) (tBM X.K T r to t):=by
 intro pins s σ H Q I h
 refine wpAny_Call_method_late hbase hfew hline rfl (thn (ho pins s σ H _ I h) fun v s1 ⟨x,H1,I1,r1,ty,q1⟩=>?_)
 obtain ⟨h1,h2⟩:=tyV_is I1 r1 ty
 refine ⟨T,id,pa,slot,hty,h1,h2,?_⟩
 have hA:=ha cpos pins s1 σ H1 _ I1 q1
 rw [hs] at hA ⊢
 refine Calls.callWith_builtin (by show (false || (backTo cpos (starEach es X.env)).any (·.1))=false;rw [hplain] <;> rfl) (Calls.evalArgs_plain ?_)
 exact thn hA fun us s2 ⟨vs,H2,I2,r2,q2⟩=>hm pins s2 σ H2 x vs v us Q I2 r1 r2 q2
end
end L2
namespace L2
open PySem PySem.Spec PyProof.Rows
noncomputable def MtM (X:Cx) (id:String) (r:V→List V→Hp→VK→Prop):Prop :=
 ∀ (pins:List (Addr×Obj)) (s:Shared) (σ:St) (H:Hp) (x:V) (xs:List V) (v:Value) (us:List Value) (Q:VK),Inv X pins σ H s→RelV x v→Vals xs us→r x xs H Q →
  wpAny (model X.prog X.w) X.A (call (.builtin id) (v :: us)) (EP X pins σ Q) X.xe s
theorem Vals.one:∀ {x:V} {us:List Value},Vals [x] us→∃ u,us=[u]∧RelV x u
 | _,_,.cons r .nil=>⟨_,rfl,r⟩
theorem Vals.eraseIdx:∀ {xs:List V} {us:List Value} (i:Nat),Vals xs us→Vals (xs.eraseIdx i) (us.eraseIdx i)
 | _,_,_,.nil=>.nil
 | _,_,0,.cons _ t=>t
 | _,_,i + 1,.cons r t=>.cons r (Vals.eraseIdx i t)
theorem Vals.reverse {xs:List V} {us:List Value} (h:Vals xs us):Vals xs.reverse us.reverse:=by
 induction h with
 | nil=>exact .nil
 | cons r t ih=>rw [List.reverse_cons,List.reverse_cons];exact Vals.append ih (.cons r .nil)
theorem Vals.rep {xs:List V} {us:List Value} (h:Vals xs us):∀ k:Nat,Vals (List.replicate k xs).flatten (List.replicate k us).flatten
 | 0=>.nil
 | k + 1=>by
  rw [List.replicate_succ,List.replicate_succ,List.flatten_cons,List.flatten_cons]
  exact Vals.append h (Vals.rep h k)
theorem Ybe {α:Type}:∀ (l:List α) (i:Nat),(l.eraseIdx i).length≤l.length
 | [],_=>Nat.le_refl _
 | _ :: _,0=>Nat.le_succ _
 | _ :: r,i + 1=>Nat.succ_le_succ (Ybe r i)
theorem xbe (its:List Value):∀ (k:Nat) (acc:List Value),
  List.foldl (fun x1 x2=>x1 ++ x2) acc.toArray (List.replicate k its.toArray)=(acc ++ (List.replicate k its).flatten).toArray
 | 0,acc=>by simp
 | k + 1,acc=>by
  have e:acc.toArray ++ its.toArray=(acc ++ its).toArray:=by simp
  have e2:(acc ++ its) ++ (List.replicate k its).flatten=acc ++ (List.replicate (k + 1) its).flatten:=by
   rw [List.replicate_succ,List.flatten_cons,List.append_assoc]
  rw [← e2,← xbe its k (acc ++ its),← e,List.replicate_succ,List.foldl_cons]
section
variable {X:Cx} {pins:List (Addr×Obj)} {σ:St} {H:Hp} {s:Shared} {l b:Addr} {xs ys zs:List V}
theorem Inv.lset {its its':List Value} {n:Nat} {f:Array Value→Array Value} {t':Nat} (I:Inv X pins σ H s) (hH:H l=some (.lst xs))
  (e:s.heap.get? l=some { cls:=.type "list",data:=.seq its.toArray n }) (hf:f its.toArray=its'.toArray) (hv:Vals ys its') (hz:ys.length≤sizeLine) :
  Inv X pins σ (upd H l (.lst ys)) { s with heap:=s.heap.update l (Obj.mapSeq f),toks:=t' }:=by
 have q:=PySem.IsL.update e f
 rw [hf] at q
 refine I.write (x:=l) (e:=l) (by rw [hH];exact trivial) (.inl rfl) (fun b' u hb hu=>(Heap.get?_update_other s.heap (Obj.mapSeq f) (Ne.symm hb)).trans hu) ⟨_,q⟩ ?_
 exact ⟨hz,its',_,hv,q⟩
theorem Inv.lnew {its:List Value} {t':Nat} (I:Inv X pins σ H s) (hv:Vals ys its) (hz:ys.length≤sizeLine) :
  Inv X pins σ (upd H s.heap.objs.size (.lst ys)) { s with heap:=s.heap.push { cls:=.type "list",data:=.seq its.toArray },toks:=t' } :=
 I.laid (fun _ _ q=>Heap.get?_push_of_some _ q) (Nat.le_refl _) ⟨hz,its,0,hv,Heap.get?_push_size _ rfl⟩
theorem Inv.fresh (I:Inv X pins σ H s):H s.heap.objs.size=none:=I.hok.fresh (Nat.le_refl _)
theorem Inv.lstM (I:Inv X pins σ H s) (hH:H l=some (.lst xs)):xs.length≤sizeLine∧∃ (its:List Value) (n:Nat),Vals xs its∧xs.length=its.length∧s.heap.get? l=some { cls:=.type "list",data:=.seq its.toArray n }:=by
 obtain ⟨z,its,n,r,e⟩:=I.hok l _ hH
 exact ⟨z,its,n,r,r.length,e⟩
theorem notLongL {n:Nat} (h:n≤sizeLine):Builtin.List.listTooLong n=false:=by
 unfold Builtin.List.listTooLong
 exact decide_eq_false (by omega)
end
section
variable {X:Cx}
noncomputable def rAppend:V→List V→Hp→VK→Prop:=fun x vs H Q=>∃ l xs y,x=.ref l∧vs=[y]∧H l=some (.lst xs)∧xs.length < sizeLine∧Q .non (upd H l (.lst (xs ++ [y])))
theorem Xaq:MtM X "list.append" rAppend:=by
 intro pins s σ H x vs v us Q I rx rv h
 obtain ⟨l,xs,y,rfl,rfl,hH,hz,q⟩:=h
 cases rx
 obtain ⟨u,rfl,ru⟩:=rv.one
 obtain ⟨z,its,n,r,hl,e⟩:=I.lstM hH
 refine call_meets F.slot_list_append ⟨_,e,rfl⟩ F.entry_list_append (F.args_list_append_2 _ _) (PySem.list_append l its.toArray n u (by rw [List.size_toArray];omega)) ⟨e,?_⟩
 refine ⟨.non,_,I.lset (its':=its ++ [u]) hH e (by simp) (r.append (.cons ru .nil)) ?_,rfl,q⟩
 rw [List.length_append,List.length_singleton]
 omega
noncomputable def rExtend:V→List V→Hp→VK→Prop:=fun x vs H Q=>∃ l b xs zs,x=.ref l∧vs=[.ref b]∧H l=some (.lst xs)∧H b=some (.lst zs)∧xs.length + zs.length≤sizeLine∧Q .non (upd H l (.lst (xs ++ zs)))
theorem zbF:MtM X "list.extend" rExtend:=by
 intro pins s σ H x vs v us Q I rx rv h
 obtain ⟨l,b,xs,zs,rfl,rfl,hH,hB,hz,q⟩:=h
 cases rx
 obtain ⟨u,rfl,ru⟩:=rv.one
 cases ru
 obtain ⟨z,its,n,r,hl,e⟩:=I.lstM hH
 obtain ⟨z2,its2,n2,r2,hl2,e2⟩:=I.lstM hB
 have hsz:its.toArray.size + its2.toArray.size≤sizeLine:=by rw [List.size_toArray,List.size_toArray];omega
 have hlong:¬ (!its.toArray.isEmpty && Builtin.List.listTooLong (its.toArray.size + its2.toArray.size))=true:=by
  rw [notLongL hsz,Bool.and_false]
  exact Bool.false_ne_true
 refine call_meets F.slot_list_extend ⟨_,e,rfl⟩ F.entry_list_extend (F.args_list_extend_2 _ _)
  (AutoSeq1.list_extend_list_list_0 l its.toArray n b its2.toArray n2 hlong (by rw [List.size_toArray];omega) (by omega)) ⟨e,e2,?_⟩
 refine ⟨.non,_,I.lset (its':=its ++ its2) hH e (by simp) (r.append r2) ?_,rfl,q⟩
 rw [List.length_append]
 omega
noncomputable def rPopAt:V→List V→Hp→VK→Prop:=fun x vs H Q=>∃ l xs i k y,x=.ref l∧vs=[.int i]∧H l=some (.lst xs)∧-(2 ^ 63)≤i∧i < 2 ^ 63∧seqIndex? i xs.length=some k∧xs[k]?=some y∧Q y (upd H l (.lst (xs.eraseIdx k)))
theorem zbT:MtM X "list.pop" rPopAt:=by
 intro pins s σ H x vs v us Q I rx rv h
 obtain ⟨l,xs,i,k,y,rfl,rfl,hH,h1,h2,hk,hy,q⟩:=h
 cases rx
 obtain ⟨u,rfl,ru⟩:=rv.one
 obtain ⟨t,rfl⟩:=ru
 obtain ⟨z,its,n,r,hl,e⟩:=I.lstM hH
 obtain ⟨w,hw,rw'⟩:=r.get hy
 refine call_meets F.slot_list_pop ⟨_,e,rfl⟩ F.entry_list_pop (F.args_list_pop_2 _ _)
  (MeetsSeq.list_pop_at l its.toArray n i t k w (fitsIndex_both h1 h2) (by rw [List.size_toArray,← hl];exact hk) (by rw [← Array.getElem?_toList];exact hw) (by rw [List.size_toArray];omega)) ⟨e,?_⟩
 refine ⟨y,_,I.lset (its':=its.eraseIdx k) hH e ?_ (r.eraseIdx k) ?_,rw',q⟩
 ·show its.toArray.eraseIdxIfInBounds k=(its.eraseIdx k).toArray
  rw [List.eraseIdxIfInBounds_toArray]
 ·have:=Ybe xs k
  omega
noncomputable def rCat:R2:=fun x y H Q=>∃ l b xs zs,x=.ref l∧y=.ref b∧H l=some (.lst xs)∧H b=some (.lst zs)∧xs.length + zs.length≤sizeLine∧∀ p,H p=none→Q (.ref p) (upd H p (.lst (xs ++ zs)))
theorem zaR:OpR X (binaryOp .Add) rCat:=by
 intro pins s σ H x y v u Q I rx ry h
 obtain ⟨l,b,xs,zs,rfl,rfl,hH,hB,hz,q⟩:=h
 cases rx
 cases ry
 obtain ⟨z,its,n,r,hl,e⟩:=I.lstM hH
 obtain ⟨z2,its2,n2,r2,hl2,e2⟩:=I.lstM hB
 refine PySem.P.add_list e e2 ?_ (by rw [List.size_toArray,List.size_toArray];omega)
 have ea:its.toArray ++ its2.toArray=(its ++ its2).toArray:=by simp
 rw [ea]
 exact ⟨.ref _,_,I.lnew (t':=s.toks) (r.append r2) (by rw [List.length_append];omega),rfl,q _ I.fresh⟩
noncomputable def rRep:R2:=fun x y H Q=>∃ l k xs,x=.ref l∧y=.int k∧H l=some (.lst xs)∧-(2 ^ 63)≤k∧k < 2 ^ 63∧xs.length * k.toNat≤sizeLine ∧
 ∀ p,H p=none→Q (.ref p) (upd H p (.lst (List.replicate k.toNat xs).flatten))
theorem Xb4 {α:Type} (xs:List α) (k:Nat):(List.replicate k xs).flatten.length=k * xs.length:=by
 induction k with
 | zero=>simp
 | succ k ih=>rw [List.replicate_succ,List.flatten_cons,List.length_append,ih,Nat.succ_mul,Nat.add_comm]
theorem yb1:OpR X (binaryOp .Mult) rRep:=by
 intro pins s σ H x y v u Q I rx ry h
 obtain ⟨l,k,xs,rfl,rfl,hH,h1,h2,hz,q⟩:=h
 cases rx
 obtain ⟨t,rfl⟩:=ry
 obtain ⟨z,its,n,r,hl,e⟩:=I.lstM hH
 have hlen:its.toArray.size * k.toNat≤sizeLine:=by rw [List.size_toArray,← hl];exact hz
 have hcap:¬ its.toArray.size * k.toNat > (2 ^ 63 - 1) / 8:=by
  have:(sizeLine:Nat)≤(2 ^ 63 - 1) / 8:=by decide
  omega
 have hfit:¬ (!Builtin.List.listFitsIndex k)=true:=by
  rw [fitsIndex_both h1 h2]
  exact Bool.false_ne_true
 have hlong:¬ Builtin.List.listTooLong (its.toArray.size * k.toNat)=true:=by
  rw [notLongL hlen]
  exact Bool.false_ne_true
 have hnew:List.foldl (fun x1 x2=>x1 ++ x2) #[] (List.replicate (if its.toArray.isEmpty=true then 0 else k.toNat) its.toArray)=(List.replicate k.toNat its).flatten.toArray:=by
  have f0:∀ m:Nat,List.foldl (fun x1 x2=>x1 ++ x2) #[] (List.replicate m its.toArray)=(List.replicate m its).flatten.toArray:=fun m=>by
   have:=xbe its m []
   rw [List.nil_append] at this
   exact this
  rw [f0]
  cases its with
  | nil=>simp
  | cons a r'=>rw [if_neg (by simp)]
 refine wpAny_binaryOp_repeat_ref (T:="list") (U:="int") (by decide) ⟨_,e,rfl⟩ (fun s'=>typeIs_int s' k t) noFill_list_mul F.fills_int_mul F.slot_int_rmul repeat_list F.slot_int_index.lookup
  (call_meets F.slot_int_rmul (typeIs_int s k t) F.entry_int_rmul (F.args_int_rmul_2 _ _) (int___rmul___int_list k t l its.toArray n)
   ⟨e,rfl,⟨_,e,rfl⟩,call_meets F.slot_list_mul ⟨_,e,rfl⟩ F.entry_list_mul (F.args_list_mul_2 _ _) (AutoListH.list___mul___list_int_3 l its.toArray n k t hfit hcap hlong) ⟨e,?_⟩⟩)
 rw [hnew]
 exact ⟨.ref _,_,I.lnew (t':=s.toks) (r.rep k.toNat) (by rw [Xb4,Nat.mul_comm];exact hz),rfl,q _ I.fresh⟩
end
section
variable {prog:Program} {w:World} {A:Around} {E:Value→Shared→Prop} {s:Shared}
end
section
variable {X:Cx}
end
end L2
namespace L2
open PySem PySem.Spec PyProof.Rows
section
variable {κ:Type} [DecidableEq κ]
noncomputable def valV (kvs:List (κ×V)) (k:κ):Option V:=(kvs.find? fun kv=>decide (kv.1=k)).map (·.2)
noncomputable def putK (kvs:List (κ×V)) (k:κ) (v:V):List (κ×V) :=
 if (kvs.any fun kv=>decide (kv.1=k))=true then kvs.map (fun kv=>if kv.1=k then (kv.1,v) else kv) else kvs ++ [(k,v)]
theorem ya7 {p:κ×V} {r:List (κ×V)} {k:κ} (e:p.1=k):valV (p :: r) k=some p.2:=by simp [valV,List.find?_cons,e]
theorem Za7 {p:κ×V} {r:List (κ×V)} {k:κ} (e:¬ p.1=k):valV (p :: r) k=valV r k:=by simp [valV,List.find?_cons,e]
theorem Zbq (k:κ):∀ kvs:List (κ×V),(kvs.any fun kv=>decide (kv.1=k))=(valV kvs k).isSome
 | []=>rfl
 | p :: r=>by
  rw [List.any_cons]
  by_cases e:p.1=k
  ·simp only [ya7 e,decide_eq_true e,Bool.true_or,Option.isSome_some]
  ·rw [Za7 e,decide_eq_false e,Bool.false_or];exact Zbq k r
theorem YaY (kvs:List (κ×V)) (k:κ) (v:V):(putK kvs k v).length≤kvs.length + 1:=by
 unfold putK
 split
 ·rw [List.length_map];omega
 ·rw [List.length_append,List.length_cons,List.length_nil];omega
theorem RelO.isSome_eq {o:Option V} {u:Option Value} (r:RelO o u):o.isSome=u.isSome:=by
 cases o with
 | none=>cases u with
  | none=>rfl
  | some _=>exact (show False from r).elim
 | some _=>cases u with
  | none=>exact (show False from r).elim
  | some _=>rfl
theorem KV.val {kvs:List (κ×V)} {vs:List (κ×Value)} (r:KV kvs vs) (k:κ):RelO (valV kvs k) (valueAt vs k):=by
 unfold KV at r
 induction r with
 | nil=>exact True.intro
 | @cons p q ps qs h t ih =>
  obtain ⟨h1,h2⟩:=h
  by_cases e:p.1=k
  ·have e':q.1=k:=h1.symm.trans e
   have b:valueAt (q :: qs) k=some q.2:=by simp [valueAt,List.find?_cons,e']
   rw [ya7 e,b];exact h2
  ·have e':¬ q.1=k:=fun z=>e (h1.trans z)
   have b:valueAt (q :: qs) k=valueAt qs k:=by simp [valueAt,List.find?_cons,e']
   rw [Za7 e,b];exact ih
theorem KV.any {kvs:List (κ×V)} {vs:List (κ×Value)} (r:KV kvs vs) (k:κ):(kvs.any fun kv=>decide (kv.1=k))=vs.any fun kv=>decide (kv.1=k):=by
 unfold KV at r
 induction r with
 | nil=>rfl
 | cons h t ih=>rw [List.any_cons,List.any_cons,ih,h.1]
theorem KV.repl {kvs:List (κ×V)} {vs:List (κ×Value)} (r:KV kvs vs) (k:κ) {y:V} {u:Value} (ry:RelV y u) :
  KV (kvs.map fun kv=>if kv.1=k then (kv.1,y) else kv) (vs.map fun kv=>if kv.1=k then (kv.1,u) else kv):=by
 unfold KV at r ⊢
 induction r with
 | nil=>exact .nil
 | @cons p q ps qs h t ih =>
  rw [List.map_cons,List.map_cons]
  refine .cons ?_ ih
  obtain ⟨h1,h2⟩:=h
  by_cases e:p.1=k
  ·rw [if_pos e,if_pos (h1.symm.trans e)];exact ⟨h1,ry⟩
  ·rw [if_neg e,if_neg (fun z=>e (h1.trans z))];exact ⟨h1,h2⟩
theorem KV.put {kvs:List (κ×V)} {vs:List (κ×Value)} (r:KV kvs vs) (k:κ) {y:V} {u:Value} (ry:RelV y u):KV (putK kvs k y) (stored vs k u):=by
 unfold putK stored
 rw [r.any k]
 by_cases e:(vs.any fun kv=>decide (kv.1=k))=true
 ·rw [if_pos e,if_pos e];exact r.repl k ry
 ·rw [if_neg e,if_neg e];exact Paired.snoc r ⟨rfl,ry⟩
theorem KV.length {kvs:List (κ×V)} {vs:List (κ×Value)} (r:KV kvs vs):kvs.length=vs.length:=Paired.length r
end
theorem zb5 {P:Program} {w:World} {k:Key} {u:Value} (r:RelV (kV k) u):(mixKind P w).is k u=true:=by
 cases k with
 | inl i=>obtain ⟨t,e⟩:=(show ∃ t,u=Value.int i t from r);subst e;exact zbl P w i t
 | inr x=>obtain ⟨t,e⟩:=(show ∃ t,u=Value.str x t from r);subst e;exact ybl P w x t
theorem Xbe {P:Program} {w:World}:∀ {ks:List Key} {us:List Value},Vals (ks.map kV) us→ItemsAre (mixKind P w) ks us
 | [],_,r=>by rw [List.map_nil] at r;cases r;exact .nil
 | k :: ks,_,r=>by
  rw [List.map_cons] at r
  cases r with
  | cons h t=>exact .cons (zb5 h) (Xbe t)
abbrev KT (H:Hp):List (List Key×V)→List (List Key×Addr×Value)→Prop:=Paired fun p q=>p.1=q.1∧H q.2.1=some (.tup (p.1.map kV))∧RelV p.2 q.2.2
theorem KT.val {H:Hp} {kvs:List (List Key×V)} {xs:List (List Key×Addr×Value)} (r:KT H kvs xs) (k:List Key):RelO (valV kvs k) ((atKey xs k).map (·.2)):=by
 induction r with
 | nil=>exact True.intro
 | @cons p q ps qs h t ih =>
  obtain ⟨h1,_,h2⟩:=h
  by_cases e:p.1=k
  ·have e':q.1=k:=h1.symm.trans e
   have b:atKey (q :: qs) k=some q.2:=by simp [atKey,List.find?_cons,e']
   rw [ya7 e,b];exact h2
  ·have e':¬ q.1=k:=fun z=>e (h1.trans z)
   have b:atKey (q :: qs) k=atKey qs k:=by simp [atKey,List.find?_cons,e']
   rw [Za7 e,b];exact ih
theorem KT.repl {H:Hp} {kvs:List (List Key×V)} {xs:List (List Key×Addr×Value)} (r:KT H kvs xs) (k:List Key) {y:V} {u:Value} (ry:RelV y u) :
  KT H (kvs.map fun kv=>if kv.1=k then (kv.1,y) else kv) (xs.map (putAt k u)):=by
 induction r with
 | nil=>exact .nil
 | @cons p q ps qs h t ih =>
  rw [List.map_cons,List.map_cons]
  refine .cons ?_ ih
  obtain ⟨h1,h2,h3⟩:=h
  unfold putAt
  by_cases e:p.1=k
  ·rw [if_pos e,if_pos (h1.symm.trans e)];exact ⟨h1,h2,ry⟩
  ·rw [if_neg e,if_neg (fun z=>e (h1.trans z))];exact ⟨h1,h2,h3⟩
theorem KT.put {H:Hp} {kvs:List (List Key×V)} {xs:List (List Key×Addr×Value)} (r:KT H kvs xs) (k:List Key) {b:Addr} {y:V} {u:Value} (hb:H b=some (.tup (k.map kV))) (ry:RelV y u) :
  KT H (putK kvs k y) (storedH xs k b u):=by
 have e:(kvs.any fun kv=>decide (kv.1=k))=(atKey xs k).isSome:=by
  rw [Zbq,(r.val k).isSome_eq,Option.isSome_map]
 unfold putK storedH
 rw [e]
 by_cases q:(atKey xs k).isSome=true
 ·rw [if_pos q,if_pos q];exact r.repl k ry
 ·rw [if_neg q,if_neg q];exact Paired.snoc r ⟨rfl,hb,ry⟩
theorem KT.keeps {H H':Hp} {kvs:List (List Key×V)} {xs:List (List Key×Addr×Value)} (r:KT H kvs xs) (ht:∀ b ys,H b=some (.tup ys)→H' b=some (.tup ys)):KT H' kvs xs :=
 Paired.mapP r fun _ _ z=>⟨z.1,ht _ _ z.2.1,z.2.2⟩
section
variable {P:Program} {w:World} {H:Hp} {h:Heap} {a:Addr}
theorem rd_of {u:HO} (ok:HOk P w H h) (e:Rd H a u):ObjOk P w H h a u:=e.ok ok
theorem dk_rd {kvs:List (Key×V)} (ok:HOk P w H h) (e:Rd H a (.dK kvs)):kvs.length≤sizeLine∧(a == sysModules)=false∧∃ vs,KV kvs vs∧h.DictOf (mixKind P w) a vs :=
 show ObjOk P w H h a (.dK kvs) from rd_of ok e
theorem dk_of {kvs:List (Key×V)} (ok:HOk P w H h) (e:H a=some (.dK kvs)):kvs.length≤sizeLine∧(a == sysModules)=false∧∃ vs,KV kvs vs∧h.DictOf (mixKind P w) a vs:=dk_rd ok (.inl e)
theorem Ya4 {ks:List Key} (ok:HOk P w H h) (e:H a=some (.tup (ks.map kV))):(tupleKind (mixKind P w)).is h ks a:=by
 obtain ⟨_,its,r,o,h1,h2,_,n,h3⟩:=(show ObjOk P w H h a (.tup (ks.map kV)) from ok a _ e)
 exact ⟨o,its.toArray,n,h1,h2,h3,by simpa using Xbe r⟩
theorem dt_rd {kvs:List (List Key×V)} (ok:HOk P w H h) (e:Rd H a (.dT kvs)):kvs.length≤sizeLine∧(a == sysModules)=false ∧
  ∃ xs,KT H kvs xs∧h.DictOfH (tupleKind (mixKind P w)) a xs:=by
 obtain ⟨z,y,xs,r,o,es,ep,h1,h2,h3,h4,h5⟩:=(show ObjOk P w H h a (.dT kvs) from rd_of ok e)
 refine ⟨z,y,xs,r,o,es,ep,h1,h2,h3,h4,fun x hx=>?_,h5⟩
 have all:∀ {l:List (List Key×V)} {m:List (List Key×Addr×Value)},KT H l m→∀ x∈m,(tupleKind (mixKind P w)).is h x.1 x.2.1:=by
  intro l m q
  induction q with
  | nil=>intro x hx;exact nomatch hx
  | @cons p q ps qs hq t ih =>
   intro x hx
   rcases List.mem_cons.mp hx with e | hx
   ·subst e
    exact Ya4 ok (by rw [← hq.1];exact hq.2.1)
   ·exact ih x hx
 exact all r x hx
theorem dt_of {kvs:List (List Key×V)} (ok:HOk P w H h) (e:H a=some (.dT kvs)):kvs.length≤sizeLine∧(a == sysModules)=false ∧
  ∃ xs,KT H kvs xs∧h.DictOfH (tupleKind (mixKind P w)) a xs:=dt_rd ok (.inl e)
end
noncomputable def DGet (H:Hp) (a:Addr) (y:V) (r:Option V):Prop :=
 (∃ kvs k,Rd H a (.dK kvs)∧y=kV k∧r=valV kvs k)∨∃ kvs k b,Rd H a (.dT kvs)∧y=.ref b∧H b=some (.tup (k.map kV))∧r=valV kvs k
noncomputable def DPut (H:Hp) (a:Addr) (y v:V) (H':Hp):Prop :=
 (∃ kvs k,H a=some (.dK kvs)∧y=kV k∧kvs.length < sizeLine∧H'=upd H a (.dK (putK kvs k v))) ∨
 ∃ kvs k b,H a=some (.dT kvs)∧y=.ref b∧H b=some (.tup (k.map kV))∧kvs.length < sizeLine∧H'=upd H a (.dT (putK kvs k v))
theorem DGet.k {H:Hp} {a:Addr} {kvs:List (Key×V)} {k:Key} (e:H a=some (.dK kvs)):DGet H a (kV k) (valV kvs k):=.inl ⟨kvs,k,.inl e,rfl,rfl⟩
theorem DPut.k {H:Hp} {a:Addr} {kvs:List (Key×V)} {k:Key} {v:V} (e:H a=some (.dK kvs)) (hl:kvs.length < sizeLine):DPut H a (kV k) v (upd H a (.dK (putK kvs k v))):=.inl ⟨kvs,k,e,rfl,hl,rfl⟩
section
variable {X:Cx} {pins:List (Addr×Obj)} {σ:St} {H:Hp} {s:Shared} {a:Addr} {y v:V} {u r:Value} {o:Option V} {A:Around} {E:Value→Shared→Prop}
theorem Inv.big (I:Inv X pins σ H s):sysModules < s.heap.objs.size:=by
 have h:mainGlobals < s.heap.objs.size:=(I.mod.glob.keeps I.bk).lt
 exact Nat.lt_trans (by decide) h
theorem yb5 {Q:Value→Shared→Prop} (hu:A.units + 1 < cLine) (I:Inv X pins σ H s) (g:DGet H a y o) (ry:RelV y u) (h:∀ s',Inv X pins σ H s'→Q (.bool (!o.isSome)) s') :
  wpAny (model X.prog X.w) A (compareOp .NotIn u (.ref a)) Q E s:=by
 rcases g with ⟨kvs,k,e,ey,l⟩ | ⟨kvs,k,b,e,ey,eb,l⟩
 ·subst ey
  obtain ⟨z,hd,vs,rel,dd⟩:=dk_rd I.hok e
  refine wpAny_notIn_of (zb5 ry) hd dd.mapOf ?_
  rw [← (rel.val k).isSome_eq,← l]
  exact h _ (I.tok _)
 ·subst ey
  cases (show u=Value.ref b from ry)
  obtain ⟨z,hd,xs,rel,dd⟩:=dt_rd I.hok e
  refine wpAny_notIn_heap (tupleKind_room_in1 hu) (Ya4 I.hok eb) hd dd ?_
  have q:=(rel.val k).isSome_eq
  rw [Option.isSome_map] at q
  rw [← q,← l]
  exact h _ (I.tok _)
theorem Xbl {h':Heap} {t':Nat} {ob:HO} (I:Inv X pins σ H s) (mu:Mut (H a)) (hs:Heap.SameBut a s.heap h') (he:∃ q,h'.get? a=some q) (new:ObjOk X.prog X.w (upd H a ob) h' a ob) :
  Inv X pins σ (upd H a ob) { s with heap:=h',toks:=t' } :=
 I.write (x:=a) (e:=a) mu (.inl rfl) (fun b q hb z=>(hs.2 b hb).trans z) he new
theorem dk_new {P:Program} {w:World} {H':Hp} {h':Heap} {kvs:List (Key×V)} {vs:List (Key×Value)} (z:kvs.length≤sizeLine) (hd:(a == sysModules)=false) (rel:KV kvs vs) (dd:h'.DictOf (mixKind P w) a vs) :
  ObjOk P w H' h' a (.dK kvs):=⟨z,hd,vs,rel,dd⟩
theorem ybF {H':Hp} {Q:Unit→Shared→Prop} (hu:A.units + 1 < cLine) (I:Inv X pins σ H s) (g:DPut H a y v H') (ry:RelV y u) (rv:RelV v r) (h:∀ s',Inv X pins σ H' s'→Q () s') :
  wpAny (model X.prog X.w) A (setItem (.ref a) u r) Q E s:=by
 rcases g with ⟨kvs,k,e,ey,l,eH⟩ | ⟨kvs,k,b,e,ey,eb,l,eH⟩
 ·subst ey eH
  obtain ⟨z,hd,vs,rel,dd⟩:=dk_of I.hok e
  have hz:vs.length≤sizeLine:=by rw [← rel.length];exact z
  have hl:(putK kvs k v).length≤sizeLine:=by have:=YaY kvs k v;omega
  refine wpAny_setItem_pairs (hsz:=hz) (zb5 ry) dd fun h' dd' hs=>h _ ?_
  have he:∃ q,h'.get? a=some q:=let ⟨q,_,_,hq,_⟩:=dd';⟨q,hq⟩
  exact Xbl I (by rw [e];exact True.intro) hs he (dk_new hl hd (rel.put k rv) dd')
 ·subst ey eH
  cases (show u=Value.ref b from ry)
  obtain ⟨z,hd,xs,rel,dd⟩:=dt_of I.hok e
  have hz:xs.length≤sizeLine:=by rw [← Paired.length rel];exact z
  have hl:(putK kvs k v).length≤sizeLine:=by have:=YaY kvs k v;omega
  refine wpAny_setItem_heap (hsz:=hz) (tupleKind_room_in1 hu) (Ya4 I.hok eb) dd fun h' dd' hs=>h _ ?_
  obtain ⟨q,es,ep,hq,h2,h3,h4,_,h5⟩:=dd'
  refine Xbl I (by rw [e];exact True.intro) hs ⟨q,hq⟩ ⟨hl,hd,_,(rel.put k eb rv).keeps fun c ys ec=>?_,q,es,ep,hq,h2,h3,h4,h5⟩
  rw [zaj (Zb3 ec e (fun z=>nomatch z))]
  exact ec
end
section
variable {X:Cx} {pins:List (Addr×Obj)} {σ:St} {H:Hp} {s:Shared} {a:Addr} {kvs:List (Key×V)} {k:Key} {u:Value} {A:Around} {E:Value→Shared→Prop}
end
noncomputable def NoSl (i:Expr):Prop:=∀ ov iv,subscripted i false ov iv=operate [ov,iv] (getItem ov iv)
theorem Zb5 {prog:Program} {w:World} {A:Around} {E:Value→Shared→Prop} {s:Shared} {env:Env} {value slice:Expr} {pos:Pos} {T id:String} {Q:Value→Shared→Prop}
  (hl:typeLookup (.type T) "__getitem__" = pure (some (.builtin id))) (hs:NoSl slice)
  (h:wpAny (model prog w) A (eval value env) (fun o s₁=>wpAny (model prog w) A (eval slice env) (fun i s₂=>s₂.TypeIs o T∧wpAny (model prog w) A (getItem o i) Q E s₂) E s₁) E s) :
  wpAny (model prog w) A (eval (.Subscript value slice pos) env) Q E s:=by
 refine Subscript_ (wpAny_mono h (fun o s₁ h₁=>wpAny_mono h₁ (fun i s₂ h₂=>?_) fun _ _ x=>x) fun _ _ x=>x)
 obtain ⟨hT,h₂⟩:=h₂
 unfold subscriptTail
 refine wpAny_bind ?_
 rw [getitemInPython_of_ne hT.not_modules]
 refine wpAny_bind (wpAny_specialOf hT hl ?_)
 have fin:wpAny (model prog w) A (subscripted slice false o i) (fun r s₃=>wpAny (model prog w) A (letTemporaryGo value o r >>= fun _=>pure r) Q E s₃) E s₂:=by
  rw [hs o i]
  exact wpAny_operating (wpAny_mono h₂ (fun r s₃ h₃=>wpAny_bind (wpAny_letTemporaryGo (wpAny_pure h₃))) fun _ _ x=>x)
 first
  | exact wpAny_pure (wpAny_bind fin)
  | exact wpAny_bind (wpAny_pure (wpAny_bind fin))
  | exact wpAny_bind fin
noncomputable def tDNotIn (ty td:TE):TE:=fun σ H Q=>ty σ H fun y H1=>td σ H1 fun x H2=>∃ a o,x=.ref a∧DGet H2 a y o∧Q (.bl (!o.isSome)) H2
noncomputable def sDPut (td ty tv:TE):TS:=fun D σ H=>tv σ H fun v H1=>td σ H1 fun x H2=>ty σ H2 fun y H3=>∃ a H4,x=.ref a∧DPut H3 a y v H4∧D.nx σ H4
section
variable {X:Cx} {o i e value:Expr} {pos pos' tpos:Pos} {td ty tv:TE}
theorem ZbF (hu:X.A.units + 1 < cLine) (hi:PE X i ty) (ho:PE X o td):PC X .NotIn i o (tDNotIn ty td):=by
 intro pins s σ H Q I h
 refine thn (hi pins s σ H _ I h) fun iv s1 ⟨y,H1,I1,ry,q1⟩=>thn (ho pins s1 σ H1 _ I1 q1) fun u s2 ⟨x,H2,I2,rx,a,ov,ex,g,q2⟩=>?_
 subst ex
 obtain rfl:u=Value.ref a:=rx
 exact yb5 hu I2 g ry fun s3 I3=>⟨.bl (!ov.isSome),H2,I3,rfl,q2⟩
theorem Yb5 (hu:X.A.units + 1 < cLine) (ho:PE X o td) (hi:PE X i ty) (hv:PE X value tv) (hs:swapsWith value (some (.Subscript o i pos')) pos.line X.env=pure false) :
  PS X (.Assign [.Subscript o i pos'] value pos) (sDPut td ty tv):=by
 intro pins s σ H D I h
 refine wpAny_Assign_Subscript (thn (hv pins s σ H _ I h) fun r s1 ⟨v,H1,I1,rv,q1⟩=>thn (ho pins s1 σ H1 _ I1 q1) fun u s2 ⟨x,H2,I2,rx,q2⟩=>thn (hi pins s2 σ H2 _ I2 q2) fun iv s3 ⟨y,H3,I3,ry,a,H4,ex,g,q3⟩=>?_) hs
 subst ex
 obtain rfl:u=Value.ref a:=rx
 exact ybF hu I3 g ry rv fun s4 I4=>⟨σ,H4,I4,q3⟩
end
theorem ybT {P:Program} {w:World} {H:Hp} (h:Heap) (hb:sysModules < h.objs.size):ObjOk P w H (h.push { cls:=.type "dict",data:=.dict #[] }) h.objs.size (.dK []) :=
 ⟨Nat.zero_le _,beq_eq_false_iff_ne.mpr (Ne.symm (Nat.ne_of_lt hb)),[],.nil,Heap.DictOf.new h⟩
noncomputable def tDNewK:TE:=fun _ H Q=>∀ p,H p=none→Q (.ref p) (upd H p (.dK []))
section
variable {X:Cx} {pos:Pos}
theorem ZbT:PE X (.Dict [] [] pos) tDNewK:=fun pins s σ H Q I h =>
 wpAny_Dict_empty ⟨.ref s.heap.objs.size,_,I.laid (a:=s.heap.objs.size) (o:=.dK []) (t':=s.toks) (fun _ _ q=>Heap.get?_push_of_some _ q) (Nat.le_refl _) (ybT s.heap I.big),rfl,h _ (I.hok.fresh (Nat.le_refl _))⟩
end
section
variable {X:Cx} {pins:List (Addr×Obj)} {σ:St} {H:Hp} {s:Shared} {a:Addr} {y d:V} {u r:Value} {o:Option V} {A:Around} {E:Value→Shared→Prop}
end
section
variable {X:Cx} {o e f:Expr} {apos cpos:Pos} {td ty tx:TE}
end
section
variable {X:Cx} {pins:List (Addr×Obj)} {σ:St} {H:Hp} {s:Shared} {a:Addr} {kvs:List (Key×V)} {A:Around} {E:Value→Shared→Prop}
end
section
variable {X:Cx} {pins:List (Addr×Obj)} {σ:St} {H:Hp} {s:Shared} {a:Addr} {y:V} {u:Value} {A:Around} {E:Value→Shared→Prop}
end
end L2
namespace Att
open PySem PySem.W PySem.Calls PyProof.Rows
theorem xaY {P:Params} {h:Heap}:∀ (ns:List Int) (vs:List Value),WellAll P h vs (ns.map WData.int)→IntsAre vs ns:=by
 intro ns
 induction ns with
 | nil =>
  intro vs w
  rw [List.map_nil] at w
  cases w
  exact .nil
 | cons n ns ih =>
  intro vs w
  rw [List.map_cons] at w
  cases w with
  | cons a b =>
   cases a
   exact .cons _ _ (ih _ b)
theorem YbF {l:OpenLaw} {n:Nat} (hn:l.most=some n) {P:Params} {h:Heap} {args:List WData} {vals:List Value}
  (hpre:l.row.toRowW.claim.pre args=true) (hwl:WellAll P h vals args) :
  ∃ a vs ns,vals=[Value.ref a]∧args=[WData.list (ns.map WData.int)]∧h.get? a=some { cls:=.type "list",data:=.seq vs.toArray }∧IntsAre vs ns∧ns.length≤n:=by
 have hsh:WShape.hasAll [] args [.list .int]=true:=(pre_splitW hpre).1
 have hc:l.pre.holds [] { args:=args }=true:=(pre_splitW hpre).2
 obtain ⟨d,r,rfl,h1,h2⟩:=hasAllW_cons hsh
 obtain rfl:=hasAllW_nil h2
 obtain ⟨xs,rfl,h3⟩:=hasW_list h1
 obtain ⟨ns,rfl⟩:=items_int h3
 have hlen:ns.length≤n:=by
  unfold OpenLaw.pre at hc
  have h4:(WTm.not (.lt (.lit (.int (n:Int))) (.len (.arg 0)))).holds [] { args:=[.list (ns.map .int)] }=true:=by
   have h4:=(holds_andW hc).1
   rw [hn] at h4
   exact h4
  have h5:=condW_of h4 (w_not (w_lt w_lit (w_len_list (w_arg rfl))))
  rw [List.length_map] at h5
  refine Nat.le_of_not_lt fun q=>?_
  have q':(n:Int) < ((ns.length:Nat):Int):=by omega
  first
   | (rw [decide_eq_true q'] at h5;exact absurd h5 (by decide))
   | (simp at h5;omega)
 cases hwl with
 | cons w1 w2 =>
  cases w2
  cases w1 with
  | list ho hall=>exact ⟨_,_,ns,rfl,rfl,ho,xaY ns _ hall,hlen⟩
theorem xbF (l:OpenLaw) (args:List WData):l.row.toRowW.claim.post args (.bool true) args=true :=
 postW_of (r:=l.row.toRowW) (X:=(true == true))
  (show WShape.has [] (.bool true) .bool=true by first | rfl | decide | simp [WShape.has,WShape.arms,WShape.armsAll])
  (show (WTm.eq .res (.lit (.bool true))).value [] { args:=args,res:=some (.bool true),after:=args }=some (.bool (true == true)) from w_eq_bool (w_res rfl) w_lit) rfl
theorem zbm {l:OpenLaw} {n:Nat} {q:Program} {loose:List Str} {XP:(Str→Option Value)→Heap→Prop} {YP:World→Heap→Prop} {d:DefRec}
  (hn:l.most=some n) (hdf:d.params.defaults=[])
  (call:∀ (w:World) (s₀ s₁:Shared) (mg mb:Str→Option Value) (fa:Addr) (o:Obj) (pm cd doc:Value) (a:Addr) (vs:List Value) (ns:List Int),
   Ground q loose [] XP w s₀ mg mb s₁.heap→YP w s₁.heap →
   s₁.heap.get? fa=some o→o.data=.func (docDef d.name d.params d.body d.scope pm cd doc)→s₁.heap.CodeRec cd d.name→mg d.name=some (.ref fa) →
   s₁.heap.get? a=some { cls:=.type "list",data:=.seq vs.toArray }→IntsAre vs ns→ns.length≤n→s₁.gens=#[] →
   codeAny (model l.prog w) callerA (.call (.ref fa) ⟨[.ref a],[]⟩) (fun r s'=>r=.ok (.ret (.bool true))∧OldK s₁.heap s'.heap∧s'.os=s₁.os∧AllBare s'.gens) s₁) :
  WalkO q loose XP YP l.row.toRowW d [] (fun f vs=>PySem.call f vs):=by
 intro w s₀ s₁ mg mb G Y fa o pm cd doc dV kV ho hd hcd hD hmg hg args vals as hpre hlay hrd hwl hlo
 obtain rfl:dV=.none:=Dflts.none hD hdf
 obtain rfl:kV=.none:=Dflts.noKw hD
 obtain ⟨a,vs,ns,rfl,rfl,hobj,hints,hlen⟩:=YbF hn hpre hwl
 refine enter_call (codeAny_mono (call w s₀ s₁ mg mb fa o pm cd doc a vs ns G Y ho (fd_plain hd) hcd hmg hobj hints hlen hg) fun r s' hq=>?_)
 obtain ⟨rfl,h2,h3,h4⟩:=hq
 exact ⟨.inl ⟨.bool true,.bool true,[],rfl,fun _=>rfl,.bool true,xbF l _,fun _=>⟨List.Pairwise.nil,fun _ hm=>(nomatch hm)⟩⟩,h2,h3,h4⟩
section
variable {prog:Program} {w:World} {A:Around} {E:Value→Shared→Prop} {s:Shared} {K:Frag}
end
end Att
namespace L2
open PySem PySem.Spec PyProof.Rows
theorem zbf:∀ {vs:List Value} {ns:List Int},IntsAre vs ns→Vals (ns.map V.int) vs
 | _,_,.nil=>.nil
 | _,_,.cons n t h=>.cons ⟨t,rfl⟩ (zbf h)
noncomputable def Only (H:Hp):Prop:=∀ b,H b=none∨∃ o xs,H b=some (.frz o (.lst xs))
theorem YbT {P:Program} {w:World} {K:PySem.W.Frag} {mg mb:Str→Option Value} {CX:CXT} {k:Nat} {fa a:Addr} {fd:FuncData} {x:Str} {sp:Sp} {s₁:Shared} {vs:List Value} {ns:List Int}
  (KX:K.In s₁.heap) (hns:s₁.heap.Ns mainGlobals mg) (hb:s₁.heap.Ns builtinsNs mb) (hbb:∀ x:Str,x≠"__name__" → mb x=bootBuiltins x) (hlim:s₁.heap.NoLimit) (hg:s₁.gens=#[])
  (ha:s₁.heap.get? a=some { cls:=.type "list",data:=.seq vs.toArray }) (hi:IntsAre vs ns) (hl:ns.length≤sizeLine) (hr:Room k callerA)
  (F:∀ base:Heap,K.In base→base.Ns mainGlobals mg→FnOk P w K mg base CX k fa fd [x] sp) (hbind:∀ (s:Shared) (u:Value),BindsTo s fd ⟨[u],[]⟩ [(x,u)])
  (hsp:∀ H:Hp,Only H→SqL K H a (ns.map V.int)→sp [.ref a] H (fun v _=>v=.bl true) fun _ _ _=>False)
  (hCX:∀ H e s',CX [] H s₁ (fun _ _ _=>False) e s'→False) :
  codeAny (model P w) callerA (.call (.ref fa) ⟨[.ref a],[]⟩) (fun r s'=>r=.ok (.ret (.bool true))∧OldK s₁.heap s'.heap∧s'.os=s₁.os∧AllBare s'.gens) s₁:=by
 have rv:=zbf hi
 have lenV:=hi.length
 have core:∀ H:Hp,Only H→SqL K H a (ns.map V.int)→HOk P w H s₁.heap→(∀ b,H b≠none→b=a)→(H a≠none→K.lookup a=none) →
   codeAny (model P w) callerA (.call (.ref fa) ⟨[.ref a],[]⟩) (fun r s'=>r=.ok (.ret (.bool true))∧OldK s₁.heap s'.heap∧s'.os=s₁.os∧AllBare s'.gens) s₁:=by
  intro H hO hS hok hA hK
  have base_of:∀ {b:Addr} {o:Obj},s₁.heap.get? b=some o→H b=none→(hidT s₁.heap H).get? b=some o:=fun e n=>zbS e n
  have noA:∀ {b:Addr} {o:Obj} {es:Array DictEntry} {ep:Nat},s₁.heap.get? b=some o→o.data=.dict es ep→H b=none:=fun {b o es ep} e d=>by
   cases q:H b with
   | none=>rfl
   | some u =>
    have e':b=a:=hA b (by rw [q];simp)
    subst e'
    rw [ha] at e;cases e
    have d':Data.seq vs.toArray _=Data.dict es ep:=d
    cases d'
  have nsK:∀ {b:Addr} {m:Str→Option Value},s₁.heap.Ns b m→(hidT s₁.heap H).Ns b m:=fun {b m} ⟨o,es,ep,e,d,r⟩=>⟨o,es,ep,base_of e (noA e d),d,r⟩
  have hKb:K.In (hidT s₁.heap H):=fun b o e=>base_of (KX b o e) (by
   cases q:H b with
   | none=>rfl
   | some u =>
    have e':b=a:=hA b (by rw [q];simp)
    subst e'
    rw [hK (by rw [q];simp)] at e;cases e)
  have hM:Mod K mg (hidT s₁.heap H):=⟨hKb,nsK hns,⟨mb,nsK hb,hbb⟩,let ⟨mc,h1,h2⟩:=hlim;⟨mc,nsK h1,h2⟩⟩
  have e0:Env0 P w K mg (hidT s₁.heap H) callerA [] s₁ H:=⟨rfl,hM,fun b o e=>Yb3 e,Nat.le_of_eq (zbC _ _),trivial,fun b hb=>absurd (show b∈([]:List Addr) from hb) (by simp),hok,.of_eq hg⟩
  refine codeAny_mono ((F _ hKb (nsK hns)).run callerA [] s₁ H ⟨[.ref a],[]⟩ [.ref a] [.ref a] _ _ hr e0 (hbind s₁ (.ref a)) (.cons rfl .nil) (hsp H hO hS)) fun r s' h=>?_
  cases r with
  | error e=>exact (hCX H e s' h).elim
  | ok fl =>
   cases fl with
   | next=>exact False.elim h
   | brk=>exact False.elim h
   | cont=>exact False.elim h
   | ret u =>
    obtain ⟨v,H',os,bare,un,hok',r',q⟩:=h
    have q':v=.bl true:=q
    subst q'
    obtain rfl:u=Value.bool true:=r'
    refine ⟨rfl,OldK.of_keep fun b o e=>?_,os,bare⟩
    cases q:H b with
    | none=>exact un.keep b o e q (by intro z;exact absurd (show b∈([]:List Addr) from z) (by simp)) (by simp)
    | some u =>
     rcases hO b with z | ⟨ob,xs,z⟩
     ·rw [q] at z;cases z
     ·have z2:=un.frzs b ob _ z
      obtain ⟨e1,_⟩:=hok b _ z
      obtain ⟨e2,_⟩:=hok' b _ z2
      rw [e] at e1;cases e1
      exact e2
 cases hk:K.lookup a with
 | some o =>
  have e:=KX a o hk
  rw [ha] at e
  cases e
  refine core (fun _=>none) (fun _=>.inl rfl) (.inr ⟨_,vs.toArray,_,hk,rfl,rfl,rfl,by rw [List.size_toArray,lenV];exact hl,by simpa using rv⟩) (fun b u z=>by have z':(none:Option HO)=some u:=z;cases z') (fun b z=>absurd rfl z) fun z=>absurd rfl z
 | none =>
  refine core (fun b=>if b=a then some (.frz { cls:=.type "list",data:=.seq vs.toArray } (.lst (ns.map V.int))) else none) (fun b=>?_) (.inl (.inr ⟨{ cls:=.type "list",data:=.seq vs.toArray },if_pos rfl⟩)) (fun b u z=>?_) (fun b z=>?_) fun _=>hk
  ·by_cases hb:b=a
   ·exact .inr ⟨_,_,if_pos hb⟩
   ·exact .inl (if_neg hb)
  ·by_cases hb:b=a
   ·have z':=(if_pos hb).symm.trans z
    cases z'
    subst hb
    exact ⟨ha,by rw [List.length_map];exact hl,vs,_,rv,ha⟩
   ·have z':=(if_neg hb).symm.trans z
    cases z'
  ·by_cases hb:b=a
   ·exact hb
   ·exact absurd (if_neg hb) z
end L2
namespace L2
open PySem PySem.Spec PyProof.Rows
abbrev KOf {K:PySem.W.Frag} {h:Heap} (_:K.In h):PySem.W.Frag:=K
theorem xb5 {l:PySem.W.OpenLaw} {n k:Nat} {q:Program} {loose:List Str} {XP:(Str→Option Value)→Heap→Prop} {YP:World→Heap→Prop} {d:DefRec} {K:Params→PySem.W.Frag} {CX:World→CXT} {sp:World→Sp} {x:Str}
  (hn:l.most=some n) (hn2:n≤sizeLine) (hdf:d.params.defaults=[]) (hr:Room k callerA)
  (hY:∀ (w:World) (h:Heap),YP w h→(K w.params).In h)
  (F:∀ (w:World) (mg:Str→Option Value) (fa:Addr) (h:Heap),(K w.params).In h→h.Ns mainGlobals mg→mg d.name=some (.ref fa) →
   ∃ fd:FuncData,(∀ (s:Shared) (u:Value),BindsTo s fd ⟨[u],[]⟩ [(x,u)]) ∧
    ∀ base:Heap,(K w.params).In base→base.Ns mainGlobals mg→FnOk l.prog w (K w.params) mg base (CX w) k fa fd [x] (sp w))
  (hsp:∀ (w:World) (H:Hp) (a:Addr) (ns:List Int),ns.length≤n→Only H→SqL (K w.params) H a (ns.map V.int)→sp w [.ref a] H (fun v _=>v=.bl true) fun _ _ _=>False)
  (hCX:∀ (w:World) (H:Hp) (s:Shared) (e:Value) (s':Shared),CX w [] H s (fun _ _ _=>False) e s'→False) :
  PySem.W.WalkO q loose XP YP l.row.toRowW d [] (fun f vs=>PySem.call f vs):=by
 refine Att.zbm hn hdf fun w s₀ s₁ mg mb fa o pm cd doc a vs ns G Y ho hd hcd hmg hobj hints hlen hg=>?_
 have KX:=hY w _ Y
 obtain ⟨fd,hb,hF⟩:=F w mg fa _ KX G.T.g hmg
 exact YbT KX G.T.g G.T.b G.T.builtins G.T.nolimit hg hobj hints (Nat.le_trans hlen hn2) hr hF hb (fun H hO hS=>hsp w H a ns hlen hO hS) fun H e s'=>hCX w H s₁ e s'
theorem xbT {l:PySem.W.OpenLaw} {n k:Nat} {q:Program} {loose:List Str} {XP:(Str→Option Value)→Heap→Prop} {YP:World→Heap→Prop} {d:DefRec} {K:Params→PySem.W.Frag} {CX:CXT} {sp:PySem.W.Frag→Sp} {x:Str}
  (hn:l.most=some n) (hn2:n≤sizeLine) (hdf:d.params.defaults=[]) (hr:Room k callerA)
  (hY:∀ (w:World) (h:Heap),YP w h→(K w.params).In h)
  (F:∀ (w:World) (mg:Str→Option Value) (fa:Addr) (h:Heap),(K w.params).In h→h.Ns mainGlobals mg→mg d.name=some (.ref fa) →
   ∃ fd:FuncData,(∀ (s:Shared) (u:Value),BindsTo s fd ⟨[u],[]⟩ [(x,u)]) ∧
    ∀ base:Heap,(K w.params).In base→base.Ns mainGlobals mg→FnOk l.prog w (K w.params) mg base CX k fa fd [x] (sp (K w.params)))
  (hsp:∀ (K:PySem.W.Frag) (H:Hp) (a:Addr) (ns:List Int),ns.length≤n→Only H→SqL K H a (ns.map V.int)→sp K [.ref a] H (fun v _=>v=.bl true) fun _ _ _=>False)
  (hCX:∀ (H:Hp) (s:Shared) (e:Value) (s':Shared),CX [] H s (fun _ _ _=>False) e s'→False) :
  PySem.W.WalkO q loose XP YP l.row.toRowW d [] (fun f vs=>PySem.call f vs) :=
 xb5 (K:=K) (CX:=fun _=>CX) (sp:=fun w=>sp (K w.params)) hn hn2 hdf hr hY F (fun w H a ns h1 h2 h3=>hsp (K w.params) H a ns h1 h2 h3) fun _ H s e s'=>hCX H s e s'
end L2
namespace L2
open PySem PySem.Spec PyProof.Rows
noncomputable def defArgs (s:Stmt):Arguments:=match s with
 | .FunctionDef _ a _ _ _ _ _ _ _ _=>a
 | _=>{ posonlyargs:=[],args:=[],vararg:=none,kwonlyargs:=[],kw_defaults:=[],kwarg:=none,defaults:=[] }
noncomputable def defBody (s:Stmt):List Stmt:=match s with
 | .FunctionDef _ _ b _ _ _ _ _ _ _=>b
 | _=>[]
noncomputable def defScope (s:Stmt):Scope:=match s with
 | .FunctionDef _ _ _ _ _ _ sc _ _ _=>sc
 | _=>{ kind:=.function,names:=[],isGenerator:=false,isCoroutine:=false }
abbrev CX0:CXT:=fun _ _ _ _ _ _=>False
abbrev E0:XK:=fun _ _ _=>False
theorem pass0 {X:Cx}:Passes CX0 X E0:=fun _ _ _ _ _ _ _ h=>h.elim
structure Fun (K:PySem.W.Frag) (x qual:Str) (st:Stmt) (f:Addr) (fd:FuncData):Prop where
 ex:∃ (oc:Value) (od:Option Addr) (kV doc pm:Value) (an:Option Addr) (cdv ct:Value) (osl:Array (Option Value)),
  fd=PySem.W.fnOf x qual (defArgs st) (defBody st) (defScope st) .none kV doc pm an cdv ct∧K.lookup f=some ⟨oc,od,.func fd,osl⟩∧PySem.W.codeIn K cdv qual=true
 kp:PySem.W.keepIn K (.ref f)=true
section
variable {P:Program} {w:World} {K:PySem.W.Frag} {mg:Str→Option Value} {base:Heap}
theorem Fun.ok {x qual:Str} {st:Stmt} {f:Addr} {fd:FuncData} {N ps:List Str} {k:Nat} {sp:Sp} (F:Fun K x qual st f fd) (S:FnScope N ps (defScope st)) (len:∀ vs H Q E,sp vs H Q E→vs.length=ps.length)
  (hbody:∀ (cdv:Value) (A:Around) (outer:List Env) (s:Shared) (H:Hp) (vs:List V) (Q:VK) (E:XK),Room k (A.deeper (envOfC qual (defScope st) s.heap.objs.size f cdv))→sp vs H Q E →
   ∃ t,PSs (cxOf CX0 P w K mg base N qual (defScope st) f cdv A outer s H E).nox (defBody st) t∧t { nx:=fun _ H'=>Q .non H',rt:=Q } (start N vs) H):FnOk P w K mg base CX0 (k + 1) f fd ps sp:=by
 obtain ⟨oc,od,kV,doc,pm,an,cdv,ct,osl,rfl,lk,hcd⟩:=F.ex
 refine fn_of lk hcd S len fun A outer s H vs Q E hr hsp=>?_
 obtain ⟨t,h,q⟩:=hbody cdv A outer s H vs Q E hr hsp
 exact ⟨t,h.nox,q⟩
theorem fun_mk {x qual:Str} {st:Stmt} {f:Addr} {oc:Value} {od an:Option Addr} {osl:Array (Option Value)} {kV doc pm cdv ct:Value} (l:K.lookup f=some ⟨oc,od,.func (PySem.W.fnOf x qual (defArgs st) (defBody st) (defScope st) .none kV doc pm an cdv ct),osl⟩)
  (c:PySem.W.codeIn K cdv qual=true) (k:PySem.W.keepIn K (.ref f)=true):Fun K x qual st f (PySem.W.fnOf x qual (defArgs st) (defBody st) (defScope st) .none kV doc pm an cdv ct):=⟨⟨oc,od,kV,doc,pm,an,cdv,ct,osl,rfl,l,c⟩,k⟩
end
theorem zaB {A:Around} {k:Nat} (hr:Room k A):A.units + 1 < cLine:=Nat.lt_of_le_of_lt (Nat.add_le_add_left (by decide:1≤64) _) hr.units
section
variable {X:Cx}
theorem pv (i:Nat) {x:Str} {pos:Pos} (hN:X.N[i]?=some x:=by rfl) (hv:Vis X.env.scope x:=by first | exact Or.inl rfl | exact Or.inr (Or.inl rfl) | exact Or.inr (Or.inr rfl)) (hd:(x == ("__debug__" : Str))=false:=by decide)
  (hcd:(x == ("__classdict__" : Str))=false:=by decide):PE X (.Name x pos) (tVar i):=pe_var hN hv hd hcd
end
theorem iteF {A B:Prop} (h:B):if false=true then A else B:=by
 rw [if_neg Bool.false_ne_true]
 exact h
theorem iteT {A B:Prop} (h:A):if true=true then A else B:=by
 rw [if_pos rfl]
 exact h
noncomputable def Same (H H':Hp):Prop:=∀ b o,H b=some o→H' b=some o
theorem Same.refl (H:Hp):Same H H:=fun _ _ h=>h
section
variable {X:Cx}
end
section
variable {κ:Type} [DecidableEq κ]
end
end L2
namespace L2
open PySem PySem.Spec PyProof.Rows
theorem zar:bootBuiltins "len" = some (.builtin "len"):=by decide +kernel
theorem bt_int:bootBuiltins "int" = some (.type "int"):=by decide +kernel
theorem yas:bootBuiltins "list" = some (.type "list"):=by decide +kernel
theorem zai:bootBuiltins "tuple" = some (.type "tuple"):=by decide +kernel
theorem yaB:bootBuiltins "range" = some (.type "range"):=by decide +kernel
theorem bt_max:bootBuiltins "max" = some (.builtin "max"):=by decide +kernel
theorem Zb1:bootBuiltins "min" = some (.builtin "min"):=by decide +kernel
theorem XaY:bootBuiltins "sorted" = some (.builtin "sorted"):=by decide +kernel
theorem Ya7:bootBuiltins "repr" = some (.builtin "repr"):=by decide +kernel
theorem bt_all:bootBuiltins "all" = some (.builtin "all"):=by decide +kernel
structure Kp (ch:List Addr) (H H':Hp):Prop where
 keep:∀ b o,H b=some o→b ∉ ch→H' b=some o
 tup:∀ b xs,H b=some (.tup xs)→H' b=some (.tup xs)
 frz:∀ b o u,H b=some (.frz o u)→H' b=some (.frz o u)
section
variable {ch:List Addr} {H H1 H2:Hp} {a l p:Addr} {o:HO} {xs ys:List V} {K:PySem.W.Frag}
theorem Kp.refl:Kp ch H H:=⟨fun _ _ h _=>h,fun _ _ h=>h,fun _ _ _ h=>h⟩
theorem Kp.of_same (h:Same H H1):Kp ch H H1:=⟨fun b o e _=>h b o e,fun b xs e=>h b _ e,fun b o u e=>h b _ e⟩
theorem Kp.put (h:Kp ch H H1) (ha:a∈ch) (e:H1 a=some (.lst xs)):Kp ch H (upd H1 a o) :=
 ⟨fun b u q n=>by rw [zaj (fun z=>n (by rw [z];exact ha))];exact h.keep b u q n,
   fun b u q=>by
  have r:=h.tup b u q
  rw [zaj (Zb3 r e (by intro z;cases z))];exact r,
   fun b u v q=>by
  have r:=h.frz b u v q
  rw [zaj (Zb3 r e (by intro z;cases z))];exact r⟩
theorem Kp.sqT (h:Kp ch H H1) (q:SqT K H a xs):SqT K H1 a xs:=by
 rcases q with (q | ⟨o,q⟩) | q
 ·exact .inl (.inl (h.tup a xs q))
 ·exact .inl (.inr ⟨o,h.frz a o _ q⟩)
 ·exact .inr q
noncomputable def SqF (K:PySem.W.Frag) (H:Hp) (a:Addr) (xs:List V):Prop :=
 (∃ o,H a=some (.frz o (.lst xs))) ∨
  ∃ (o:Obj) (its:Array Value) (n:Nat),K.lookup a=some o∧o.cls=.type "list" ∧ o.dict=none∧o.data=.seq its n∧its.size≤sizeLine∧Vals xs its.toList
theorem SqF.sq (h:SqF K H a xs):SqL K H a xs:=h.elim (fun ⟨o,e⟩=>.inl (.inr ⟨o,e⟩)) .inr
theorem SqL.script (hO:Only H) (q:SqL K H a xs):SqF K H a xs:=by
 rcases q with (q | ⟨o,q⟩) | q
 ·rcases hO a with e | ⟨o,ys,e⟩
  ·rw [e] at q;cases q
  ·rw [e] at q;cases q
 ·exact .inl ⟨o,q⟩
 ·exact .inr q
theorem Same.up (h:H p=none):Same H (upd H p o):=fun b u e=>by rw [zaj (YaC e h)];exact e
end
noncomputable def GotT (K:PySem.W.Frag) (H:Hp) (xs:List V) (Q:VK):Prop:=∀ p H',SqT K H' p xs→Same H H'→Q (.ref p) H'
section
variable {X:Cx}
theorem GotT.new {K:PySem.W.Frag} {H:Hp} {xs:List V} {Q:VK} (h:GotT K H xs Q):∀ p,H p=none→Q (.ref p) (upd H p (.tup xs)):=fun p hp=>h p _ (SqT.of zao) (Same.up hp)
theorem GotT.it {K:PySem.W.Frag} {H:Hp} {xs:List V} {Q:VK} {a:Addr} (h:GotT K H xs Q) (q:SqT K H a xs):Q (.ref a) H:=h a H q (Same.refl H)
noncomputable def rCatTA (K:PySem.W.Frag):R2:=fun x y H Q=>∃ a b xs ys,x=.ref a∧y=.ref b∧SqT K H a xs∧SqT K H b ys∧xs.length + ys.length≤sizeLine∧GotT K H (xs ++ ys) Q
theorem XbT:OpR X (binaryOp .Add) (rCatTA X.K):=by
 intro pins s σ H x y v u Q I rx ry h
 obtain ⟨a,b,xs,ys,rfl,rfl,ha,hb,hz,q⟩:=h
 by_cases hx:xs=[]
 ·subst hx
  cases rx
  cases ry
  obtain ⟨its,r1,p1,_⟩:=I.tuple ha
  obtain ⟨its2,r2,p2,_⟩:=I.tuple hb
  have e:its=[]:=r1.nil_iff.mpr rfl
  subst e
  obtain ⟨⟨cls,dd,data,sl⟩,ho,hc,n,hd⟩:=id p1
  obtain ⟨⟨cls2,dd2,data2,sl2⟩,ho2,hc2,n2,hd2⟩:=id p2
  simp only at hc hd hc2 hd2
  subst hc hd hc2 hd2
  exact concat_meets ⟨_,ho,rfl⟩ ⟨_,ho2,rfl⟩ noFill_tuple_add seq_tuple_add PySem.F.slot_tuple_add PySem.F.entry_tuple_add (PySem.F.args_tuple_add_2 _ _)
   (tuple_addW0 a b #[] its2.toArray n n2 dd dd2 sl sl2 (by simp)) ⟨ho,ho2,⟨.ref b,H,I,rfl,q.it (by simpa using hb)⟩⟩
 ·exact Yb4 pins s σ H _ _ v u Q I rx ry ⟨a,b,xs,ys,rfl,rfl,ha,hb,hx,hz,fun e=>q.it (by subst e;simpa using ha),fun _=>q.new⟩
theorem ybm {prog:Program} {w:World} {A:Around} {E:Value→Shared→Prop} {s:Shared} {t sl:Addr} {items:Array Value} {vl vu:Value} {lo hi:Option Int} {Q:Value→Shared→Prop} (ht:IsTup s.heap t items) (hs:s.heap.IsSliceOf sl vl vu .none) (pl:IsPart vl lo) (pu:IsPart vu hi)
  (hw:HT.sIx items.size 0 lo=0∧HT.sIx items.size items.size hi=items.size) (h:Q (.ref t) s):wpAny (model prog w) A (getItem (.ref t) (.ref sl)) Q E s:=by
 obtain ⟨os,hos,hcs,hds⟩:=id hs
 have hTs:s.TypeIs (.ref sl) "slice" := ⟨os,hos,hcs⟩
 unfold getItem
 try with_reducible refine wpAny_holding ?_
 first | refine wpAny_bind (wpAny_pure ?_) | skip
 refine wpAny_bind (wpAny_sequenceKey ht.typeIs (by decide) ?_)
 refine wpAny_bind (wpAny_callSpecial?_slot (name:=Str.ofString "__getitem__") ht.typeIs PyProof.Rows.slot_tuple_getitem
  (wpAny_call_entry PyProof.Rows.slot_tuple_getitem ht.typeIs entry_tuple_getitem ?_ (args_tuple_getitem _ _)))
 show wpAny _ _ (Builtin.Tuple.tupleItemsOf (.ref t) >>= _) _ _ s
 refine wpAny_bind (tupleItemsOf_ ht ?_)
 refine wpAny_bind (wpAny_typeOf hTs ?_)
 rw [if_pos (by decide)]
 refine wpAny_bind (HT.yaM hs pl pu ?_)
 have hyes:((((HT.sIx items.size 0 lo:Nat):Int) == 0 && (1:Int) == 1 && (HT.sIx items.size items.size hi - HT.sIx items.size 0 lo) == items.size)=true):=by
  rw [hw.1,hw.2];simp
 show wpAny _ _ (if (((HT.sIx items.size 0 lo:Nat):Int) == 0 && (1:Int) == 1 && (HT.sIx items.size items.size hi - HT.sIx items.size 0 lo) == items.size)=true then _ else _) _ _ s
 rw [if_pos hyes]
 obtain ⟨o,ho,hc,n,hd⟩:=id ht
 unfold Builtin.Tuple.tupleIsExact
 first
  | exact wpAny_bind (wpAny_bind (wpAny_typeOf (T:="tuple") ⟨o,ho,hc⟩ (wpAny_pure (wpAny_bind (wpAny_rule (wpAny_pure ⟨_,rfl,wpAny_pure h⟩))))))
  | exact wpAny_bind (wpAny_bind (wpAny_typeOf (T:="tuple") ⟨o,ho,hc⟩ (wpAny_pure (wpAny_bind (wpAny_rule (wpAny_bind (wpAny_pure ⟨_,rfl,wpAny_pure h⟩)))))))
  | trace_state
noncomputable def rSlTA (K:PySem.W.Frag):V→Option Int→Option Int→Hp→VK→Prop:=fun x lo hi H Q=>∃ a xs,x=.ref a∧SqT K H a xs∧GotT K H (cutV xs lo hi) Q
theorem xbw {xs:List V} {lo hi:Option Int} (h:HT.sIx xs.length 0 lo=0∧HT.sIx xs.length xs.length hi=xs.length):cutV xs lo hi=xs:=by
 unfold cutV;rw [h.1,h.2];simp
theorem Xb5:SlR X (rSlTA X.K):=by
 intro pins s σ H x v vl vu lo hi sl Q I rx hs pl pu h
 obtain ⟨a,xs,rfl,hx,q⟩:=h
 by_cases hw:HT.sIx xs.length 0 lo=0∧HT.sIx xs.length xs.length hi=xs.length
 ·cases rx
  obtain ⟨its,r,ht,hz⟩:=I.tuple hx
  have hlen:its.toArray.size=xs.length:=by rw [List.size_toArray];exact r.length.symm
  refine ⟨"tuple",_,PyProof.Rows.slot_tuple_getitem.lookup,ht.typeIs,?_⟩
  exact ybm ht hs pl pu (by rw [hlen];exact hw) ⟨.ref a,H,I,rfl,q.it (by rw [xbw hw];exact hx)⟩
 ·exact sl_tup pins s σ H _ v vl vu lo hi sl Q I rx hs pl pu ⟨a,xs,rfl,hx,hw,q.new⟩
noncomputable def rangeV (lo:Int) (n:Nat):List V:=(List.range n).map fun (k:Nat)=>V.int (lo + k)
theorem xa7 (lo:Int) (n:Nat):(rangeV lo n).length=n:=by simp [rangeV]
theorem zaS:CallR X (.type "range") (fun xs H Q=>∃ j:Int,xs=[.int j]∧∀ p,H p=none→Q (.ref p) (upd H p (.rng 0 j))):=by
 intro pins s σ H xs us Q I r h
 obtain ⟨j,rfl,q⟩:=h
 obtain ⟨u,rfl,t,rfl⟩:=vals1 r
 refine call_range_1 ⟨.ref s.heap.objs.size,_,I.laid (o:=.rng 0 j) (fun b o e=>Heap.get?_push_of_some _ e) (Nat.le_refl _) ?_,rfl,q _ (I.hok.fresh (Nat.le_refl _))⟩
 exact ⟨_,_,_,Heap.get?_push_size _ rfl⟩
theorem Zaw:CallR X (.type "range") (fun xs H Q=>∃ i j:Int,xs=[.int i,.int j]∧∀ p,H p=none→Q (.ref p) (upd H p (.rng i j))):=by
 intro pins s σ H xs us Q I r h
 obtain ⟨i,j,rfl,q⟩:=h
 obtain ⟨u,u',rfl,⟨t,rfl⟩,t',rfl⟩:=vals2 r
 refine call_range_2 ⟨.ref s.heap.objs.size,_,I.laid (o:=.rng i j) (fun b o e=>Heap.get?_push_of_some _ e) (Nat.le_refl _) ?_,rfl,q _ (I.hok.fresh (Nat.le_refl _))⟩
 exact ⟨_,_,_,Heap.get?_push_size _ rfl⟩
theorem xa4:∀ (n:Nat) (lo:Int) (us:List Value),us.length=n→(∀ (j:Nat) (v:Value),us[j]?=some v→∃ t,v=.int (lo + j * 1) t)→Vals (rangeV lo n) us
 | 0,lo,[],_,_=>.nil
 | 0,lo,_ :: _,h,_=>by simp at h
 | n + 1,lo,[],h,_=>by simp at h
 | n + 1,lo,u :: us,h,hv=>by
  have e:rangeV lo (n + 1)=V.int lo :: rangeV (lo + 1) n:=by
   unfold rangeV
   rw [List.range_succ_eq_map,List.map_cons,List.map_map]
   congr 1
   ·simp
   ·apply List.map_congr_left
    intro i _
    simp only [Function.comp]
    congr 1
    push_cast
    omega
  rw [e]
  obtain ⟨t,ht⟩:=hv 0 u rfl
  refine .cons ⟨t,by rw [ht];simp⟩ (xa4 n (lo + 1) us (by simpa using h) fun j v hj=>?_)
  obtain ⟨t',ht'⟩:=hv (j + 1) v hj
  refine ⟨t',ht'.trans ?_⟩
  congr 1
  omega
theorem xai (hc:X.calm=true):CallR X (.type "list") (fun xs H Q=>∃ p lo hi,xs=[.ref p]∧H p=some (.rng lo hi)∧(-(2 ^ 62)≤lo∧lo < 2 ^ 62∧-(2 ^ 62)≤hi∧hi < 2 ^ 62)∧(hi - lo).toNat≤2 ^ 24 ∧
  ∀ l,H l=none→Q (.ref l) (upd H l (.lst (rangeV lo (hi - lo).toNat)))):=by
 intro pins s σ H xs us Q I r h
 obtain ⟨p,lo,hi,rfl,hp,⟨b1,b2,b3,b4⟩,hz,q⟩:=h
 obtain ⟨u,rfl,ru⟩:=vals1 r
 cases ru
 obtain ⟨t,t',t'',e⟩:=(show ObjOk X.prog X.w H s.heap p (.rng lo hi) from I.hok p _ hp)
 refine call_list_range (a:=lo) (b:=hi) (c:=1) (n:=(hi - lo).toNat) (I.ok.hd hc) (show IsRange s.heap p lo hi 1 t t' t'' from e) (small_one b1 b2 b3 b4) (by rw [rangeSize_one];split <;> omega) hz fun h' tk acc c kp hD hI=>?_
 refine ⟨.ref s.heap.objs.size,_,I.laid (t':=tk) (o:=.lst (rangeV lo (hi - lo).toNat)) kp (Nat.le_refl _) ?_,rfl,q _ (I.hok.fresh (Nat.le_refl _))⟩
 refine ⟨by rw [xa7];exact Nat.le_trans hz (by decide),acc.toList,c,xa4 _ _ _ (by rw [Array.length_toList];exact hI.1) fun j v hj=>hI.2 j v (by rw [← hj,Array.getElem?_toList]),by simpa using hD⟩
end
mutual
inductive Rep (K:PySem.W.Frag) (H:Hp):V→PyData→Prop
 | non:Rep K H .non .none
 | bl (b:Bool):Rep K H (.bl b) (.bool b)
 | int (i:Int):Rep K H (.int i) (.int i)
 | str (x:Str):Rep K H (.str x) (.str x)
 | tup {a:Addr} {xs:List V} {ds:List PyData}:SqT K H a xs→Reps K H xs ds→Rep K H (.ref a) (.tuple ds)
 | lst {a:Addr} {xs:List V} {ds:List PyData}:SqL K H a xs→Reps K H xs ds→Rep K H (.ref a) (.list ds)
inductive Reps (K:PySem.W.Frag) (H:Hp):List V→List PyData→Prop
 | nil:Reps K H [] []
 | cons {v:V} {vs:List V} {d:PyData} {ds:List PyData}:Rep K H v d→Reps K H vs ds→Reps K H (v :: vs) (d :: ds)
end
section
variable {X:Cx} {pins:List (Addr×Obj)} {σ:St} {H:Hp} {s:Shared}
mutual
theorem Rep.reads (I:Inv X pins σ H s):∀ {v:V} {d:PyData} {u:Value},Rep X.K H v d→RelV v u→∃ as,Reads s.heap u d as
 | _,_,_,.non,r=>by cases r;exact ⟨_,.none⟩
 | _,_,_,.bl b,r=>by cases r;exact ⟨_,.bool b⟩
 | _,_,_,.int i,r=>by obtain ⟨t,rfl⟩:=r;exact ⟨_,.int i t⟩
 | _,_,_,.str x,r=>by obtain ⟨t,rfl⟩:=r;exact ⟨_,.str x t⟩
 | _,_,_,.tup q rs,r=>by
  cases r
  obtain ⟨its,rv,⟨o,e,c,n,hd⟩,_⟩:=I.tuple q
  obtain ⟨as,ra⟩:=Reps.reads I rs rv
  exact ⟨_,.tuple e c hd (by simpa using ra)⟩
 | _,_,_,.lst q rs,r=>by
  cases r
  obtain ⟨its,rv,pl,_⟩:=I.list q
  obtain ⟨o,e,c,n,hd⟩:=pl.isList
  obtain ⟨as,ra⟩:=Reps.reads I rs rv
  exact ⟨_,.list e c hd (by simpa using ra)⟩
theorem Reps.reads (I:Inv X pins σ H s):∀ {vs:List V} {ds:List PyData} {us:List Value},Reps X.K H vs ds→Vals vs us→∃ as,ReadsAll s.heap us ds as
 | _,_,_,.nil,r=>by cases r;exact ⟨_,.nil⟩
 | _,_,_,.cons h t,r=>by
  cases r with
  | cons r1 r2 =>
   obtain ⟨as,h1⟩:=Rep.reads I h r1
   obtain ⟨bs,h2⟩:=Reps.reads I t r2
   exact ⟨_,.cons h1 h2⟩
end
noncomputable def rEqD (K:PySem.W.Frag) (neg:Bool):R2:=fun x y H Q=>∃ d e,Rep K H x d∧Rep K H y e∧PyData.canLay0 d=true∧PyData.canLay0 e=true∧min d.depth e.depth≤60∧Q (.bl (if neg then !PyData.eqv d e else PyData.eqv d e)) H
theorem XbF (hu:X.A.units + 64 < cLine):OpR X (compareOp .Eq) (rEqD X.K false):=by
 intro pins s σ H x y v u Q I rx ry h
 obtain ⟨d,e,hd,he,c1,c2,dp,q⟩:=h
 obtain ⟨as,ra⟩:=hd.reads I rx
 obtain ⟨bs,rb⟩:=he.reads I ry
 exact SeqAt.eqOverData X.prog X.w X.A X.xe s v u d e as bs _ ra rb c1 c2 (by omega) ⟨.bl _,H,I,rfl,q⟩
theorem zbG (hu:X.A.units + 64 < cLine):OpR X (compareOp .NotEq) (rEqD X.K true):=by
 intro pins s σ H x y v u Q I rx ry h
 obtain ⟨d,e,hd,he,c1,c2,dp,q⟩:=h
 obtain ⟨as,ra⟩:=hd.reads I rx
 obtain ⟨bs,rb⟩:=he.reads I ry
 exact SeqAt.neOverData X.prog X.w X.A X.xe s v u d e as bs _ ra rb c1 c2 (by omega) ⟨.bl _,H,I,rfl,q⟩
end
section
variable {K:PySem.W.Frag} {H:Hp}
noncomputable def intsD (ns:List Int):List PyData:=ns.map PyData.int
theorem Reps.ints:∀ (ns:List Int),Reps K H (ns.map V.int) (intsD ns)
 | []=>.nil
 | n :: r=>.cons (.int n) (Reps.ints r)
theorem Zao:∀ (ns:List Int),PyData.canLayAll0 (intsD ns)=true
 | []=>rfl
 | n :: r=>by show (true && PyData.canLayAll0 (intsD r))=true;rw [Zao r];rfl
theorem xaC:∀ (ns:List Int),PyData.depthAll (intsD ns)=0
 | []=>rfl
 | n :: r=>by show max 0 (PyData.depthAll (intsD r))=0;rw [xaC r];rfl
theorem yaP:∀ (ns ms:List Int),PyData.eqvAll (intsD ns) (intsD ms)=decide (ns=ms)
 | [],[]=>rfl
 | [],_ :: _=>rfl
 | _ :: _,[]=>rfl
 | n :: ns,m :: ms=>by
  show ((n == m) && PyData.eqvAll (intsD ns) (intsD ms))=decide (n :: ns=m :: ms)
  rw [yaP ns ms]
  by_cases h:n=m
  ·subst h;simp
  ·simp [h]
end
end L2
namespace L2
open PySem PySem.Spec PyProof.Rows
structure Def (K:PySem.W.Frag) (mg:Str→Option Value) (x:Str) (st:Stmt) (ps:List Str) (f:Addr) (fd:FuncData):Prop where
 F:Fun K x x st f fd
 be:∀ us:List Value,us.length=ps.length→bindArgs fd ⟨us,[]⟩=pure (ps.zip us)
 m:mg x=some (.ref f)
theorem Def.b {K:PySem.W.Frag} {mg:Str→Option Value} {x:Str} {st:Stmt} {ps:List Str} {f:Addr} {fd:FuncData} (D:Def K mg x st ps f fd):Binds K fd ps []:=.all D.be
theorem yao {K:PySem.W.Frag} {h:Heap} {mg:Str→Option Value} (X:K.In h) (G:h.Ns mainGlobals mg) {x:Str} {st:Stmt} {ps:List Str} {f:Addr} {oc:Value} {od an:Option Addr} {osl:Array (Option Value)} {kV doc pm cdv ct:Value}
  (hb:∀ (kV doc pm:Value) (an:Option Addr) (cdv ct:Value) (us:List Value),us.length=ps.length→bindArgs (PySem.W.fnOf x x (defArgs st) (defBody st) (defScope st) .none kV doc pm an cdv ct) ⟨us,[]⟩=pure (ps.zip us))
  (a:PySem.W.nsIn K mainGlobals x=some (some (.ref f))) (l:K.lookup f=some ⟨oc,od,.func (PySem.W.fnOf x x (defArgs st) (defBody st) (defScope st) .none kV doc pm an cdv ct),osl⟩)
  (c:PySem.W.codeIn K cdv x=true) (k:PySem.W.keepIn K (.ref f)=true):∃ f fd,Def K mg x st ps f fd :=
 ⟨f,_,fun_mk l c k,hb kV doc pm an cdv ct,PySem.W.mg_of X G a⟩
theorem Def.bindsTo {K:PySem.W.Frag} {mg:Str→Option Value} {x p:Str} {st:Stmt} {f:Addr} {fd:FuncData} (D:Def K mg x st [p] f fd) (s:Shared) (u:Value):BindsTo s fd ⟨[u],[]⟩ [(p,u)]:=.of_eq (D.be [u] rfl)
theorem zaA {K:PySem.W.Frag} {h:Heap} {mg:Str→Option Value} (X:K.In h) (G:h.Ns mainGlobals mg) {x:Str} (z:PySem.W.nsIn K mainGlobals x=some none):mg x=none:=PySem.W.mg_none_of X G z
theorem Xa7 {n j:Nat} (h:j < n):ixN n (j:Int)=some j:=by
 unfold ixN
 rw [if_pos (by omega),if_pos (by omega)]
 simp
theorem atI_lt {α:Type} {xs:List α} {i:Int} (h0:0≤i) (h1:i < xs.length):∃ v,atI xs i=some v∧v∈xs:=by
 have hi:i.toNat < xs.length:=by omega
 refine ⟨xs[i.toNat],?_,List.getElem_mem hi⟩
 have:=zaD (xs:=xs) (j:=i.toNat) (v:=xs[i.toNat]) (by simp [hi])
 rwa [Int.toNat_of_nonneg h0] at this
theorem dT {c:Prop} [Decidable c] (h:decide c=true):c:=of_decide_eq_true h
end L2
namespace L2
open PySem PySem.Spec PyProof.Rows
section
variable {prog:Program} {w:World} {A:Around} {E:Value→Shared→Prop} {s:Shared}
end
section
variable {X:Cx} {e:Expr} {te:TE} {pos p0 p1 p2:Pos} {j:Nat}
noncomputable def RvR (X:Cx) (r:V→Hp→VK→Prop):Prop :=
 ∀ (pins:List (Addr×Obj)) (s:Shared) (σ:St) (H:Hp) (x:V) (v:Value) (sl:Addr) (u:Tok) (Q:VK),Inv X pins σ H s→RelV x v→s.heap.IsSliceOf sl .none .none (.int (-1) u)→r x H Q →
  ∃ T id,typeLookup (.type T) "__getitem__" = pure (some (.builtin id))∧s.TypeIs v T∧wpAny (model X.prog X.w) X.A (getItem v (.ref sl)) (EP X pins σ Q) X.xe s
theorem pe_rev {r:V→Hp→VK→Prop} (hr:RvR X r) (he:PE X e te):PE X (.Subscript e (.Slice none none (some (.UnaryOp .USub (.Constant (.int 1) j p1) p0)) p2) pos) (fun σ H Q=>te σ H fun x H1=>r x H1 Q):=by
 intro pins s σ H Q I h
 refine Subscript_ (thn (he pins s σ H _ I h) fun v s1 ⟨x,H1,I1,r1,q1⟩=>?_)
 refine wpAny_Slice ?_
 rw [evalPart_none]
 refine wpAny_pure (wpAny_pure ?_)
 rw [evalPart_some]
 refine thn ((Xa2 (X:=X) XaQ (Yac (i:=1) (j:=j) (pos:=p1)) (pos:=p0)) pins s1 σ H1 (fun y H2=>y=.int (-1)∧H2=H1) I1 ⟨1,rfl,rfl,rfl⟩) fun w2 s3 ⟨y,H3,I3,r3,e3,e4⟩=>?_
 subst e3 e4
 obtain ⟨u,rfl⟩:=r3
 have I4:Inv X pins σ H3 { s3 with heap:=s3.heap.push { cls:=.type "slice",data:=.fields #[.none,.none,.int (-1) u] } }:=I3.kept (t':=s3.toks) fun b ob q=>Heap.get?_push_of_some _ q
 obtain ⟨T,id,hT,ht,hg⟩:=hr pins { s3 with heap:=s3.heap.push { cls:=.type "slice",data:=.fields #[.none,.none,.int (-1) u] } } σ H3 x v s3.heap.objs.size u Q I4 r1 (Heap.IsSliceOf.new ..) q1
 show wpAny (model X.prog X.w) X.A (subscriptTail e (.Slice none none (some (.UnaryOp .USub (.Constant (.int 1) j p1) p0)) p2) v (.ref s3.heap.objs.size)) (EP X pins σ Q) X.xe { s3 with heap:=s3.heap.push { cls:=.type "slice",data:=.fields #[.none,.none,.int (-1) u] } }
 exact tail_any (ops:=[v,.ref s3.heap.objs.size]) ht hT hg (by with_unfolding_all rfl)
theorem zb6:RvR X (fun x H Q=>∃ a xs,x=.ref a∧SqL X.K H a xs∧∀ p,H p=none→Q (.ref p) (upd H p (.lst xs.reverse))):=by
 intro pins s σ H x v sl u Q I rx hs h
 obtain ⟨a,xs,rfl,hx,q⟩:=h
 cases rx
 obtain ⟨its,r,ht,hz⟩:=I.list hx
 have hlen:=r.length
 refine ⟨"list",_,slot_list_getitem.lookup,ht.isList.typeIs,?_⟩
 refine wpAny_getItem_list_slice ht.isList hs .none .none (.int (-1) u) (by simp) ?_ (by rw [List.size_toArray];omega)
 rw [PySem.W.krv_pick]
 refine ⟨.ref s.heap.objs.size,_,I.laid (t':=s.toks) (o:=.lst xs.reverse) (fun b ob q=>Heap.get?_push_of_some _ q) (Nat.le_refl _) ?_,rfl,q _ (I.hok.fresh (Nat.le_refl _))⟩
 exact ⟨by rw [List.length_reverse];exact hz,_,0,r.reverse,Heap.get?_push_size _ rfl⟩
end
end L2
namespace L2
open PySem PySem.Spec PyProof.Rows
section
variable {K:PySem.W.Frag} {f:Addr} {H0:Hp} {σ:St} {i:Nat} {t u ta tb:TE} {R R':V→Hp→Prop} {P P' P2:Int→Prop} {L M:Nat}
end
end L2
namespace L2
open PySem PySem.Spec PyProof.Rows
theorem Yat:∀ (names:List (Str×NameKind)) (n:Nat) (acc:List (Str×Addr)),cellsFrom n names acc=cellsFrom n names [] ++ acc
 | [],_,_=>rfl
 | (x,k) :: r,n,acc=>by
  show (if k == .cell then cellsFrom (n + 1) r ((x,n) :: acc) else cellsFrom n r acc)=(if k == .cell then cellsFrom (n + 1) r [(x,n)] else cellsFrom n r []) ++ acc
  by_cases hk:(k == NameKind.cell)=true
  ·rw [if_pos hk,if_pos hk,Yat r (n + 1) ((x,n) :: acc),Yat r (n + 1) [(x,n)],List.append_assoc];rfl
  ·rw [if_neg hk,if_neg hk];exact Yat r n acc
theorem ZaJ {x:Str} {c:Addr}:∀ (names:List (Str×NameKind)) (n:Nat),(x,c)∈cellsFrom n names []→(x,NameKind.cell)∈names∧n≤c
 | [],_,h=>nomatch h
 | (y,k) :: r,n,h=>by
  have h':(x,c)∈(if k == .cell then cellsFrom (n + 1) r [(y,n)] else cellsFrom n r []):=h
  by_cases hk:(k == NameKind.cell)=true
  ·rw [if_pos hk,Yat] at h'
   rcases List.mem_append.mp h' with h' | h'
   ·obtain ⟨h1,h2⟩:=ZaJ r (n + 1) h'
    exact ⟨List.mem_cons_of_mem _ h1,by omega⟩
   ·have e:(x,c)=(y,n):=by simpa using h'
    cases e
    have e2:k=NameKind.cell:=by simpa using hk
    subst e2
    exact ⟨List.mem_cons_self,Nat.le_refl _⟩
  ·rw [if_neg hk] at h'
   obtain ⟨h1,h2⟩:=ZaJ r n h'
   exact ⟨List.mem_cons_of_mem _ h1,h2⟩
theorem XaM {env:Env} (f:Str×NameKind→List (Str×Addr)→Sem (ForInStep (List (Str×Addr))))
  (hf:∀ name kind cs,f (name,kind) cs=if kind == .free then (do let c ← cellOf env name;pure (.yield ((name,c) :: cs))) else pure (.yield cs)) :
  ∀ (names:List (Str×NameKind)) (acc:List (Str×Addr)),(∀ y∈names,y.2=NameKind.free→∃ c,env.cells.lookup y.1=some c) →
   ∃ cl,(forIn names acc f:Sem (List (Str×Addr)))=pure cl∧(∀ n c,(n,c)∈cl→(n,c)∈acc∨(env.cells.lookup n=some c∧(n,NameKind.free)∈names))∧(∀ p∈acc,p∈cl)∧∀ n,(n,NameKind.free)∈names→∃ c,(n,c)∈cl
 | [],acc,_=>⟨acc,by rw [List.forIn_nil],fun n c h=>.inl h,fun p h=>h,fun n h=>nomatch h⟩
 | (x,k) :: r,acc,h=>by
  have hr:∀ y∈r,y.2=NameKind.free→∃ c,env.cells.lookup y.1=some c:=fun y hy=>h y (List.mem_cons_of_mem _ hy)
  by_cases hk:k=NameKind.free
  ·subst hk
   obtain ⟨c,hc⟩:=h (x,.free) List.mem_cons_self rfl
   have e:cellOf env x=pure c:=by unfold cellOf;rw [hc]
   obtain ⟨cl,e1,h1,h2,h3⟩:=XaM f hf r ((x,c) :: acc) hr
   refine ⟨cl,?_,fun n d hd=>?_,fun p hp=>h2 p (List.mem_cons_of_mem _ hp),fun n hn=>?_⟩
   ·rw [List.forIn_cons,hf,if_pos (by rfl),e]
    exact e1
   ·rcases h1 n d hd with q | ⟨q,q'⟩
    ·rcases List.mem_cons.mp q with q | q
     ·cases q;exact .inr ⟨hc,List.mem_cons_self⟩
     ·exact .inl q
    ·exact .inr ⟨q,List.mem_cons_of_mem _ q'⟩
   ·rcases List.mem_cons.mp hn with q | q
    ·cases q;exact ⟨c,h2 _ List.mem_cons_self⟩
    ·exact h3 n q
  ·obtain ⟨cl,e1,h1,h2,h3⟩:=XaM f hf r acc hr
   have hb:¬ ((k == NameKind.free)=true):=by simpa using hk
   refine ⟨cl,?_,fun n d hd=>?_,h2,fun n hn=>?_⟩
   ·rw [List.forIn_cons,hf,if_neg hb]
    exact e1
   ·rcases h1 n d hd with q | ⟨q,q'⟩
    ·exact .inl q
    ·exact .inr ⟨q,List.mem_cons_of_mem _ q'⟩
   ·rcases List.mem_cons.mp hn with q | q
    ·cases q;exact absurd rfl hk
    ·exact h3 n q
theorem Xa4 {scope:Scope} {env:Env} (h:∀ y∈scope.names,y.2=NameKind.free→∃ c,env.cells.lookup y.1=some c) :
  ∃ cl,closureFor scope env=pure cl∧(∀ n c,(n,c)∈cl→env.cells.lookup n=some c∧(n,NameKind.free)∈scope.names)∧∀ n,(n,NameKind.free)∈scope.names→∃ c,(n,c)∈cl:=by
 have key:∀ (f:Str×NameKind→List (Str×Addr)→Sem (ForInStep (List (Str×Addr)))),(∀ name kind cs,f (name,kind) cs=if kind == .free then (do let c ← cellOf env name;pure (.yield ((name,c) :: cs))) else pure (.yield cs)) →
   ∃ cl,((forIn scope.names [] f:Sem (List (Str×Addr))) >>= fun r=>pure r)=pure cl∧(∀ n c,(n,c)∈cl→env.cells.lookup n=some c∧(n,NameKind.free)∈scope.names)∧∀ n,(n,NameKind.free)∈scope.names→∃ c,(n,c)∈cl:=fun f hf=>by
  obtain ⟨cl,e,h1,_,h3⟩:=XaM f hf scope.names [] h
  refine ⟨cl,?_,fun n c hc=>(h1 n c hc).elim (fun z=>nomatch z) id,h3⟩
  rw [e]
  rfl
 simp only [closureFor]
 exact key _ fun name kind cs=>by cases hk:kind == NameKind.free <;> simp [hk]
theorem ltN {a b:Addr} (h:a < b):@LT.lt Nat _ a b:=h
theorem neL {a b:Addr} (h:@LT.lt Nat _ a b):a≠b:=Nat.ne_of_lt h
theorem neG {a b:Addr} (h:@LT.lt Nat _ b a):a≠b:=Nat.ne_of_gt h
theorem Zbm {M:Model} {A:Around} {E:Value→Shared→Prop} {s:Shared} {scope:Scope} {g:Addr} {cl:List (Str×Addr)} {q:Str} {env:Env} {Q:Env→Shared→Prop}
  (h:∀ h',h'.Ns s.heap.objs.size (fun _=>none)→(∀ b o,s.heap.get? b=some o→h'.get? b=some o)→CellsOk h' (s.heap.objs.size + 1) (cellsFrom (s.heap.objs.size + 1) scope.names []) →
   Q { scope:=scope,locals:=s.heap.objs.size,globals:=g,cells:=cellsFrom (s.heap.objs.size + 1) scope.names cl,qual:=q,func:=none,code:=env.code,frame:=env.frame,builtins:=env.builtins } { s with heap:=h' }) :
  wpAny M A (newFunctionEnv scope g cl [] q none .none (some env)) Q E s:=by
 simp only [newFunctionEnv,Option.isSome_some,if_true]
 refine wpAny_bind (wpAny_alloc ?_)
 refine wpAny_bind (wpAny_layCells _ (fun name kind cells=>by cases hkc:kind == NameKind.cell <;> simp [hkc]) _ _ _ _ ?_)
 have ok:=cellsFrom_ok scope.names (s.heap.push { cls:=.type "dict",data:=.dict #[] }) (s.heap.objs.size + 1) [] ⟨fun _ _ hm=>(nomatch hm),List.Pairwise.nil⟩ (by rw [Heap.size_push];exact Nat.le_refl _)
 rw [Heap.size_push] at ok
 rw [show ({ s with heap:=s.heap.push { cls:=.type "dict",data:=.dict #[] } }:Shared).heap.objs.size=s.heap.objs.size + 1 from Heap.size_push ..]
 refine wpAny_bind ?_
 rw [List.forIn_nil]
 refine wpAny_pure (wpAny_pure ?_)
 exact h _ ((Heap.Ns.new s.heap (.type "dict")).keeps (pushCells_keeps _ _)) (fun b o e=>pushCells_keeps _ _ b o (Heap.get?_push_of_some _ e)) ok
noncomputable def cxComp (X:Cx) (N:List Str) (scope:Scope) (cells:List (Str×Addr)) (C:Addr) (fp:List Addr) (s:Shared) (H:Hp):Cx where
 prog:=X.prog
 w:=X.w
 K:=X.K
 mg:=X.mg
 base:=X.base
 A:=X.A
 N:=N
 s₀:=s
 H₀:=H
 env:=compEnvC scope cells C X.env
 outer:=X.stack
 stack:=X.stack
 ex:=fp
 fn:=fun x=>decide (scope.names.lookup x=some .cell)
 calm:=X.calm
 pn:=[]
 xe:=fun _ _=>False
noncomputable def relabelS (scope sc:Scope):Scope :=
 { scope with names:=scope.names.map fun (n,k)=>if (k == .free && sc.kind == .function && sc.names.lookup n == some .cell) then (n,.cell) else (n,k) }
structure CompS (sc scope:Scope) (own fr:List Str):Prop where
 kind:scope.kind=.function
 nd:(own ++ fr).Nodup
 ndn:(scope.names.map (·.1)).Nodup
 free:∀ y∈scope.names,y.2=.free→sc.names.lookup y.1=some .cell∨sc.names.lookup y.1=some .free
 frl:∀ x∈fr,scope.names.lookup x=some .free
structure CompSc (X:Cx) (scope:Scope) (own fr:List Str) (js:List Nat):Prop where
 c:CompS X.env.scope scope own fr
 ix:js.map (fun j=>X.N[j]?)=fr.map some
theorem CompSc.kind {X:Cx} {scope:Scope} {own fr:List Str} {js:List Nat} (S:CompSc X scope own fr js):scope.kind=.function:=S.c.kind
theorem CompSc.ndn {X:Cx} {scope:Scope} {own fr:List Str} {js:List Nat} (S:CompSc X scope own fr js):(scope.names.map (·.1)).Nodup:=S.c.ndn
theorem CompSc.frl {X:Cx} {scope:Scope} {own fr:List Str} {js:List Nat} (S:CompSc X scope own fr js):∀ x∈fr,scope.names.lookup x=some .free:=S.c.frl
theorem CompSc.free {X:Cx} {scope:Scope} {own fr:List Str} {js:List Nat} (S:CompSc X scope own fr js):∀ y∈scope.names,y.2=.free→X.env.kindOf y.1=some .cell∨X.env.kindOf y.1=some .free:=S.c.free
theorem xat {α:Type}:∀ {l:List (Str×α)} {n:Str} {c:α},(l.map (·.1)).Nodup→(n,c)∈l→l.lookup n=some c
 | (k,v) :: r,n,c,nd,h=>by
  obtain ⟨h1,h2⟩:=List.nodup_cons.mp nd
  rw [List.lookup_cons]
  rcases List.mem_cons.mp h with e | h
  ·cases e;simp
  ·have:(n == k)=false:=beq_eq_false_iff_ne.mpr fun e=>h1 (by rw [← e];exact List.mem_map.mpr ⟨(n,c),h,rfl⟩)
   rw [this]
   exact xat h2 h
theorem xaW (scope:Scope) (env:Env) (x:Str):(relabel scope env).names.lookup x=none∧scope.names.lookup x=none ∨
  ∃ k,scope.names.lookup x=some k∧(relabel scope env).names.lookup x=some (if (k == .free && env.scope.kind == .function && env.kindOf x == some .cell) then .cell else k):=by
 have key:∀ names:List (Str×NameKind),(names.map fun (n,k)=>if (k == NameKind.free && env.scope.kind == .function && env.kindOf n == some .cell) then (n,NameKind.cell) else (n,k)).lookup x=none∧names.lookup x=none ∨
   ∃ k,names.lookup x=some k∧(names.map fun (n,k)=>if (k == NameKind.free && env.scope.kind == .function && env.kindOf n == some .cell) then (n,NameKind.cell) else (n,k)).lookup x=some (if (k == .free && env.scope.kind == .function && env.kindOf x == some .cell) then .cell else k):=by
  intro names
  induction names with
  | nil=>exact .inl ⟨rfl,rfl⟩
  | cons p r ih =>
   obtain ⟨n,k⟩:=p
   rw [List.map_cons]
   cases hx:x == n with
   | true =>
    have e:x=n:=by simpa using hx
    subst e
    refine .inr ⟨k,by simp [List.lookup_cons],?_⟩
    by_cases hc:(k == NameKind.free && env.scope.kind == .function && env.kindOf x == some .cell)=true
    ·simp only [if_pos hc];simp [List.lookup_cons]
    ·simp only [if_neg hc];simp [List.lookup_cons]
   | false =>
    have e1:∀ q:NameKind,(((n,q) :: (r.map fun (n,k)=>if (k == NameKind.free && env.scope.kind == .function && env.kindOf n == some .cell) then (n,NameKind.cell) else (n,k))).lookup x)=((r.map fun (n,k)=>if (k == NameKind.free && env.scope.kind == .function && env.kindOf n == some .cell) then (n,NameKind.cell) else (n,k)).lookup x):=fun q=>by rw [List.lookup_cons,hx]
    have e2:((n,k) :: r).lookup x=r.lookup x:=by rw [List.lookup_cons,hx]
    rw [e2]
    by_cases hc:(k == NameKind.free && env.scope.kind == .function && env.kindOf n == some .cell)=true
    ·simp only [if_pos hc];rw [e1];exact ih
    ·simp only [if_neg hc];rw [e1];exact ih
 exact key scope.names
noncomputable def compSt (n:Nat) (js:List Nat) (σ:St):St:=List.replicate n none ++ js.map fun j=>σ.getD j none
theorem Inv.track {X:Cx} {pins:List (Addr×Obj)} {σ:St} {H:Hp} {s:Shared} {a:Addr} {o:HO} (I:Inv X pins σ H s) (f:FpOk X pins H a) (new:ObjOk X.prog X.w (upd H a o) s.heap a o):Inv X pins σ (upd H a o) s:=by
 obtain ⟨f0,f1,f2,f3,f4,f5⟩:=f
 have ne:∀ b u,H b=some u→b≠a:=fun b u e z=>by rw [z,f0] at e;cases e
 refine I.step (h':=s.heap) (H':=upd H a o) (g':=s.gens) (d':=s.drawn) (t':=s.toks) (ch:=[a]) (fun b hb=>?_) (fun b u _ _ _ e _=>e) (fun b u _ _ _ e _=>⟨u.slots,e⟩) (fun b u hb e n=>?_) (fun b u _ e=>⟨u,e⟩)
  (fun b xs e=>by rw [zaj (ne b _ e)];exact e) (fun b u xs e=>by rw [zaj (ne b _ e)];exact e) (fun b ps e=>⟨#[],by rw [zaj (ne b _ e),e];simp⟩) (fun m hm=>hm) (fun b u e=>?_) I.bare
 ·have e:b=a:=by simpa using hb
  subst e
  exact ⟨f3,f1,f4,f5⟩
 ·rw [zaj (fun z=>hb (by simp [z]))];exact n
 ·by_cases hb:b=a
  ·subst hb;rw [zao] at e;cases e;exact new
  ·rw [zaj hb] at e
   exact (I.hok b u e).stay (fun c v _ q=>q) (fun c q=>by rw [zaj (ne c _ q)];exact q) fun c xs q=>by rw [zaj (ne c _ q)];exact q
noncomputable def PF (X:Cx) (ifs:List Expr) (t:TT):Prop :=
 ∀ (pins:List (Addr×Obj)) (s:Shared) (σ:St) (H:Hp) (Q:Bool→Hp→Prop),Inv X pins σ H s→t σ H Q →
  wpAny (model X.prog X.w) X.A (forIn ifs true fun c r=>if r=true then do let ok ← isTrue c X.env (eval c X.env);pure (ForInStep.yield ok) else pure (ForInStep.yield r)) (TP X pins σ Q) X.xe s
theorem zaF {X:Cx}:PF X [] (fun _ H Q=>Q true H):=fun _ _ _ H _ I h=>wpAny_tests_nil ⟨H,I,h⟩
theorem zaZ {X:Cx} {c:Expr} {t:TT} (h:PT X c t):PF X [c] t:=fun pins s σ H Q I hw=>wpAny_tests_one (h pins s σ H Q I hw)
theorem Ybm {prog:Program} {w:World} {A:Around} {R:Result→Shared→Prop} {s:Shared} {elt target iter:Expr} {ifs:List Expr} {scope:Scope} {pos:Pos} {it acc:Value} {env:Env} (I:Nat→Shared→Prop)
  (turn:∀ n s,I n s→wpAny (model prog w) A (pyNext it) (fun r s₁=>match r with
   | none=>R (.ok .next) s₁
   | some v=>wpAny (model prog w) A (letOwnedTupleGo target it v) (fun _ s₁'=>wpAny (model prog w) A (assign target env v) (fun _ s₂ =>
     wpAny (model prog w) A (forIn ifs true fun c r=>if r=true then do let ok ← isTrue c env (eval c env);pure (ForInStep.yield ok) else pure (ForInStep.yield r)) (fun ok s₃ =>
      if ok=true then wpAny (model prog w) A (eval elt env) (fun x s₄ =>
       wpAny (model prog w) A (call (.builtin "list.append") [acc,x]) (fun _ s₅=>∃ m,m < n∧I m s₅) (fun _ _=>False) s₄) (fun _ _=>False) s₃
      else ∃ m,m < n∧I m s₃) (fun _ _=>False) s₂) (fun _ _=>False) s₁') (fun _ _=>False) s₁) (fun _ _=>False) s)
  (n:Nat) (h:I n s) :
  codeAny (model prog w) A (.compLoop (.ListComp elt [⟨target,iter,ifs,0⟩] scope pos) 0 it acc env) R s:=by
 refine codeAny_loop rfl I (fun n s hI=>?_) n h
 show wpAny _ A ((compTurn (.ListComp elt [⟨target,iter,ifs,0⟩] scope pos) 0 it acc env).onRaise (fun x=>do noteFrame x env;theTreesLotGoes x)) _ _ s
 refine wpAny_noted ?_
 rw [compTurn_list]
 refine wpAny_bind (wpAny_standAt (wpAny_bind (wpAny_mono (turn n s hI) (fun r s₁ h₁=>?_) fun _ _ h'=>h'.elim)))
 cases r with
 | none=>exact wpAny_pure h₁
 | some v =>
  refine wpAny_bind (wpAny_mono h₁ (fun _ s₁' h₁'=>?_) fun _ _ h'=>h'.elim)
  refine wpAny_bind (wpAny_mono h₁' (fun _ s₂ h₂=>wpAny_bind (wpAny_mono h₂ (fun ok s₃ h₃=>?_) fun _ _ h'=>h'.elim)) fun _ _ h'=>h'.elim)
  cases ok with
  | false=>exact wpAny_pure ⟨rfl,h₃⟩
  | true =>
   exact wpAny_bind (wpAny_bind (wpAny_mono h₃ (fun x s₄ h₄=>wpAny_bind (wpAny_mono h₄ (fun _ s₅ h₅=>wpAny_pure (wpAny_pure ⟨rfl,h₅⟩)) fun _ _ h'=>h'.elim)) fun _ _ h'=>h'.elim))
noncomputable def CompGo (J:It) (n:Nat) (js:List Nat) (g:TG) (tc:TT) (te:TE) (σ:St) (H1:Hp) (Q:VK):Prop :=
 ∃ W:Nat→Nat→List V→St→Hp→Prop,(∃ m,W 0 m [] (compSt n js σ) H1)∧∀ i m ys σ' H',W i m ys σ' H' →
  ys.length < sizeLine∧((J.stop i H'∧∀ p,H' p=none→Q (.ref p) (upd H' p (.lst ys))) ∨
   (J.go i H'∧∀ x H2,J.yld i H' x H2→g x σ' H2 fun σ2 H3=>tc σ2 H3 fun b H4=>if b=true then te σ2 H4 fun y H5=>∃ m',m' < m∧W (i + 1) m' (ys ++ [y]) σ2 H5 else ∃ m',m' < m∧W (i + 1) m' ys σ2 H4))
noncomputable def tComp (wi:TI) (n:Nat) (js:List Nat) (g:TG) (tc:TT) (te:TE):TE:=fun σ H Q=>wi σ H fun J H1=>CompGo J n js g tc te σ H1 Q
section
variable {X:Cx} {pins:List (Addr×Obj)} {σ:St} {tg iter elt:Expr} {ifs:List Expr} {scope:Scope} {pos:Pos} {own fr:List Str} {js:List Nat} {g:TG} {tc:TT} {te:TE} {wi:TI}
theorem za5 {H2:Hp} {s2:Shared} {it:Addr} {fp:List Addr} {tn:Nat→Heap→Prop} {J:It} {Q:VK} {E:Value→Shared→Prop} {cl:List (Str×Addr)} {RR:Value→Addr→Result→Shared→Prop}
  (hc:X.calm=true) (S:CompSc X scope own fr js) (hg:∀ cells C fp s H,PG (cxComp X (own ++ fr) scope cells C fp s H) tg g) (hf:∀ cells C fp s H,PF (cxComp X (own ++ fr) scope cells C fp s H) ifs tc) (he:∀ cells C fp s H,PE (cxComp X (own ++ fr) scope cells C fp s H) elt te)
  (I2:Inv X pins σ H2 s2) (T:Turn X.prog X.w X.K tg J fp it tn) (st2:tn 0 s2.heap) (f2:∀ b∈fp,FpOk X pins H2 b)
  (hcl1:∀ n c,(n,c)∈cl→X.env.cells.lookup n=some c∧(n,NameKind.free)∈scope.names) (hcl2:∀ n,(n,NameKind.free)∈scope.names→∃ c,(n,c)∈cl)
  (W:Nat→Nat→List V→St→Hp→Prop) (m0:Nat) (w0:W 0 m0 [] (compSt own.length js σ) H2)
  (turn:∀ i m ys σ' H',W i m ys σ' H'→ys.length < sizeLine∧((J.stop i H'∧∀ p,H' p=none→Q (.ref p) (upd H' p (.lst ys))) ∨
   (J.go i H'∧∀ x H2,J.yld i H' x H2→g x σ' H2 fun σ2 H3=>tc σ2 H3 fun b H4=>if b=true then te σ2 H4 fun y H5=>∃ m',m' < m∧W (i + 1) m' (ys ++ [y]) σ2 H5 else ∃ m',m' < m∧W (i + 1) m' ys σ2 H4)))
  (fin:∀ (acc C:Addr) (H':Hp) (s':Shared) (v:V),v=.ref acc→Inv X pins σ H' s'→FpOk X pins H' C→(∃ m,s'.heap.Ns C m)→Q v H'→RR (.ref acc) C (.ok .next) s') :
  wpAny (model X.prog X.w) X.A (newList []) (fun acc s3=>wpAny (model X.prog X.w) X.A (newFunctionEnv scope X.env.globals cl [] X.env.qual none .none (some X.env)) (fun cenv s4 =>
   codeAny (model X.prog X.w) X.A (.compStart (.ListComp elt [⟨tg,iter,ifs,0⟩] scope pos) 0 (.ref it) acc { cenv with scope:=relabel scope X.env }) (RR acc cenv.locals) s4) E s3) E s2:=by
 refine wpAny_newObj_type ?_
 refine Zbm fun h4 hns hk4 hcells=>?_
 have hA:s2.heap.objs.size < (s2.heap.push { cls:=.type "list",data:=.seq ([]:List Value).toArray }).objs.size:=by rw [Heap.size_push];exact Nat.lt_succ_self _
 generalize hC:(s2.heap.push { cls:=.type "list",data:=.seq ([]:List Value).toArray }).objs.size=C at hns hcells hA ⊢
 generalize hac:s2.heap.objs.size=acc at hA ⊢
 have hAC:acc≠C:=Nat.ne_of_lt hA
 have old:∀ b o,s2.heap.get? b=some o→h4.get? b=some o:=fun b o e=>hk4 b o (Heap.get?_push_of_some _ e)
 have hacc:h4.get? acc=some { cls:=.type "list",data:=.seq ([]:List Value).toArray }:=hk4 _ _ (by rw [← hac];exact Heap.get?_push_size _ rfl)
 have inA:∀ x c,(x,c)∈cellsFrom (C + 1) scope.names []→h4.IsCell c none∧C + 1≤c∧scope.names.lookup x=some .cell:=fun x c h=>⟨(hcells.empty x c h).1,(hcells.empty x c h).2,xat S.ndn (ZaJ _ _ h).1⟩
 have lk:∀ x c,(cellsFrom (C + 1) scope.names cl).lookup x=some c→(h4.IsCell c none∧C + 1≤c∧(x,c)∈cellsFrom (C + 1) scope.names [])∨(X.env.cells.lookup x=some c∧scope.names.lookup x=some .free):=fun x c h=>by
  rw [Yat] at h
  rcases List.mem_append.mp (PySem.mem_of_lookup h) with q | q
  ·exact .inl ⟨(inA x c q).1,(inA x c q).2.1,q⟩
  ·exact .inr ⟨(hcl1 x c q).1,xat S.ndn (hcl1 x c q).2⟩
 have lt2:∀ x c,X.env.cells.lookup x=some c→c < s2.heap.objs.size:=fun x c h=>by
  obtain ⟨v,z⟩:=I2.cell x c h
  exact z.lt
 have cellC:∀ x c,(cellsFrom (C + 1) scope.names cl).lookup x=some c→c≠C∧c≠acc∧H2 c=none∧∀ b∈fp,c≠b:=fun x c h=>by
  rcases lk x c h with ⟨_,h1,_⟩ | ⟨h1,_⟩
  ·refine ⟨neG (by omega),neG (by omega),I2.hok.fresh (by omega),fun b hb z=>?_⟩
   obtain ⟨o,e,_⟩:=T.obj 0 _ st2 b hb
   have:=ltN (Heap.lt_size e)
   rw [← z] at this
   omega
  ·have:=ltN (lt2 x c h1)
   exact ⟨neL (by omega),neL (by omega),I2.freeC x c h1,fun b hb=>(f2 b hb).2.2.2.2.1 x c h1⟩
 have frlk:∀ x,scope.names.lookup x=some .free→∃ c,X.env.cells.lookup x=some c∧(cellsFrom (C + 1) scope.names cl).lookup x=some c:=fun x h=>by
  obtain ⟨c,hcm⟩:=hcl2 x (PySem.mem_of_lookup h)
  have hc1:=(hcl1 x c hcm).1
  have hs:((cellsFrom (C + 1) scope.names cl).lookup x).isSome=true:=by
   refine PySem.W.cellsFrom_some scope.names (C + 1) cl (.inr ?_)
   cases q:cl.lookup x with
   | some d=>rfl
   | none =>
    exfalso
    have:∀ {l:List (Str×Addr)},(x,c)∈l→l.lookup x≠none:=by
     intro l
     induction l with
     | nil=>intro h;exact nomatch h
     | cons p r ih =>
      intro h z
      obtain ⟨k,v⟩:=p
      rw [List.lookup_cons] at z
      cases hb:x == k with
      | true=>rw [hb] at z;cases z
      | false =>
       rw [hb] at z
       rcases List.mem_cons.mp h with e | h
       ·cases e;simp at hb
       ·exact ih h z
    exact this hcm q
  obtain ⟨d,hd⟩:=Option.isSome_iff_exists.mp hs
  rcases lk x d hd with ⟨_,_,h2⟩ | ⟨h1,_⟩
  ·have:=(inA x d h2).2.2
   rw [h] at this;cases this
  ·rw [hc1] at h1;cases h1
   exact ⟨c,hc1,hd⟩
 have fpd:∀ b∈fp,b≠C∧b≠acc:=fun b hb=>by
  obtain ⟨o,e,_⟩:=T.obj 0 _ st2 b hb
  have:=ltN (Heap.lt_size e)
  exact ⟨neL (by omega),neL (by omega)⟩
 have kfn:(relabel scope X.env).kind=.function:=S.kind
 have ok:(cxComp X (own ++ fr) scope (cellsFrom (C + 1) scope.names cl) C fp s2 H2).Ok:=by
  refine ⟨I2.ok.mod,kfn,I2.ok.glob,I2.ok.blt,?_,fun x y c h1 h2=>?_,fun x hx=>?_,fun x c hx h=>?_,I2.ok.hd,I2.ok.frames,.inl rfl,fun b hb=>⟨(fpd b hb).1,fun x c h=>(cellC x c h).2.2.2 b hb⟩,I2.bs,Nat.le_trans I2.ok.bsz I2.sz,fun b o e hb=>?_,fun b hb z=>?_,I2.stack,I2.stkFree⟩
  ·show s2.heap.objs.size≤C
   omega
  ·rcases lk x c h1 with ⟨_,q1,q2⟩ | ⟨q1,_⟩
   ·rcases lk y c h2 with ⟨_,r1,r2⟩ | ⟨r1,_⟩
    ·exact name_of_addr hcells.apart q2 r2
    ·have:=ltN (lt2 y c r1);omega
   ·rcases lk y c h2 with ⟨_,r1,r2⟩ | ⟨r1,_⟩
    ·have:=ltN (lt2 x c q1);omega
    ·exact I2.ok.inj x y c q1 r1
  ·have hx':(relabel scope X.env).names.lookup x=some .cell∨(relabel scope X.env).names.lookup x=some .free:=hx
   rcases xaW scope X.env x with ⟨e,_⟩ | ⟨k,e1,e2⟩
   ·rcases hx' with z | z <;> (rw [e] at z;cases z)
   ·by_cases hk:k=.free
    ·subst hk
     obtain ⟨c,_,h⟩:=frlk x e1
     exact ⟨c,h⟩
    ·have hk':k=.cell:=by
      have hb:(k == NameKind.free)=false:=beq_eq_false_iff_ne.mpr hk
      rw [hb] at e2
      simp only [Bool.false_and,Bool.false_eq_true,if_false] at e2
      rcases hx' with z | z
      ·rw [e2] at z;exact Option.some.inj z
      ·rw [e2] at z;exact absurd (Option.some.inj z) hk
     subst hk'
     exact Option.isSome_iff_exists.mp (PySem.W.cellsFrom_some scope.names (C + 1) cl (.inl e1))
  ·have hx':scope.names.lookup x=some .cell:=of_decide_eq_true hx
   show s2.heap.objs.size≤c
   rcases lk x c h with ⟨_,q,_⟩ | ⟨_,q⟩
   ·omega
   ·rw [hx'] at q;cases q
  ·rcases (f2 b hb).2.2.2.1 with z | z
   ·exact I2.ok.noex b o e z
   ·have h1:@LT.lt Nat _ b X.base.objs.size:=Heap.lt_size e
    have h2:=I2.ok.bsz
    omega
  ·rcases List.mem_cons.mp (I2.stkSub b z) with e | e
   ·exact (f2 b hb).2.1 e
   ·exact (f2 b hb).2.2.1 e
 have I4:Inv (cxComp X (own ++ fr) scope (cellsFrom (C + 1) scope.names cl) C fp s2 H2) [(acc,{ cls:=.type "list",data:=.seq ([]:List Value).toArray })] (compSt own.length js σ) H2 { s2 with heap:=h4 }:=by
  refine ⟨ok,rfl,I2.bare,Un.kept old,⟨_,hns,fun i x v e1 e2 e3=>?_⟩,fun x c h=>?_,I2.hok.fresh (by show s2.heap.objs.size≤C;omega),fun x c h=>(cellC x c h).2.2.1,fun p hp=>?_,I2.hok.kept old,?_⟩
  ·have e1':(own ++ fr)[i]?=some x:=e1
   unfold compSt at e2
   by_cases hi:i < own.length
   ·rw [List.getElem?_append_left (by simpa using hi),List.getElem?_replicate] at e2
    split at e2 <;> cases e2
   ·rw [List.getElem?_append_right (by simpa using hi),List.length_replicate,List.getElem?_map] at e2
    rw [List.getElem?_append_right (by omega)] at e1'
    cases hj:js[i - own.length]? with
    | none=>rw [hj] at e2;cases e2
    | some j =>
     rw [hj] at e2
     have e2':σ.getD j none=some v:=Option.some.inj e2
     have hN:X.N[j]?=some x:=by
      have q:=congrArg (fun l=>l[i - own.length]?) S.ix
      simp only [List.getElem?_map,hj,e1',Option.map_some] at q
      exact Option.some.inj q
     have hσ:σ[j]?=some (some v):=by
      rw [List.getD_eq_getElem?_getD] at e2'
      cases q:σ[j]? with
      | none=>rw [q] at e2';cases e2'
      | some o=>rw [q] at e2';exact congrArg some e2'
     have hfr:scope.names.lookup x=some .free:=S.frl x (List.mem_of_getElem? e1')
     have hk:=S.free _ (PySem.mem_of_lookup hfr) rfl
     obtain ⟨m,_,hl⟩:=I2.loc
     obtain ⟨u,ru,lo⟩:=hl j x v hN hσ (by rcases hk with k | k;exact .inr (.inl k);exact .inr (.inr k))
     refine ⟨u,ru,.inr ⟨?_,?_⟩⟩
     ·rcases xaW scope X.env x with ⟨_,e⟩ | ⟨k,q1,q2⟩
      ·rw [hfr] at e;cases e
      ·rw [hfr] at q1;cases q1
       have q2':(compEnvC scope (cellsFrom (C + 1) scope.names cl) C X.env).kindOf x=some (if (NameKind.free == .free && X.env.scope.kind == .function && X.env.kindOf x == some .cell)=true then .cell else .free):=q2
       rw [show (cxComp X (own ++ fr) scope (cellsFrom (C + 1) scope.names cl) C fp s2 H2).env.kindOf x=_ from q2']
       split
       ·exact .inl rfl
       ·exact .inr rfl
     ·rcases lo with ⟨k,_⟩ | ⟨_,c,hc1,hc2⟩
      ·rcases hk with k' | k' <;> (rw [k] at k';cases k')
      ·obtain ⟨d,hd1,hd2⟩:=frlk x hfr
       rw [hc1] at hd1;cases hd1
       exact ⟨c,hd2,hc2.keeps old⟩
  ·rcases lk x c h with ⟨q,_,_⟩ | ⟨q,_⟩
   ·exact ⟨_,q⟩
   ·obtain ⟨v,z⟩:=I2.cell x c q
    exact ⟨v,z.keeps old⟩
  ·have e:p=(acc,{ cls:=.type "list",data:=.seq ([]:List Value).toArray }):=by simpa [cxComp] using hp
   subst e
   refine ⟨hacc,I2.hok.fresh (by omega),hAC,fun z=>?_,fun v z=>nomatch z⟩
   rcases List.mem_cons.mp (I2.stkSub acc z) with e | e
   ·have:=ltN I2.lt
    rw [← e] at this
    omega
   ·exact I2.nofs (by omega) e
  ·show (compSt own.length js σ).length=(own ++ fr).length
   have q:=congrArg List.length S.ix
   simp only [List.length_map] at q
   unfold compSt
   rw [List.length_append,List.length_replicate,List.length_map,List.length_append,q]
 have fpC:∀ {H':Hp} {ob:Obj},(∀ b∈fp,H' b=none)→∀ b∈fp,FpOk (cxComp X (own ++ fr) scope (cellsFrom (C + 1) scope.names cl) C fp s2 H2) [(acc,ob)] H' b:=fun {H' ob} hn b hb =>
  ⟨hn b hb,(fpd b hb).1,fun z=>by
   rcases List.mem_cons.mp (I2.stkSub b z) with e | e
   ·exact (f2 b hb).2.1 e
   ·exact (f2 b hb).2.2.1 e,.inl hb,fun x c h=>(cellC x c h).2.2.2 b hb,fun p hp=>by
   have e:p=(acc,ob):=by simpa [cxComp] using hp
   subst e
   exact fun z=>(fpd b hb).2 z.symm⟩
 have loop:codeAny (model X.prog X.w) X.A (.compLoop (.ListComp elt [⟨tg,iter,ifs,0⟩] scope pos) 0 (.ref it) (.ref acc) (compEnvC scope (cellsFrom (C + 1) scope.names cl) C X.env)) (RR (.ref acc) C) { s2 with heap:=h4 }:=by
  refine Ybm (fun m s'=>∃ (i:Nat) (ys:List V) (its:List Value) (n:Nat) (σ':St) (H':Hp),Inv (cxComp X (own ++ fr) scope (cellsFrom (C + 1) scope.names cl) C fp s2 H2) [(acc,{ cls:=.type "list",data:=.seq its.toArray n })] σ' H' s'∧Vals ys its∧tn i s'.heap∧(∀ b∈fp,H' b=none)∧W i m ys σ' H') ?_ m0
   ⟨0,[],[],0,_,H2,I4,.nil,T.keep _ _ _ st2 fun b _ o e=>old b o e,fun b hb=>(f2 b hb).1,w0⟩
  rintro n s5 ⟨i,ys,its,en,σ5,H5,I5,rv,st5,fr5,w5⟩
  obtain ⟨hz,alt⟩:=turn i n ys σ5 H5 w5
  rcases alt with ⟨stop,qn⟩ | ⟨go,step⟩
  ·refine thn (T.done (cxComp X (own ++ fr) scope (cellsFrom (C + 1) scope.names cl) C fp s2 H2) rfl rfl rfl hc i _ s5 σ5 H5 _ I5 (fpC fr5) st5 stop) fun r s6 ⟨hr,I6⟩=>?_
   subst hr
   show RR (.ref acc) C (.ok .next) s6
   have u:Un (frs X.stack) fp H2 H5 s2.heap s6.heap:=I6.base
   have J6:Inv X pins σ H5 s6:=I2.call' I6.os u I6.hok I6.bare fun b hb=>⟨(f2 b hb).2.2.2.1,(f2 b hb).2.1,(f2 b hb).2.2.2.2.1,(f2 b hb).2.2.2.2.2⟩
   have pacc:=I6.pin (acc,_) (List.mem_append_right _ List.mem_cons_self)
   have facc:FpOk X pins H5 acc:=I2.fpOk (by omega) pacc.2.1
   have fC:FpOk X pins H5 C:=I2.fpOk (by omega) I6.free
   have K6:Inv X pins σ (upd H5 acc (.lst ys)) s6:=J6.track facc ⟨Nat.le_of_lt hz,its,en,rv,pacc.1⟩
   obtain ⟨m,hm,_⟩:=I6.loc
   exact fin acc C _ s6 (.ref acc) rfl K6 ⟨by rw [zaj hAC.symm];exact fC.1,fC.2⟩ ⟨m,hm⟩ (qn acc pacc.2.1)
  ·refine thn (T.item (cxComp X (own ++ fr) scope (cellsFrom (C + 1) scope.names cl) C fp s2 H2) rfl rfl rfl hc i _ s5 σ5 H5 _ I5 (fpC fr5) st5 go) fun r s6 ⟨u,hr,h6⟩=>?_
   subst hr
   refine thn h6 fun _ s7 ⟨x,H7,I7,r7,y7,st7,fr7⟩=>?_
   have I7':=I7.pinned (fpC fr7) (T.obj _ _ st7)
   refine thn (hg _ _ _ _ _ _ s7 σ5 H7 x u _ I7' r7 (step x H7 y7)) fun _ s8 ⟨σ8,H8,I8,q8⟩=>?_
   refine thn (hf _ _ _ _ _ _ s8 σ8 H8 _ I8 q8) fun b s9 ⟨H9,I9,q9⟩=>?_
   have tnk:∀ {s':Shared} {σ':St} {H':Hp},Inv (cxComp X (own ++ fr) scope (cellsFrom (C + 1) scope.names cl) C fp s2 H2) ([(acc,{ cls:=.type "list",data:=.seq its.toArray en })] ++ pinsAt fp s7.heap) σ' H' s'→tn (i + 1) s'.heap∧∀ b∈fp,H' b=none:=fun {s' σ' H'} I' =>
    ⟨T.keep _ _ _ st7 fun b hb o e=>(I'.pin (b,o) (List.mem_append_right _ (List.mem_append_right _ (zaP hb e)))).1,fun b hb=>by
     obtain ⟨o,e,d⟩:=T.obj _ _ st7 b hb
     exact (I'.pin (b,o) (List.mem_append_right _ (List.mem_append_right _ (zaP hb e)))).2.1⟩
   cases b with
   | false =>
    obtain ⟨m',hm,w9⟩:=q9
    exact ⟨m',hm,i + 1,ys,its,en,σ8,H9,I9.unpinned,rv,(tnk I9).1,(tnk I9).2,w9⟩
   | true =>
    refine thn (he _ _ _ _ _ _ s9 σ8 H9 _ I9 q9) fun y s10 ⟨yv,H10,I10,r10,m',hm,w10⟩=>?_
    have pacc:=I10.pin (acc,_) (List.mem_append_right _ (List.mem_append_left _ List.mem_cons_self))
    have hlen:=rv.length
    refine wpAny_list_append_plain (items:=its.toArray) ⟨en,pacc.1⟩ (fun h11 ⟨en',hl11⟩ hs11=>?_) (by simp only [List.size_toArray];omega)
    have cA:∀ x c,(cellsFrom (C + 1) scope.names cl).lookup x=some c→c≠acc:=fun x c h=>(cellC x c h).2.1
    have Ia:Inv (cxComp X (own ++ fr) scope (cellsFrom (C + 1) scope.names cl) C fp s2 H2) [] σ8 H10 s10:=I10.pins_of fun p hp=>nomatch hp
    have Ib:Inv (cxComp X (own ++ fr) scope (cellsFrom (C + 1) scope.names cl) C fp s2 H2) [] σ8 H10 { s10 with heap:=h11 }:=Ia.turned (it:=acc) (t':=s10.toks) (fun b o hb e=>(hs11.2 b hb).trans e) pacc.2.1 hAC (.inr (by show s2.heap.objs.size≤acc;omega)) cA fun p hp=>nomatch (show p∈([]:List (Addr×Obj)) from by simpa [cxComp] using hp)
    refine ⟨m',hm,i + 1,ys ++ [yv],its ++ [y],en',σ8,H10,Ib.pins_of fun p hp=>?_,rv.append (.cons r10 .nil),T.keep _ _ _ (tnk I10).1 fun b hb o e=>(hs11.2 b (fpd b hb).2).trans e,(tnk I10).2,w10⟩
    have e:p=(acc,{ cls:=.type "list",data:=.seq (its ++ [y]).toArray en' }):=by simpa using hp
    subst e
    exact ⟨by simpa using hl11,pacc.2.1,pacc.2.2.1,pacc.2.2.2.1,fun v z=>nomatch z⟩
 exact codeAny_compStart_list loop (T.self X.A 0 _ _ _ (T.keep _ _ _ st2 fun b _ o e=>old b o e) loop)
theorem xaq (hc:X.calm=true) (S:CompSc X scope own fr js) (hi:PI X tg iter wi) (hg:∀ cells C fp s H,PG (cxComp X (own ++ fr) scope cells C fp s H) tg g) (hf:∀ cells C fp s H,PF (cxComp X (own ++ fr) scope cells C fp s H) ifs tc) (he:∀ cells C fp s H,PE (cxComp X (own ++ fr) scope cells C fp s H) elt te)
  (hs:∀ x,foldedSetIterable iter X.env x=pure x:=by intro _;rfl):PE X (.ListComp elt [⟨tg,iter,ifs,0⟩] scope pos) (tComp wi own.length js g tc te):=by
 intro pins s σ H Q I h
 obtain ⟨cl,hcl,hcl1,hcl2⟩:=Xa4 (scope:=scope) (env:=X.env) fun y hy hk=>I.ok.has y.1 (S.free y hy hk)
 rw [eval_ListComp]
 refine wpAny_comprehension_free (use:=none) rfl hs hcl S.kind (fun y hy hk=>by rw [← hk];exact xat S.ndn hy) (thn (hi pins s σ H _ I h) fun v s1 h1=>thn h1 fun itv s2 h2=>?_)
 obtain ⟨it,fp,tn,J,H2,e,I2,T,st2,f2,W,⟨m0,w0⟩,turn⟩:=h2
 subst e
 refine za5 (RR:=fun acc C=>compPost (model X.prog X.w) X.A X.xe none (EP X pins σ Q) acc C) hc S hg hf he I2 T st2 f2 hcl1 hcl2 W m0 w0 turn ?_
 intro acc C H' s' v hv I' fC ⟨m,hm⟩ q
 subst hv
 obtain ⟨f0,f1,f2',f3,f4,f5⟩:=fC
 exact ⟨m,hm,fun h'' hs''=>⟨.ref acc,H',I'.turned (it:=C) (t':=s'.toks) (fun b o hb e=>(hs''.2 b hb).trans e) f0 f1 f3 f4 f5,rfl,q⟩⟩
theorem yaZ {i:Nat} {x:Str} {pos' spos:Pos} (hc:X.calm=true) (hN:X.N.Nodup) (hx:X.N[i]?=some x) (hl:X.env.scope.names.lookup x=some .local) (S:CompSc X scope own fr js) (hi:PI X tg iter wi) (hg:∀ cells C fp s H,PG (cxComp X (own ++ fr) scope cells C fp s H) tg g) (hf:∀ cells C fp s H,PF (cxComp X (own ++ fr) scope cells C fp s H) ifs tc) (he:∀ cells C fp s H,PE (cxComp X (own ++ fr) scope cells C fp s H) elt te)
  (hsw:swapsWith (.ListComp elt [⟨tg,iter,ifs,0⟩] scope pos) (some (.Name x pos')) spos.line X.env=pure true:=by rfl)
  (hs:∀ x,foldedSetIterable iter X.env x=pure x:=by intro _;rfl):PS X (.Assign [.Name x pos'] (.ListComp elt [⟨tg,iter,ifs,0⟩] scope pos) spos) (tAsg (tComp wi own.length js g tc te) (gName i)):=by
 intro pins s σ H D I h
 obtain ⟨cl,hcl,hcl1,hcl2⟩:=Xa4 (scope:=scope) (env:=X.env) fun y hy hk=>I.ok.has y.1 (S.free y hy hk)
 rw [exec_Assign_Name_used _ _ _ _ hsw]
 refine wpAny_bind (wpAny_standAt (wpAny_bind ?_))
 show wpAny _ X.A (do let _ ← comprehension (.ListComp elt [⟨tg,iter,ifs,0⟩] scope pos) scope X.env _ (newList []) false (eval iter X.env) (some (assign (.Name x pos') X.env))) _ _ s
 refine wpAny_bind (wpAny_mono (wpAny_comprehension_free (use:=some (assign (.Name x pos') X.env)) (Q:=fun _ s'=>SP X pins D .next s') rfl hs hcl S.kind (fun y hy hk=>by rw [← hk];exact xat S.ndn hy)
  (thn (hi pins s σ H _ I h) fun v s1 h1=>thn h1 fun itv s2 h2=>?_)) (fun _ s' hq=>wpAny_pure (wpAny_pure hq)) fun _ _ e=>e)
 obtain ⟨it,fp,tn,J,H2,e,I2,T,st2,f2,W,⟨m0,w0⟩,turn⟩:=h2
 subst e
 refine za5 (Q:=fun v H'=>gName i v σ H' D.nx) (RR:=fun acc C=>compPost (model X.prog X.w) X.A X.xe (some (assign (.Name x pos') X.env)) (fun _ s'=>SP X pins D .next s') acc C) hc S hg hf he I2 T st2 f2 hcl1 hcl2 W m0 w0 turn ?_
 intro acc C H' s' v hv I' fC ⟨m,hm⟩ q
 subst hv
 obtain ⟨f0,f1,f2',f3,f4,f5⟩:=fC
 show wpAny _ X.A (assign (.Name x pos') X.env (.ref acc)) _ _ _
 refine wpAny_assign_Name (zbd I' hN hx (.inl hl) (show RelV (.ref acc) (.ref acc) from rfl) (fun s'' I'' ⟨a,hs1,ha⟩=>?_) (.inr hl))
 have haC:a≠C:=by
  rcases ha with e | e
  ·rw [e];exact f1.symm
  ·exact f4 _ _ e
 exact ⟨m,hm.sameBut hs1 haC.symm,fun h'' hs''=>⟨_,H',I''.turned (it:=C) (t':=s''.toks) (fun b o hb e=>(hs''.2 b hb).trans e) f0 f1 f3 f4 f5,q⟩⟩
end
end L2
namespace L2
open PySem PySem.Spec PyProof.Rows
section
variable {X:Cx}
theorem ZaP {k:Nat} (hr:Room k X.A):CallR X (.builtin "repr") (fun xs H Q=>∃ (x:V) (d:PyData),xs=[x]∧Rep X.K H x d∧d.showable=true∧d.canLay0=true∧d.shown.length≤sizeLine∧d.depth≤60∧Q (.str d.shown) H):=by
 intro pins s σ H xs us Q I r h
 obtain ⟨x,d,rfl,rp,sh,cl,sz,dp,q⟩:=h
 obtain ⟨u,rfl,ru⟩:=vals1 r
 obtain ⟨as,rd⟩:=rp.reads I ru
 have hu:=hr.units
 have big:∀ a,u=.ref a→wpAny (model X.prog X.w) X.A (call (.builtin "repr") [u]) (EP X pins σ Q) X.xe s:=fun a e=>by
  subst e
  exact repr_of_reads' rd sh (PyData.noDict_hsm (PyData.hasDict_of_canLay _ cl)) hr.gd (by omega) (fun _ _ e=>e) (fun h' u tk kp=>⟨.str _,H,I.kept kp,⟨_,rfl⟩,q⟩) sz
 cases rp with
 | non =>
  cases ru
  have e:PyData.shown .none="None" := by simp only [PyData.shown]
  rw [e] at q
  exact P.repr_of_none ⟨.str _,H,I.tok _,⟨_,rfl⟩,q⟩
 | bl b =>
  cases ru
  have e:PyData.shown (.bool b)=(if b=true then Str.ofString "True" else Str.ofString "False"):=by simp only [PyData.shown]
  rw [e] at q
  exact P.repr_of_bool ⟨.str _,H,I.tok _,⟨_,rfl⟩,q⟩
 | int i =>
  obtain ⟨t,rfl⟩:=ru
  have e:PyData.shown (.int i)=toString i:=by simp only [PyData.shown]
  rw [e] at q
  have sh':i.natAbs.log2 < 1920:=by simpa only [PyData.showable,decide_eq_true_eq] using sh
  exact P.repr_of_int sh' ⟨.str _,H,I.tok _,⟨_,rfl⟩,q⟩
 | str x =>
  obtain ⟨t,rfl⟩:=ru
  have e:PyData.shown (.str x)=reprText x:=by simp only [PyData.shown]
  rw [e] at q sz
  exact P.repr_of_str ⟨.str _,H,I.tok _,⟨_,rfl⟩,q⟩ sz
 | tup _ _=>cases ru;exact big _ rfl
 | lst _ _=>cases ru;exact big _ rfl
theorem Ybq:∀ {bs:List Bool} {us:List Value} {i:Nat} {v:Value},Vals (bs.map V.bl) us→us[i]?=some v→∃ b,bs[i]?=some b∧v=.bool b
 | [],_,i,v,r,h=>by cases r;simp at h
 | b :: bs,_,0,v,r,h=>by
  cases r with
  | cons r1 r2 =>
   cases (show _=Value.bool b from r1)
   simp at h
   exact ⟨b,rfl,h.symm⟩
 | b :: bs,_,i + 1,v,r,h=>by
  cases r with
  | cons r1 r2 =>
   obtain ⟨c,e1,e2⟩:=Ybq (i:=i) r2 (by simpa using h)
   exact ⟨c,by simpa using e1,e2⟩
theorem ybG (hc:X.calm=true):CallR X (.builtin "all") (fun xs H Q=>∃ (p:Addr) (bs:List Bool),xs=[.ref p]∧SqL X.K H p (bs.map V.bl)∧Q (.bl (bs.all id)) H):=by
 intro pins s σ H xs us Q I r h
 obtain ⟨p,bs,rfl,hq,q⟩:=h
 obtain ⟨u,rfl,ru⟩:=vals1 r
 cases ru
 obtain ⟨its,rv,pl,_⟩:=I.list hq
 have hl:=pl.isList
 have hlt:p < s.heap.objs.size:=by obtain ⟨_,e,_⟩:=hl;exact Heap.lt_size e
 have hlen:=rv.length
 rw [List.length_map] at hlen
 have hh:X.A.in1.handled=none:=I.ok.hd hc
 refine call_all_walk (wpAny_pyIter_list hl ?_)
 refine ⟨s.heap.objs.size,[s.heap.objs.size,p],[s.heap.objs.size],its.toArray.size,_,_,fun i=>(bs[i]?).getD true,rfl,Walks.list (A:=X.A.in1) hh _ p (Nat.ne_of_lt hlt) its.toArray,
  ⟨⟨_,Heap.get?_push_size _ rfl,rfl,rfl⟩,hl.push _⟩,fun i v s' Q' E' hP hQ=>?_,fun h' tk hk=>?_⟩
 ·obtain ⟨b,e,rfl⟩:=Ybq rv (by simpa using hP)
  simp only [e,Option.getD_some] at hQ
  exact wpAny_truthy_bool hQ
 ·have e:((List.range its.toArray.size).all fun i=>(bs[i]?).getD true)=bs.all id:=by
   rw [List.size_toArray,← hlen];exact PyProof.Rows.LSm.range_all bs
  rw [e]
  exact ⟨.bl _,H,I.kept (PyProof.Rows.LSm.kept_iter hk),rfl,q⟩
end
section
variable {prog:Program} {w:World} {A:Around} {E:Value→Shared→Prop} {s:Shared}
end
section
variable {X:Cx}
end
mutual
noncomputable def wD:PyData→Nat
 | .none=>4
 | .bool _=>5
 | .int _=>1921
 | .str x=>(reprText x).length
 | .list _=>0
 | .tuple xs=>wAll xs + 3
 | .dict _=>0
noncomputable def wAll:List PyData→Nat
 | []=>0
 | x :: xs=>wD x + 2 + wAll xs
end
mutual
noncomputable def noL:PyData→Bool
 | .none=>true
 | .bool _=>true
 | .int _=>true
 | .str _=>true
 | .list _=>false
 | .tuple xs=>noLs xs
 | .dict _=>false
noncomputable def noLs:List PyData→Bool
 | []=>true
 | x :: xs=>noL x && noLs xs
end
theorem ybf (ts:List Str):(tupleText ts).length≤piled ts + 3:=by
 unfold tupleText
 rw [strLen_append,strLen_append]
 have e1:((("(" : String):Str)).length=1:=rfl
 have e3:(((if ts.length == 1 then ",)" else ")" : String):Str)).length≤2:=by split <;> decide
 rw [e1]
 by_cases h:ts=[]
 ·subst h
  have e4:(Str.join ", " []).length=0:=rfl
  rw [e4];omega
 ·have:=join_length_add ts h
  omega
mutual
theorem za8:∀ (d:PyData),d.showable=true→noL d=true→d.shown.length≤wD d
 | .none,_,_=>by simp only [PyData.shown,wD];decide
 | .bool b,_,_=>by simp only [PyData.shown,wD];cases b <;> decide
 | .int i,h,_=>by
  simp only [PyData.shown,wD]
  exact int_text_len_1921 (by simpa only [PyData.showable,decide_eq_true_eq] using h)
 | .str x,_,_=>by simp only [PyData.shown,wD];exact Nat.le_refl _
 | .list _,_,h=>by simp only [noL] at h;cases h
 | .dict _,_,h=>by simp only [noL] at h;cases h
 | .tuple xs,h,h'=>by
  simp only [PyData.shown,wD]
  have:=xbq xs (by simpa only [PyData.showable] using h) (by simpa only [noL] using h')
  have:=ybf (PyData.shownAll xs)
  omega
theorem xbq:∀ (ds:List PyData),PyData.showableAll ds=true→noLs ds=true→piled (PyData.shownAll ds)≤wAll ds
 | [],_,_=>by simp only [PyData.shownAll,wAll,piled_nil];exact Nat.le_refl _
 | d :: ds,h,h'=>by
  simp only [PyData.showableAll,Bool.and_eq_true] at h
  simp only [noLs,Bool.and_eq_true] at h'
  simp only [PyData.shownAll,wAll,piled_cons]
  have:=za8 d h.1 h'.1
  have:=xbq ds h.2 h'.2
  omega
end
theorem Zbf:∀ (ns:List Int),wAll (intsD ns)=1923 * ns.length
 | []=>rfl
 | n :: r=>by
  show wD (.int n) + 2 + wAll (intsD r)=1923 * (r.length + 1)
  rw [Zbf r]
  simp only [wD];omega
section
variable {K:PySem.W.Frag} {ch:List Addr} {H H':Hp}
theorem Ybf:∀ (ns:List Int),noLs (intsD ns)=true
 | []=>rfl
 | n :: r=>by show (true && noLs (intsD r))=true;rw [Ybf r];rfl
end
noncomputable def tupD (ns:List Int):PyData:=.tuple (intsD ns)
theorem zbU (ns:List Int):noL (tupD ns)=true:=by unfold tupD;simp only [noL];exact Ybf ns
theorem ZaZ:∀ (rs:List (List Int)),noLs (rs.map tupD)=true
 | []=>rfl
 | r :: rs=>by rw [List.map_cons];simp only [noLs];rw [zbU,ZaZ rs];rfl
theorem YaJ:∀ (rs:List (List Int)),PyData.canLayAll0 (rs.map tupD)=true
 | []=>rfl
 | r :: rs=>by
  show (PyData.canLayAll0 (intsD r) && PyData.canLayAll0 (rs.map tupD))=true
  rw [Zao,YaJ rs];rfl
theorem ZaV:∀ (rs:List (List Int)),PyData.depthAll (rs.map tupD)≤1
 | []=>Nat.zero_le _
 | r :: rs=>by
  show max (PyData.depthAll (intsD r) + 1) (PyData.depthAll (rs.map tupD))≤1
  have:=ZaV rs
  rw [xaC];omega
noncomputable def total (rs:List (List Int)):Nat:=(rs.map List.length).sum
theorem YaZ:∀ (rs:List (List Int)),wAll (rs.map tupD)=1923 * total rs + 5 * rs.length
 | []=>rfl
 | r :: rs=>by
  show wD (tupD r) + 2 + wAll (rs.map tupD)=1923 * (r.length + total rs) + 5 * (rs.length + 1)
  rw [YaZ rs]
  unfold tupD
  simp only [wD,Zbf];omega
noncomputable def smI (i:Int):Prop:=-1000000000000000000≤i∧i≤1000000000000000000
theorem smI.log {i:Int} (h:smI i):i.natAbs.log2 < 1920:=by
 have h1:i.natAbs < 2 ^ 1920:=Nat.lt_of_lt_of_le (show i.natAbs < 2 ^ 64 by unfold smI at h;omega) (Nat.pow_le_pow_right (n:=2) (by decide) (show 64≤1920 by decide))
 by_cases h0:i.natAbs=0
 ·rw [h0];decide
 ·exact (Nat.log2_lt h0).mpr h1
theorem xaJ:∀ {ns:List Int},(∀ i∈ns,smI i)→PyData.showableAll (intsD ns)=true
 | [],_=>rfl
 | n :: r,h=>by
  show (PyData.showable (.int n) && PyData.showableAll (intsD r))=true
  rw [xaJ fun i hi=>h i (List.mem_cons_of_mem _ hi),Bool.and_true]
  simp only [PyData.showable,decide_eq_true_eq]
  exact (h n List.mem_cons_self).log
theorem XaJ:∀ {rs:List (List Int)},(∀ r∈rs,∀ i∈r,smI i)→PyData.showableAll (rs.map tupD)=true
 | [],_=>rfl
 | r :: rs,h=>by
  show (PyData.showable (tupD r) && PyData.showableAll (rs.map tupD))=true
  rw [XaJ fun r' hr=>h r' (List.mem_cons_of_mem _ hr),Bool.and_true]
  unfold tupD
  simp only [PyData.showable]
  exact xaJ (h r List.mem_cons_self)
end L2
namespace L2
open PySem PySem.Spec PyProof.Rows
section
variable {X:Cx} {K:PySem.W.Frag}
theorem Xat (hK:X.K=K):IxR X (rIxT K):=by subst hK;exact Zas
theorem Xbw (hK:X.K=K):OpR X (compareOp .In) (rIn K false):=by subst hK;exact XbE
theorem YaT (hK:X.K=K):OpR X (compareOp .NotIn) (rIn K true):=by subst hK;exact xaM
theorem ya8 (hK:X.K=K):CallR X (.builtin "len") (fun xs H Q=>∃ p ys,xs=[V.ref p]∧(SqL K H p ys∨SqT K H p ys)∧Q (.int ys.length) H):=by subst hK;exact Yae
theorem za3 (hK:X.K=K):CallR X (.type "tuple") (fun xs H Q=>∃ p ys,xs=[V.ref p]∧((SqL K H p ys∧∀ l,H l=none→Q (.ref l) (upd H l (.tup ys)))∨(SqT K H p ys∧Q (.ref p) H))):=by subst hK;exact xad
end
end L2
namespace L2
open PySem PySem.Spec PyProof.Rows
section
variable {prog:Program} {w:World} {A:Around} {E:Value→Shared→Prop} {s:Shared}
theorem zbx {j t:Addr} {i:Nat} {ys:Array Value} {y:Value} {Q:Value→Shared→Prop} (hj:s.heap.IsTupleIter j t i) (ht:s.heap.IsTuple t ys) (hy:ys[i]?=some y)
  (hQ:∀ h',h'.IsTupleIter j t (i + 1)→Heap.SameBut j s.heap h'→Q y { s with heap:=h' }):wpAny (model prog w) A (Builtin.SmallTypes.nextOf (.ref j)) Q E s:=by
 obtain ⟨r,hr,rc,rd⟩:=id hj
 obtain ⟨q,hq,_,nq,dq⟩:=ht
 unfold Builtin.SmallTypes.nextOf
 refine wpAny_bind (wpAny_callSpecial?_slot (name:=Str.ofString "__next__") hj.typeIs F.slot_tuple_iterator_next (wpAny_call_entry F.slot_tuple_iterator_next hj.typeIs F.entry_tuple_iterator_next ?_ (F.args_tuple_iterator_next_1 _)))
 show wpAny _ _ (PySem.field (.ref j) 0 >>= _) _ _ s
 refine wpAny_bind (wpAny_field hr rd (x:=.ref t) rfl ?_);show wpAny _ _ (if (Value.ref t == Value.none)=true then _ else _) _ _ s
 rw [if_neg (fun z:(Value.ref t == Value.none)=true=>Bool.false_ne_true z)];show wpAny _ _ (PySem.field (.ref j) 1 >>= _) _ _ s
 refine wpAny_bind (wpAny_field hr rd (x:=.int i 0) rfl ?_);show wpAny _ _ (seqItems? (.ref t) >>= _) _ _ s
 refine wpAny_bind (wpAny_seqItems hq dq ?_);simp only [Int.toNat_natCast,hy]
 refine wpAny_bind (wpAny_setField hr rd (by simp) (wpAny_pure ⟨y,rfl,wpAny_pure (hQ _ ⟨_,Heap.get?_update_self _ hr (Obj.isFreed_of_fields (Obj.data_mapFields rd _)),(Obj.cls_mapFields ..).trans rc,by rw [Obj.data_mapFields rd];simp [rawInt]⟩ (Heap.SameBut.update ..))⟩))
theorem ZbG {j t:Addr} {i:Nat} {ys:Array Value} {Q:Value→Shared→Prop} (hh:A.handled=none) (hj:s.heap.IsTupleIter j t i) (ht:s.heap.IsTuple t ys) (hy:ys[i]?=none)
  (hE:∀ h' e,Heap.ExtBut j s.heap h'→(∃ o,h'.get? e=some o∧o.cls=.type "StopIteration")→E (.ref e) { s with heap:=h' }):wpAny (model prog w) A (Builtin.SmallTypes.nextOf (.ref j)) Q E s:=by
 obtain ⟨r,hr,rc,rd⟩:=id hj
 obtain ⟨q,hq,_,nq,dq⟩:=ht
 unfold Builtin.SmallTypes.nextOf
 refine wpAny_bind (wpAny_callSpecial?_slot (name:=Str.ofString "__next__") hj.typeIs F.slot_tuple_iterator_next (wpAny_call_entry F.slot_tuple_iterator_next hj.typeIs F.entry_tuple_iterator_next ?_ (F.args_tuple_iterator_next_1 _)))
 show wpAny _ _ (PySem.field (.ref j) 0 >>= _) _ _ s
 refine wpAny_bind (wpAny_field hr rd (x:=.ref t) rfl ?_);show wpAny _ _ (if (Value.ref t == Value.none)=true then _ else _) _ _ s
 rw [if_neg (fun z:(Value.ref t == Value.none)=true=>Bool.false_ne_true z)];show wpAny _ _ (PySem.field (.ref j) 1 >>= _) _ _ s
 refine wpAny_bind (wpAny_field hr rd (x:=.int i 0) rfl ?_);show wpAny _ _ (seqItems? (.ref t) >>= _) _ _ s
 refine wpAny_bind (wpAny_seqItems hq dq ?_);simp only [Int.toNat_natCast,hy]
 refine wpAny_bind (wpAny_rule (wpAny_bind (wpAny_setField hr rd (by simp) ?_)));show wpAny _ _ (newExc (.type "StopIteration") [] >>= _) _ _ _
 refine wpAny_bind ?_;simp only [newExc,newTuple]
 refine wpAny_bind (wpAny_newObj_type ?_ (by size_fits));refine wpAny_bind (m:=firstArgMember _ _) (wpAny_of_eq (a:=Value.none) (by first | rfl | (simp only [firstArgMember];rfl)) ?_)
 refine wpAny_newObj_type ?_ (by size_fits);simp only [raiseNew]
 refine wpAny_bind (wpAny_handled ?_);first | rw [show A.in1.handled=none from hh] | rw [hh]
 exact wpAny_bind (wpAny_pure (wpAny_throw (hE _ _ (((Heap.SameBut.update ..).extBut.push _).push _) ⟨_,Heap.get?_push_size _ rfl,rfl⟩)))
end
theorem drawsT {prog:Program} {w:World} {A:Around} (hh:A.handled=none) (j t:Addr) (hne:t≠j) (ys:Array Value) :
  Draws prog w A j [j,t] ys.size (fun i v=>ys[i]?=some v) (fun i h=>h.IsTupleIter j t i∧h.IsTuple t ys) where
 live:=fun _ _ st=>let ⟨o,ho,_⟩:=st.1;⟨o,ho⟩
 frame:=fun _ _ _ st k=>⟨st.1.at fun o e=>k j (by simp) o e,let ⟨o,e,r⟩:=st.2;⟨o,k t (by simp) o e,r⟩⟩
 item:=fun i s Q E hi st hQ=>zbx st.1 st.2 (y:=ys[i]) (by simp [hi]) fun h' a b=>hQ _ h' s.toks (by simp [hi]) ⟨a,st.2.extBut b.extBut hne⟩ b
 done:=fun s Q E st hE=>ZbG hh st.1 st.2 (by simp) hE
theorem YbG (l:Addr) (items:Array Value) (n:Nat) (dct:Option Addr) (sl:Array (Option Value)) :
  Meets (Builtin.«enumerate.__new__» ⟨[.type "enumerate",.ref l],[]⟩) (fun _ R s=>s.heap.get? l=some { cls:=.type "tuple",dict:=dct,data:=.seq items n,slots:=sl } ∧
   R (.ok (.ret (.ref (s.heap.push { cls:=.type "tuple_iterator",data:=.fields #[.ref l,.int 0 0] }).objs.size)))
    { s with heap:=(s.heap.push { cls:=.type "tuple_iterator",data:=.fields #[.ref l,.int 0 0] }).push { cls:=.type "enumerate",data:=.fields #[.none,.bool false,.ref s.heap.objs.size,rawInt 0,.none,.none] } }) :=
 .of_wp fun prog w A R s h=>by
  obtain ⟨hp,g,d,tk,os⟩:=s;obtain ⟨hl,h⟩:=h
  have hsub:=sub_enumerate
  have hL:Heap.IsTuple (Shared.heap ⟨hp,g,d,tk,os⟩) l items:=⟨_,hl,rfl,n,rfl⟩
  wp_walk using AutoSeq1.wpAny_loadPart' hl
  refine wpAny_stack_any fun st=>wpAny_pure ?_
  split
  ·rename_i c _ _ _ _ _
   cases (c == Value.type "enumerate") <;> (wp_walk using AutoSeq1.wpAny_loadPart' hl,wpAny_pyIter_tuple hL;exact ⟨_,rfl,h⟩)
  ·wp_walk using AutoSeq1.wpAny_loadPart' hl,wpAny_pyIter_tuple hL
   exact ⟨_,rfl,h⟩
section
variable {prog:Program} {w:World} {A:Around} {E:Value→Shared→Prop} {s:Shared}
theorem ybx {l:Addr} {ys:Array Value} {Q:Value→Shared→Prop} (ht:s.heap.IsTuple l ys)
  (h:∀ h',IsEnum h' (s.heap.objs.size + 1) s.heap.objs.size 0 .none→h'.IsTupleIter s.heap.objs.size l 0→h'.objs.size=s.heap.objs.size + 2 →
   (∀ b o,s.heap.get? b=some o→h'.get? b=some o)→Q (.ref (s.heap.objs.size + 1)) { s with heap:=h' }):wpAny (model prog w) A (call (.type "enumerate") [.ref l]) Q E s:=by
 obtain ⟨⟨c,dct,dt,sl⟩,hl,hc,n,hd⟩:=ht
 cases (show c=.type "tuple" from hc)
 cases (show dt=.seq ys n from hd)
 refine callType_new F.called_enumerate (by decide) (F.typeCall_enumerate_1 _) (F.newCall_enumerate_1 _) (fun obj=>F.args_object_init_2 obj _) F.entry_enumerate_new (YbG l ys n dct sl) ⟨hl,?_⟩
 have z:(s.heap.push { cls:=.type "tuple_iterator",data:=.fields #[.ref l,.int 0 0] }).objs.size=s.heap.objs.size + 1:=Heap.size_push ..
 show _∧_;rw [z]
 have en:IsEnum ((s.heap.push { cls:=.type "tuple_iterator",data:=.fields #[.ref l,.int 0 0] }).push { cls:=.type "enumerate",data:=.fields #[.none,.bool false,.ref s.heap.objs.size,rawInt 0,.none,.none] }) (s.heap.objs.size + 1) s.heap.objs.size 0 .none:=by
  have g:=Heap.get?_push_size (s.heap.push { cls:=.type "tuple_iterator",data:=.fields #[.ref l,.int 0 0] }) (o:={ cls:=.type "enumerate",data:=.fields #[.none,.bool false,.ref s.heap.objs.size,rawInt 0,.none,.none] }) rfl
  rw [z] at g
  exact g
 exact ⟨⟨_,en,rfl⟩,h _ en ⟨_,Heap.get?_push_of_some _ (Heap.get?_push_size _ rfl),rfl,rfl⟩ (by rw [Heap.size_push,z]) fun b o e=>Heap.get?_push_of_some _ (Heap.get?_push_of_some _ e)⟩
end
section
variable {X:Cx} {pins:List (Addr×Obj)} {σ:St} {H:Hp} {s:Shared} {h':Heap}
theorem Inv.turnedL {t':Nat} {ch:List Addr} (I:Inv X pins σ H s) (k:∀ b o,b ∉ ch→s.heap.get? b=some o→h'.get? b=some o) (f:∀ b∈ch,FpOk X pins H b):Inv X pins σ H { s with heap:=h',toks:=t' }:=by
 have nit:∀ b u,H b=some u→b ∉ ch:=fun b u e z=>by rw [(f b z).1] at e;cases e
 refine I.step (g':=s.gens) (d':=s.drawn) (ch:=ch) (fun b hb=>⟨(f b hb).2.2.2.1,(f b hb).2.1,(f b hb).2.2.2.2.1,(f b hb).2.2.2.2.2⟩) (fun b o _ _ hc e _=>k b o hc e) (fun b o _ _ hc e _=>⟨o.slots,k b o hc e⟩) (fun _ _ _ _ n=>n)
  (fun b o hc e=>⟨o,k b o hc e⟩) (fun _ _ e=>e) (fun _ _ _ e=>e) (fun b ps e=>⟨#[],by rw [e];simp⟩) (fun m hm=>?_) (fun b u e=>?_) I.bare
 ·obtain ⟨o,es,ep,ho,r⟩:=hm
  exact ⟨o,es,ep,k _ o (fun z=>(f _ z).2.1 rfl) ho,r⟩
 ·refine (I.hok b u e).stay (fun c v hc q=>k c v ?_ q) (fun _ q=>q) fun _ _ q=>q
  rcases hc with z | z
  ·rw [z];exact nit b u e
  ·exact nit c _ z
end
noncomputable def Ite (K:PySem.W.Frag) (a:Addr):It :=
 ⟨fun i H=>∃ xs x,SqT K H a xs∧xs[i]?=some x,fun i H x H'=>∃ p y,x=.ref p∧H p=none∧H'=upd H p (.tup [.int i,y])∧∀ xs,SqT K H a xs→xs[i]?=some y,fun i H=>∃ xs,SqT K H a xs∧xs.length=i⟩
theorem xbG {P:Program} {w:World} {K:PySem.W.Frag} {es:List Expr} {x1} {pos:Pos} (a e it:Addr) (hne:e≠it) :
  Turn P w K (.Tuple es x1 pos) (Ite K a) [e,it] e (fun i h=>(∃ old,IsEnum h e it i old)∧h.IsTupleIter it a i) where
 mem:=by simp
 obj:=fun i h st b hb=>by
  obtain ⟨⟨old,he⟩,o,e2,c,d⟩:=st
  rcases List.mem_cons.mp hb with rfl | hb
  ·exact ⟨_,he,fun v z=>by
    have z':Data.fields _=Data.cell v:=z
    cases z'⟩
  ·have q:b=it:=by simpa using hb
   subst q
   exact ⟨o,e2,fun v z=>by rw [d] at z;cases z⟩
 keep:=fun i h h' st k=>⟨let ⟨old,he⟩:=st.1;⟨old,k e (by simp) _ he⟩,st.2.at fun o q=>k it (by simp) o q⟩
 item:=by
  intro X hP hw hK hc i pins s σ H E I hf st hg
  subst hP hw hK
  obtain ⟨xs,x,hq,hx⟩:=hg
  obtain ⟨its,rv,p,hz⟩:=I.tuple hq
  obtain ⟨u,hu,ru⟩:=rv.get hx
  obtain ⟨⟨old,he⟩,hit⟩:=st
  have ht:s.heap.IsTuple a its.toArray:=p
  have nai:a≠it:=fun z=>by
   obtain ⟨o,e1,c1,_⟩:=hit
   obtain ⟨o2,e2,c2,_⟩:=ht
   rw [z,e1] at e2;cases e2
   exact absurd (c1.symm.trans c2) (by simp)
  have nae:e≠a:=fun z=>by
   obtain ⟨o2,e2,c2,_⟩:=ht
   rw [← z,he] at e2;cases e2
   exact absurd c2 (by simp)
  have hl:=rv.length
  have hi:i < its.toArray.size:=by
   have:=List.getElem?_eq_some_iff.mp hu
   obtain ⟨q,_⟩:=this
   simpa using q
  refine wpAny_pyNext_enum_itemD (drawsT (A:=X.A.in1) (I.ok.hd hc) it a nai its.toArray) he ⟨hit,ht⟩ hi hne (by simp [hne,nae]) fun y h1 tk hy ho hst hT hsz kk=>?_
  have ey:y=u:=by
   have:its.toArray[i]?=some u:=by simpa using hu
   exact Option.some.inj (hy.symm.trans this)
  subst ey
  refine ⟨_,rfl,wpAny_letOwnedTupleGo_enum ho fun h2 he2 sb=>?_⟩
  have hel:@LT.lt Nat _ e s.heap.objs.size:=Heap.lt_size he
  have hil:@LT.lt Nat _ it s.heap.objs.size:=by obtain ⟨o,e1,_⟩:=hit;exact Heap.lt_size e1
  have hf0:H s.heap.objs.size=none:=I.hok.fresh (Nat.le_refl _)
  have sb':Heap.SameBut e h1 h2:=sb
  have I1:Inv X pins σ (upd H s.heap.objs.size (.tup [.int i,x])) { s with heap:=s.heap.push { cls:=.type "tuple",data:=.seq #[.int i tk,y] },toks:=s.toks } :=
   I.laid (fun b u e=>Heap.get?_push_of_some _ e) (Nat.le_refl _) ⟨(by decide:2≤sizeLine),[.int i tk,y],.cons ⟨tk,rfl⟩ (.cons ru .nil),⟨_,Heap.get?_push_size _ rfl,rfl,rfl,_,rfl⟩⟩
  have nn:∀ b∈[e,it],@LT.lt Nat _ b s.heap.objs.size:=fun b hb=>by
   rcases List.mem_cons.mp hb with rfl | hb
   ·exact hel
   ·have q:b=it:=by simpa using hb
    rw [q];exact hil
  have hn:∀ b∈[e,it],upd H s.heap.objs.size (.tup [.int i,x]) b=none:=fun b hb=>by
   unfold upd
   rw [if_neg (Nat.ne_of_lt (nn b hb))]
   exact (hf b hb).1
  have I2:Inv X pins σ (upd H s.heap.objs.size (.tup [.int i,x])) { s with heap:=h2,toks:=tk + 1 }:=by
   refine Inv.turnedL (s:={ s with heap:=s.heap.push { cls:=.type "tuple",data:=.seq #[.int i tk,y] },toks:=s.toks }) (h':=h2) I1 (ch:=[e,it]) (t':=tk + 1) (fun b o hb q=>?_) fun b hb=>⟨hn b hb,(hf b hb).2⟩
   have nb:b≠e∧b≠it:=by simpa using hb
   refine (sb'.2 b nb.1).trans ?_
   rcases Heap.get?_push_cases q with ⟨rfl,rfl⟩ | q
   ·exact hT
   ·exact kk b o nb.1 nb.2 q
  refine ⟨.ref s.heap.objs.size,_,I2,rfl,⟨_,x,rfl,hf0,rfl,fun ys hy2=>by rw [I.tuple_inj hy2 hq];exact hx⟩,⟨⟨y,?_⟩,?_⟩,hn⟩
  ·have:((i + 1:Nat):Int)=(i:Int) + 1:=by omega
   rw [this];exact he2
  ·exact hst.1.extBut sb'.extBut (Ne.symm hne)
 done:=by
  intro X hP hw hK hc i pins s σ H E I hf st hg
  subst hP hw hK
  obtain ⟨xs,hq,hx⟩:=hg
  obtain ⟨its,rv,p,hz⟩:=I.tuple hq
  obtain ⟨⟨old,he⟩,hit⟩:=st
  have ht:s.heap.IsTuple a its.toArray:=p
  have nai:a≠it:=fun z=>by
   obtain ⟨o,e1,c1,_⟩:=hit
   obtain ⟨o2,e2,c2,_⟩:=ht
   rw [z,e1] at e2;cases e2
   exact absurd (c1.symm.trans c2) (by simp)
  have hl:=rv.length
  have ei:its.toArray.size=i:=by simp;omega
  refine wpAny_pyNext_enum_endD (drawsT (A:=X.A.in1) (I.ok.hd hc) it a nai its.toArray) he (by rw [ei];exact ⟨hit,ht⟩) fun h1 eb=>⟨rfl,?_⟩
  obtain ⟨f0,f1,f2,f3,f4,f5⟩:=hf it (by simp)
  exact I.turned (t':=s.toks) (fun b o hb q=>eb b o hb q) f0 f1 f3 f4 f5
 self:=fun _ _ _ _ _ st h=>let ⟨_,he⟩:=st.1;wpAny_pyIter_enum he h
noncomputable def iEnum (K:PySem.W.Frag) (ta:TA):TI:=fun σ H R=>ta σ H fun vs H1=>∃ a,vs=[.ref a]∧(∃ xs,SqT K H1 a xs)∧R (Ite K a) H1
theorem yb6 {X:Cx} {es:List Expr} {x1} {p0:Pos} {l:Expr} {ta:TA} {p pos:Pos} (hg:Gl X "enumerate") (hm:X.mg "enumerate" = none) (ha:PA X [l] ta) (hs:starEach [l] X.env=[(false,eval l X.env)]:=by rfl) :
  PI X (.Tuple es x1 p0) (.Call (.Name "enumerate" p) [l] [] pos) (iEnum X.K ta):=by
 intro pins s σ H R I h
 refine Call_ (Zbd I hg hm boot_enumerate (PyProof.Rows.callWith_type1 (thn (ha pos pins s σ H _ I h) fun us s1 ⟨vs,H1,I1,r1,q1⟩=>?_) hs rfl))
 obtain ⟨a,e,⟨xs,hq⟩,q⟩:=q1
 subst e
 cases r1 with
 | cons r rr =>
  cases rr
  cases r
  obtain ⟨its,rv,p,hz⟩:=I1.tuple hq
  refine ybx (show s1.heap.IsTuple a its.toArray from p) fun h1 he hi hsz kk=>?_
  refine wpAny_pyIter_enum he ?_
  refine ⟨s1.heap.objs.size + 1,[s1.heap.objs.size + 1,s1.heap.objs.size],_,_,H1,rfl,I1.kept (t':=s1.toks) kk,xbG a _ _ (Nat.succ_ne_self _),⟨⟨_,he⟩,hi⟩,fun b hb=>?_,q⟩
  have hb':@LE.le Nat _ s1.heap.objs.size b:=by
   rcases List.mem_cons.mp hb with rfl | hb
   ·exact Nat.le_succ _
   ·have e:b=s1.heap.objs.size:=by simpa using hb
    rw [e];exact Nat.le_refl _
  exact I1.fpOk hb' (I1.hok.fresh hb')
end L2
namespace L2
open PySem PySem.Spec PyProof.Rows
section
open Sem (wp)
open PySem.AutoSeq1 (wpAny_loadPart')
open PySem.MeetsSeq PySem.MeetsSeq2 PySem.MeetsSeq3
theorem IntsAre.get {vs:List Value} {ns:List Int} (h:IntsAre vs ns):∀ {i:Nat} {n:Int},ns[i]?=some n→∃ t,vs[i]?=some (.int n t):=by
 induction h with
 | nil=>intro i n e;simp at e
 | cons a t h ih =>
  intro i n e
  cases i with
  | zero=>exact ⟨t,by simpa using e⟩
  | succ i=>simpa using ih (by simpa using e)
theorem tupIndex (l:Addr) (items:Array Value) (n:Nat) (dd:Option Addr) (sl:Array (Option Value)) (ns:List Int) (hi:IntsAre items.toList ns) (v:Int) (t:Tok) (j:Nat) (hj:ns[j]?=some v) (hb:∀ i,i < j→ns[i]?≠some v) :
  Meets (Builtin.«tuple.index» ⟨[.ref l,.int v t],[]⟩)
   (fun _ R s=>s.heap.get? l=some { cls:=.type "tuple",dict:=dd,data:=.seq items n,slots:=sl }∧R (.ok (.ret (.int (j:Int) s.toks))) { s with toks:=s.toks + 1 }) :=
 .of_wp fun prog w A R s h=>by
  obtain ⟨hp,g,d,tk,os⟩:=s;obtain ⟨hl,h⟩:=h
  have z1:items.size=ns.length:=by rw [← hi.length];simp
  have hjl:j < ns.length:=(List.getElem?_eq_some_iff.mp hj).1
  wp_walk using wpAny_loadPart' hl
  have key:wpAny (model prog w) A.in1 (forIn (m:=Sem) [:min items.size items.size] ((none,()):Option Fin×Unit) (fun (i:Nat) _ =>
    match items[i]? with
    | some y=>do
     let b ← eqBool y (Value.int v t)
     if b=true then do
      let r ← retInt (i:Int)
      pure (ForInStep.done (some r,()))
     else pure (ForInStep.yield (none,()))
    | _=>pure (ForInStep.yield (none,()))))
   (fun a s'=>a.1=some (.done (.ret (.int (j:Int) tk)))∧s'=⟨hp,g,d,tk + 1,os⟩) (fun e s'=>R (Except.error e) s') ⟨hp,g,d,tk,os⟩:=by
   rw [Std.Legacy.Range.forIn_eq_forIn_range']
   have ez:([:min items.size items.size]:Std.Legacy.Range).size=ns.length:=by
    simp [Std.Legacy.Range.size,z1]
   rw [ez]
   refine wpAny_forIn_list _ (fun rest b s'=>b.1=none∧s'=⟨hp,g,d,tk,os⟩∧∃ k,k≤j∧rest=List.range' k (ns.length - k) 1) _ ?_ ?_ _ _ ⟨rfl,rfl,0,Nat.zero_le _,by simp⟩
   ·rintro x rest b s' ⟨hb',rfl,k,hk,e⟩
    have el:ns.length - k=(ns.length - (k + 1)) + 1:=by omega
    rw [el,List.range'_succ] at e
    injection e with e1 e2
    subst e1
    have hkl:x < ns.length:=by omega
    obtain ⟨t',ht'⟩:=IntsAre.get hi (List.getElem?_eq_getElem hkl)
    have ht2:items[x]?=some (.int ns[x] t'):=by rw [← ht',Array.getElem?_toList]
    simp only [ht2]
    obtain ⟨e,he,hiff⟩:=HT.YbS A.in1 ⟨hp,g,d,tk,os⟩ ns[x] t' v t
    refine wpAny_bind (he prog w _ _ ?_)
    cases e with
    | true =>
     have ev:ns[x]=v:=hiff.mp rfl
     have exj:x=j:=by
      rcases Nat.lt_or_ge x j with h' | h'
      ·exact absurd (by rw [List.getElem?_eq_getElem hkl,ev]) (hb x h')
      ·omega
     subst exj
     wp_walk
     first | exact ⟨rfl,rfl⟩ | trivial
    | false =>
     have ev:ns[x]≠v:=fun q=>absurd (hiff.mpr q) Bool.false_ne_true
     have:x≠j:=fun z=>ev (by subst z;rw [List.getElem?_eq_getElem hkl] at hj;exact Option.some.inj hj)
     wp_walk
     exact ⟨rfl,rfl,x + 1,by omega,e2⟩
   ·rintro b s' ⟨hb',rfl,k,hk,e⟩
    have:(List.range' k (ns.length - k) 1).length=0:=by rw [← e];rfl
    rw [List.length_range'] at this
    omega
  refine wpAny_mono key (fun a s' ha=>?_) (fun _ _ z=>z)
  obtain ⟨ha,rfl⟩:=ha
  obtain ⟨a1,a2⟩:=a
  cases (show a1=_ from ha)
  exact wpAny_pure ⟨_,rfl,h⟩
end
section
variable {X:Cx} {K:PySem.W.Frag}
noncomputable def rIndex (K:PySem.W.Frag):V→List V→Hp→VK→Prop:=fun x vs H Q=>∃ (a:Addr) (ns:List Int) (v:Int) (j:Nat),x=.ref a∧vs=[.int v]∧SqT K H a (ns.map V.int)∧ns[j]?=some v∧(∀ i,i < j→ns[i]?≠some v)∧Q (.int (j:Int)) H
theorem ybU:MtR X "tuple.index" (rIndex X.K):=by
 intro pins s σ H x xs v us Q I rx rv h
 obtain ⟨a,ns,y,j,rfl,rfl,hq,hj,hb,q⟩:=h
 cases rx
 obtain ⟨u,rfl,t,rfl⟩:=vals1 rv
 obtain ⟨its,r,⟨⟨c,dd,dt,sl⟩,e,hc,hd,n,hdt⟩,hz⟩:=I.tupleP hq
 cases (show c=.type "tuple" from hc)
 cases (show dt=.seq its.toArray n from hdt)
 refine call_meets F.slot_tuple_index ⟨_,e,rfl⟩ F.entry_tuple_index (F.args_tuple_index_2 _ _) (tupIndex a its.toArray n dd sl ns (by simpa using Za4 r) y t j hj hb) ⟨e,?_⟩
 exact ⟨.int j,H,I.tok _,⟨_,rfl⟩,q⟩
theorem zaN (hK:X.K=K):MtR X "tuple.index" (rIndex K):=by subst hK;exact ybU
theorem xbf {o e:Expr} {es:List Expr} {to:TE} {t:TA} {name:Str} {apos cpos:Pos} {T id:String} {r:V→List V→Hp→VK→Prop} (hK:X.K=K) (pa:PlainAttrs T) (slot:Slot T name id) (hty:typeOf (.builtin id)=pure (.type "method_descriptor")) (hm:MtR X id r) (ho:PE X o to) (ha:PA X (e :: es) t)
  (hbase:attributeBase o name X.env (eval o X.env)=eval o X.env:=by rfl)
  (hfew:((backTo cpos (starEach (e :: es) X.env)).all (fun x=>!x.1) && (backToKw cpos (keywordEach [] X.env)).all (fun x=>x.1.isSome)
   && decide ((e :: es).length + ([]:List Keyword).length + (if ([]:List Keyword).isEmpty then 0 else 1) < 30))=true:=by rfl)
  (hline:(apos.endLine == cpos.line)=true:=by rfl) (hs:starEach (e :: es) X.env=(false,eval e X.env) :: starEach es X.env:=by rfl) (hplain:(backTo cpos (starEach es X.env)).any (·.1)=false:=by rfl) :
  PE X (.Call (.Attribute o name apos) (e :: es) [] cpos) (tBM K T r to t):=by subst hK;exact ZaT pa slot hty hm ho ha hbase hfew hline hs hplain
theorem Zb6 {es:List Expr} {k:Nat} {t:TGs} {n:Nat} {pos:Pos} (hK:X.K=K) (hc:X.calm=true) (h:PGs X es t)
  (hn:(assignEach es X.env).length=n:=by rfl) (hst:(assignEach es X.env).findIdx? (·.1)=none:=by rfl):PG X (.Tuple es k pos) (gTup K n t):=by subst hK;exact ZaW hc h hn hst
end
end L2
namespace L2
open PySem PySem.Spec PyProof.Rows
open Builtin.Str
section
variable {X:Cx} {K:PySem.W.Frag}
theorem bt_sum:bootBuiltins "sum" = some (.builtin "sum"):=by decide +kernel
end
section
variable {X:Cx} {tg:Expr}
end
end L2
namespace L2
open PySem PySem.Spec PyProof.Rows
open Builtin.Str
section
variable {prog:Program} {w:World} {A:Around} {E:Value→Shared→Prop} {s:Shared}
end
section
variable {X:Cx} {pins:List (Addr×Obj)} {σ:St} {H:Hp} {s:Shared}
end
end L2
namespace L2
open PySem PySem.Spec PyProof.Rows
section
variable {X:Cx} {K:PySem.W.Frag}
noncomputable def eD (us:List Value) (ds:List PyData) (dx:PyData) (u:Value):Bool:=@decide (∃ (i:Nat) (d:PyData),us[i]?=some u∧ds[i]?=some d∧PyData.eqv d dx=true) (Classical.propDecidable _)
theorem Reps.get:∀ {H:Hp} {vs:List V} {ds:List PyData},Reps K H vs ds→∀ {i:Nat} {v:V},vs[i]?=some v→∃ d,ds[i]?=some d∧Rep K H v d
 | _,_,_,.nil,i,v,e=>by simp at e
 | _,_,_,.cons (d:=d) a b,0,v,e=>⟨d,by simp,by have:_=v:=Option.some.inj (by simpa using e);rw [← this];exact a⟩
 | _,_,_,.cons a b,i + 1,v,e=>by
  obtain ⟨d,e1,r⟩:=Reps.get b (i:=i) (by simpa using e)
  exact ⟨d,by simpa using e1,r⟩
theorem Reps.lenD:∀ {H:Hp} {vs:List V} {ds:List PyData},Reps K H vs ds→vs.length=ds.length
 | _,_,_,.nil=>rfl
 | _,_,_,.cons _ r=>by rw [List.length_cons,List.length_cons,Reps.lenD r]
theorem Vals.getU {xs:List V} {us:List Value} (r:Vals xs us) {i:Nat} {u:Value} (h:us[i]?=some u):∃ v,xs[i]?=some v∧RelV v u:=by
 have hi:=(List.getElem?_eq_some_iff.mp h).1
 have hl:=r.length
 obtain ⟨u',hu,ru⟩:=r.get (i:=i) (x:=xs[i]'(by omega)) (List.getElem?_eq_getElem _)
 rw [h] at hu
 cases hu
 exact ⟨_,List.getElem?_eq_getElem _,ru⟩
open Classical in
theorem eD_at {pins:List (Addr×Obj)} {σ:St} {H:Hp} {s:Shared} {xs:List V} {us:List Value} {ds:List PyData} {x:V} {v:Value} {dx:PyData} (hu:X.A.units + 64 < cLine) (I:Inv X pins σ H s) (r:Vals xs us) (hr:Reps X.K H xs ds) (rx:RelV x v) (hx:Rep X.K H x dx) (c1:∀ d∈ds,d.canLay0=true) (c2:dx.canLay0=true) (c3:dx.depth≤60) :
  ∀ u∈us,SeqAt.EqAt X.A.in1 s u v (eD us ds dx u):=by
 intro u hm
 obtain ⟨bs,rb⟩:=hx.reads I rx
 have key:∀ (i:Nat) (d:PyData),us[i]?=some u→ds[i]?=some d→SeqAt.EqAt X.A.in1 s u v (PyData.eqv d dx):=fun i d h1 h2=>by
  obtain ⟨y,hy,ry⟩:=r.getU h1
  obtain ⟨d',hd',rd⟩:=hr.get hy
  rw [h2] at hd'
  cases hd'
  obtain ⟨as,ra⟩:=rd.reads I ry
  intro prog w E Q q
  refine SeqAt.eqBoolOverData prog w X.A.in1 E s u v d dx as bs Q ra rb (c1 _ (List.mem_of_getElem? h2)) c2 ?_ q
  have:X.A.in1.units≤X.A.units + 2:=by
   first | exact Nat.le_add_right _ _ | (show X.A.units≤_;omega) | (show X.A.units + 1≤_;omega)
  omega
 obtain ⟨i,hi⟩:=List.getElem?_of_mem hm
 have hl1:=r.length
 have hl2:=hr.lenD
 have hil:=(List.getElem?_eq_some_iff.mp hi).1
 unfold eD
 by_cases h:∃ (i:Nat) (d:PyData),us[i]?=some u∧ds[i]?=some d∧PyData.eqv d dx=true
 ·rw [decide_eq_true h]
  obtain ⟨j,d,h1,h2,h3⟩:=h
  have:=key j d h1 h2
  rwa [h3] at this
 ·rw [decide_eq_false h]
  have h2:ds[i]?=some (ds[i]'(by omega)):=List.getElem?_eq_getElem _
  have k:=key i _ hi h2
  cases hb:PyData.eqv (ds[i]'(by omega)) dx with
  | true=>exact absurd ⟨i,_,hi,h2,hb⟩ h
  | false=>rwa [hb] at k
open Classical in
theorem eD_any {xs:List V} {us:List Value} {ds:List PyData} {dx:PyData} (h1:us.length=ds.length):us.any (eD us ds dx)=ds.any fun d=>PyData.eqv d dx:=by
 rw [Bool.eq_iff_iff,List.any_eq_true,List.any_eq_true]
 constructor
 ·rintro ⟨u,hu,h⟩
  unfold eD at h
  obtain ⟨i,d,_,h2,h3⟩:=of_decide_eq_true h
  exact ⟨d,List.mem_of_getElem? h2,h3⟩
 ·rintro ⟨d,hd,h⟩
  obtain ⟨i,hi⟩:=List.getElem?_of_mem hd
  have hil:=(List.getElem?_eq_some_iff.mp hi).1
  refine ⟨us[i]'(by omega),List.getElem_mem _,?_⟩
  unfold eD
  exact decide_eq_true ⟨i,d,List.getElem?_eq_getElem _,hi,h⟩
noncomputable def rInD (K:PySem.W.Frag) (neg:Bool):R2:=fun x y H Q=>∃ p xs ds dx,y=.ref p∧(SqL K H p xs∨SqT K H p xs)∧Reps K H xs ds∧Rep K H x dx∧(∀ d∈ds,PyData.canLay0 d=true)∧PyData.canLay0 dx=true∧PyData.depth dx≤60∧Q (.bl (if neg then !ds.any (fun d=>PyData.eqv d dx) else ds.any fun d=>PyData.eqv d dx)) H
theorem Xbf (hu:X.A.units + 64 < cLine):OpR X (compareOp .NotIn) (rInD X.K true):=by
 intro pins s σ H x y v u Q I rx ry h
 obtain ⟨p,xs,ds,dx,rfl,hq,hr,hx,c1,c2,c3,q⟩:=h
 cases ry
 have e2:∀ {its:List Value},Vals xs its→its.toArray.any (eD its ds dx)=ds.any fun d=>PyData.eqv d dx:=fun {its} r=>by
  rw [show its.toArray.any (eD its ds dx)=its.any (eD its ds dx) by simp]
  exact eD_any (xs:=xs) (by rw [← r.length];exact hr.lenD)
 rcases hq with hq | hq
 ·obtain ⟨its,r,pl,hz⟩:=I.list hq
  refine SeqAt.notIn_listAt (eD its ds dx) pl.isList (fun w hw=>eD_at hu I r hr rx hx c1 c2 c3 w (by simpa using hw)) ⟨.bl _,H,I,rfl,?_⟩
  rw [e2 r]
  exact q
 ·obtain ⟨its,r,pl,hz⟩:=I.tuple hq
  refine SeqAt.notIn_tupleAt (eD its ds dx) pl (fun w hw=>eD_at hu I r hr rx hx c1 c2 c3 w (by simpa using hw)) ⟨.bl _,H,I,rfl,?_⟩
  rw [e2 r]
  exact q
theorem ya5 (hK:X.K=K) (hu:X.A.units + 64 < cLine):OpR X (compareOp .NotIn) (rInD K true):=by subst hK;exact Xbf hu
end
end L2
namespace L2
open PySem PySem.Spec PyProof.Rows
open Builtin.Str
section
variable {prog:Program} {w:World} {A:Around} {E:Value→Shared→Prop} {s:Shared}
end
end L2
namespace L2
open PySem PySem.Spec PyProof.Rows
open Builtin
section
variable {X:Cx}
end
end L2
namespace L2
open PySem PySem.Spec PyProof.Rows
section
variable {prog:Program} {w:World} {A:Around} {E:Value→Shared→Prop} {s:Shared}
end
section
variable {X:Cx} {pos:Pos}
end
end L2
namespace L2
open PySem PySem.Spec PyProof.Rows
section
variable {prog:Program} {w:World} {A:Around} {E:Value→Shared→Prop} {s:Shared}
end
end L2
namespace L2
open PySem PySem.Spec PyProof.Rows
section
variable {prog:Program} {w:World} {A:Around} {E:Value→Shared→Prop} {s:Shared}
noncomputable def EntAt (h:Heap) (d:Addr) (es:Array DictEntry) (ep:Nat):Prop:=∃ od,h.get? d=some od∧od.ExactDict∧od.data=.dict es ep
end
end L2
namespace L2
open PySem PySem.Spec PyProof.Rows
end L2
namespace L2
open PySem PySem.Spec PyProof.Rows
section
variable {X:Cx} {pos:Pos}
end
end L2
namespace L2
open PySem PySem.Spec PyProof.Rows
noncomputable def DU (a:Addr) (xs:List (List Int×Addr×Value)):HO:=.ext fun h=>(a == sysModules)=false∧xs.length≤sizeLine∧∃ o es ep,h.get? a=some o∧o.ExactDict∧o.data=.dict es ep ∧
 (∃ (P:Program) (w:World),es.toList=xs.map (entryOfKey (tupleKind (intKind P w))))∧(xs.map (·.1)).Nodup
theorem du_ok {P:Program} {w:World} {H:Hp} {h:Heap} {a:Addr} {xs:List (List Int×Addr×Value)} (hd:(a == sysModules)=false) (hl:xs.length≤sizeLine) {o:Obj} {es:Array DictEntry} {ep:Nat} (h1:h.get? a=some o) (h2:o.ExactDict) (h3:o.data=.dict es ep)
  (h4:es.toList=xs.map (entryOfKey (tupleKind (intKind P w)))) (h5:(xs.map (·.1)).Nodup):ObjOk P w H h a (DU a xs) :=
 ⟨⟨hd,hl,o,es,ep,h1,h2,h3,⟨P,w,h4⟩,h5⟩,⟨o,h1⟩,fun g1 g2 ⟨c1,c2,u,es2,ep2,c3,c4⟩ k=>⟨c1,c2,u,es2,ep2,k _ c3,c4⟩⟩
theorem XbG {P:Program} {w:World}:∀ {ks:List Int} {us:List Value},Vals (ks.map V.int) us→ItemsAre (intKind P w) ks us
 | [],_,r=>by rw [List.map_nil] at r;cases r;exact .nil
 | k :: ks,_,r=>by
  rw [List.map_cons] at r
  cases r with
  | @cons a b as bs h t =>
   obtain ⟨t',e⟩:=(show ∃ t,b=Value.int k t from h)
   subst e
   refine .cons ?_ (XbG t)
   show Value.isInt k (.int k t')=true
   simp [Value.isInt]
section
variable {X:Cx} {pins:List (Addr×Obj)} {σ:St} {H:Hp} {s:Shared} {a b:Addr} {k:List Int} {xs:List (List Int×Addr×Value)}
theorem Inv.keyT (I:Inv X pins σ H s) (q:SqT X.K H b (k.map V.int)):(tupleKind (intKind X.prog X.w)).is s.heap k b:=by
 obtain ⟨its,r,⟨o,h1,h2,_,n,h3⟩,_⟩:=I.tupleP q
 exact ⟨o,its.toArray,n,h1,h2,h3,by simpa using XbG r⟩
noncomputable def UAt (K:PySem.W.Frag) (H:Hp) (a:Addr) (y:V) (xs:List (List Int×Addr×Value)) (k:List Int):Prop :=
 (∃ b,y=.ref b∧SqT K H b (k.map V.int))∧H a=some (DU a xs)∧∀ x∈xs,SqT K H x.2.1 (x.1.map V.int)
theorem Inv.du (I:Inv X pins σ H s) (e:H a=some (DU a xs)) (hk:∀ x∈xs,SqT X.K H x.2.1 (x.1.map V.int)):(a == sysModules)=false∧xs.length≤sizeLine∧s.heap.DictOfH (tupleKind (intKind X.prog X.w)) a xs:=by
 obtain ⟨⟨h1,h2,o,es,ep,h3,h4,h5,⟨P,w,h6⟩,h7⟩,_⟩:=(show ObjOk X.prog X.w H s.heap a (DU a xs) from I.hok a _ e)
 exact ⟨h1,h2,o,es,ep,h3,h4,h5,h6,fun x hx=>I.keyT (hk x hx),h7⟩
end
noncomputable def tUNew:TE:=fun _ H Q=>∀ p,H p=none→Q (.ref p) (upd H p (DU p []))
noncomputable def tUGet (K:PySem.W.Frag) (td ty:TE):TE:=fun σ H Q=>td σ H fun x H1=>ty σ H1 fun y H2=>∃ a xs k p v,x=.ref a∧UAt K H2 a y xs k∧atKey xs k=some p∧RelV v p.2∧Q v H2
noncomputable def tUIn (K:PySem.W.Frag) (ty td:TE):TE:=fun σ H Q=>ty σ H fun y H1=>td σ H1 fun x H2=>∃ a xs k,x=.ref a∧UAt K H2 a y xs k∧Q (.bl (atKey xs k).isSome) H2
noncomputable def sUPut (K:PySem.W.Frag) (td ty tv:TE):TS:=fun D σ H=>tv σ H fun v H1=>td σ H1 fun x H2=>ty σ H2 fun y H3=>∃ a b xs k,x=.ref a∧y=.ref b∧UAt K H3 a y xs k∧xs.length < sizeLine∧∀ r,RelV v r→D.nx σ (upd H3 a (DU a (storedH xs k b r)))
theorem Zbx (xs:List (List Int×Addr×Value)) (k:List Int) (b:Addr) (r:Value):(storedH xs k b r).length≤xs.length + 1:=by
 unfold storedH
 split
 ·rw [List.length_map];omega
 ·rw [List.length_append];simp
section
variable {X:Cx} {o i e value:Expr} {pos pos' tpos:Pos} {td ty tv:TE}
theorem Yb6:PE X (.Dict [] [] pos) tUNew:=fun pins s σ H Q I h =>
 wpAny_Dict_empty ⟨.ref s.heap.objs.size,_,I.laid (a:=s.heap.objs.size) (o:=DU s.heap.objs.size []) (t':=s.toks) (fun _ _ q=>Heap.get?_push_of_some _ q) (Nat.le_refl _)
  (du_ok (beq_eq_false_iff_ne.mpr (Ne.symm (Nat.ne_of_lt I.big))) (Nat.zero_le _) (es:=#[]) (ep:=0) (Heap.get?_push_size _ rfl) ⟨rfl,rfl,rfl⟩ rfl rfl List.nodup_nil),rfl,h _ (I.hok.fresh (Nat.le_refl _))⟩
theorem zbH (hu:X.A.units + 1 < cLine) (ho:PE X o td) (hi:PE X i ty) (hs:NoSl i):PE X (.Subscript o i pos) (tUGet X.K td ty):=by
 intro pins s σ H Q I h
 refine Zb5 PySem.F.slot_dict_getitem.lookup hs (thn (ho pins s σ H _ I h) fun u s1 ⟨x,H1,I1,rx,q1⟩=>thn (hi pins s1 σ H1 _ I1 q1) fun iv s2 ⟨y,H2,I2,ry,a,xs,k,p,v,ex,⟨⟨b,ey,eb⟩,ea,hk⟩,hp,rv,q2⟩=>?_)
 subst ex ey
 obtain rfl:u=Value.ref a:=rx
 obtain rfl:iv=Value.ref b:=ry
 obtain ⟨hd,hl,dd⟩:=I2.du ea hk
 exact ⟨dd.typeIs,wpAny_getItem_heap (tupleKind_room_in1 hu) (I2.keyT eb) dd hp ⟨v,H2,I2.tok _,rv,q2⟩⟩
theorem pc_uin (hu:X.A.units + 1 < cLine) (hi:PE X i ty) (ho:PE X o td):PC X .In i o (tUIn X.K ty td):=by
 intro pins s σ H Q I h
 refine thn (hi pins s σ H _ I h) fun iv s1 ⟨y,H1,I1,ry,q1⟩=>thn (ho pins s1 σ H1 _ I1 q1) fun u s2 ⟨x,H2,I2,rx,a,xs,k,ex,⟨⟨b,ey,eb⟩,ea,hk⟩,q2⟩=>?_
 subst ex ey
 obtain rfl:u=Value.ref a:=rx
 obtain rfl:iv=Value.ref b:=ry
 obtain ⟨hd,hl,dd⟩:=I2.du ea hk
 exact wpAny_in_heap (tupleKind_room_in1 hu) (I2.keyT eb) hd dd ⟨.bl _,H2,I2.tok _,rfl,q2⟩
theorem xb6 (hu:X.A.units + 1 < cLine) (ho:PE X o td) (hi:PE X i ty) (hv:PE X value tv) (hs:swapsWith value (some (.Subscript o i pos')) pos.line X.env=pure false) :
  PS X (.Assign [.Subscript o i pos'] value pos) (sUPut X.K td ty tv):=by
 intro pins s σ H D I h
 refine wpAny_Assign_Subscript (thn (hv pins s σ H _ I h) fun r s1 ⟨v,H1,I1,rv,q1⟩=>thn (ho pins s1 σ H1 _ I1 q1) fun u s2 ⟨x,H2,I2,rx,q2⟩=>thn (hi pins s2 σ H2 _ I2 q2) fun iv s3 ⟨y,H3,I3,ry,a,b,xs,k,ex,ey,⟨⟨b',ey',eb⟩,ea,hk⟩,hl,q3⟩=>?_) hs
 subst ex ey
 cases ey'
 obtain rfl:u=Value.ref a:=rx
 obtain rfl:iv=Value.ref b:=ry
 obtain ⟨hd,hz,dd⟩:=I3.du ea hk
 refine wpAny_setItem_heap (hsz:=hz) (tupleKind_room_in1 hu) (I3.keyT eb) dd fun h' dd' hs=>⟨σ,_,?_,q3 r rv⟩
 obtain ⟨q,es,ep,hq,h2,h3,h4,_,h5⟩:=dd'
 exact Xbl I3 (by rw [ea];exact True.intro) hs ⟨q,hq⟩ (du_ok hd (by have:=Zbx xs k b r;omega) hq h2 h3 h4 h5)
end
end L2
namespace L2
open PySem PySem.Spec PyProof.Rows PySem.SeqAt PySem.MeetsSeq
noncomputable def LtAt (A:Around) (s:Shared) (y x:Value) (r:Bool):Prop:=∀ (prog:Program) (w:World) (E Q:Value→Shared→Prop),Q (.bool r) s→wpAny (model prog w) A (richCompare .Lt y x) Q E s
noncomputable def firstD (e lt:Nat→Bool) (fin:Bool):List Nat→Bool
 | []=>fin
 | i :: r=>if e i then firstD e lt fin r else lt i
theorem Ybx (l m:Addr) (a b:Array Value) (n1 n2:Nat) (d1 d2:Option Addr) (s1 s2:Array (Option Value)) (e lt:Nat→Bool) :
  Meets (Builtin.«tuple.__lt__» ⟨[.ref l,.ref m],[]⟩) (fun A R s=>s.heap.get? l=some { cls:=.type "tuple",dict:=d1,data:=.seq a n1,slots:=s1 }∧s.heap.get? m=some { cls:=.type "tuple",dict:=d2,data:=.seq b n2,slots:=s2 } ∧
    (∀ j (h1:j < a.size) (h2:j < b.size),EqAt A.in1 s a[j] b[j] (e j))∧(∀ j (h1:j < a.size) (h2:j < b.size),e j=false→LtAt A.in1 s a[j] b[j] (lt j))∧R (.ok (.ret (.bool (firstD e lt (decide (a.size < b.size)) (List.range (min a.size b.size)))))) s) :=
 .of_wp fun prog w A R s h=>by
  obtain ⟨hp,g,d,tk,os⟩:=s
  obtain ⟨hl,hm,he,hlt,h⟩:=h
  have f2:=AutoSeq1.sub_tuple_tuple
  have hZ:(a.toList.zip b.toList).length=min a.size b.size:=by simp
  wp_walk using wpAny_loadPart' hl,wpAny_loadPart' hm,wpAny_forIn_list _ (fun rest q s'=>q.1=none∧s'=⟨hp,g,d,tk,os⟩∧∃ i,rest=(a.toList.zip b.toList).drop i∧R (.ok (.ret (.bool (firstD e lt (decide (a.size < b.size)) ((List.range (min a.size b.size)).drop i))))) ⟨hp,g,d,tk,os⟩) _
  case turn =>
   rintro ⟨y,x⟩ rest q s' ⟨hq,rfl,i,hz,hR⟩
   have hil:i < (a.toList.zip b.toList).length:=by
    rcases Nat.lt_or_ge i (a.toList.zip b.toList).length with k | k
    ·exact k
    ·rw [List.drop_of_length_le k] at hz;cases hz
   have hmn:i < min a.size b.size:=hZ ▸ hil
   have g1:i < a.size:=by omega
   have g2:i < b.size:=by omega
   rw [List.drop_eq_getElem_cons hil] at hz
   injection hz with hyx hrest
   have hy:y=a[i]:=by simpa using congrArg Prod.fst hyx
   have hx:x=b[i]:=by simpa using congrArg Prod.snd hyx
   subst hy hx
   have hd:(List.range (min a.size b.size)).drop i=i :: (List.range (min a.size b.size)).drop (i + 1):=by simp [List.drop_eq_getElem_cons,hmn]
   rw [hd,firstD] at hR
   refine wpAny_bind (he i g1 g2 prog w _ _ ?_)
   cases hei:e i with
   | true =>
    rw [hei] at hR
    wp_walk
    exact ⟨rfl,rfl,i + 1,hrest,hR⟩
   | false =>
    rw [hei] at hR
    refine wpAny_bind (wpAny_rule (wpAny_bind (hlt i g1 g2 hei prog w _ _ ?_)))
    wp_walk
    exact ⟨_,rfl,hR⟩
  case fin =>
   rintro ⟨q1,q2⟩ s' ⟨hq,rfl,i,hz,hR⟩
   simp only at hq
   subst hq
   have hge:min a.size b.size≤i:=by
    rcases Nat.lt_or_ge i (a.toList.zip b.toList).length with k | k
    ·rw [List.drop_eq_getElem_cons k] at hz;cases hz
    ·exact hZ ▸ k
   rw [List.drop_of_length_le (by simpa using hge),firstD] at hR
   wp_walk
   exact ⟨_,rfl,by simpa [Builtin.Tuple.tupleCompareSizes] using hR⟩
  case h =>
   exact ⟨rfl,rfl,0,rfl,by simpa using h⟩
theorem LtAt.tuples {A:Around} {s:Shared} {l m:Addr} {a b:Array Value} {e lt:Nat→Bool} (hl:s.heap.IsTuple l a) (hm:s.heap.IsTuple m b) (hu:A.units < cLine)
  (he:∀ j (h1:j < a.size) (h2:j < b.size),EqAt A.in1 s a[j] b[j] (e j)) (hlt:∀ j (h1:j < a.size) (h2:j < b.size),e j=false→LtAt A.in1 s a[j] b[j] (lt j)) :
  LtAt A s (.ref l) (.ref m) (firstD e lt (decide (a.size < b.size)) (List.range (min a.size b.size))):=fun prog w E Q h=>by
 obtain ⟨⟨c1,d1,t1,s1⟩,o1,k1,n1,j1⟩:=hl
 obtain ⟨⟨c2,d2,t2,s2⟩,o2,k2,n2,j2⟩:=hm
 simp only at k1 j1 k2 j2
 subst k1 j1 k2 j2
 exact richCompare_meets_room (op:=.Lt) ⟨_,o1,rfl⟩ ⟨_,o2,rfl⟩ F.slot_tuple_lt F.entry_tuple_lt (F.args_tuple_lt_2 _ _) (Ybx l m a b n1 n2 d1 d2 s1 s2 e lt)
  ⟨o1,o2,he,hlt,show Value.bool (firstD e lt (decide (a.size < b.size)) (List.range (min a.size b.size)))≠Value.notImplemented∧Q (.bool (firstD e lt (decide (a.size < b.size)) (List.range (min a.size b.size)))) s from ⟨(fun x=>nomatch x),h⟩⟩ hu
mutual
noncomputable def ltP:PyData→PyData→Bool
 | .int a,.int b=>decide (a < b)
 | .tuple xs,.tuple ys=>ltPs xs ys
 | _,_=>false
noncomputable def ltPs:List PyData→List PyData→Bool
 | [],[]=>false
 | [],_ :: _=>true
 | _ :: _,[]=>false
 | x :: xs,y :: ys=>if PyData.eqv x y then ltPs xs ys else ltP x y
end
mutual
noncomputable def okP:PyData→PyData→Bool
 | .int _,.int _=>true
 | .tuple xs,.tuple ys=>okPs xs ys
 | _,_=>false
noncomputable def okPs:List PyData→List PyData→Bool
 | [],_=>true
 | _ :: _,[]=>true
 | x :: xs,y :: ys=>okP x y && okPs xs ys
end
theorem Za5 (e lt:Nat→Bool) (fin:Bool) (f:Nat→Nat):∀ l:List Nat,firstD e lt fin (l.map f)=firstD (fun i=>e (f i)) (fun i=>lt (f i)) fin l
 | []=>rfl
 | i :: r=>by
  show (if e (f i) then firstD e lt fin (r.map f) else lt (f i))=if e (f i) then _ else lt (f i)
  rw [Za5 e lt fin f r]
noncomputable def pairLt (xs ys:List PyData) (j:Nat):Bool:=ltP (xs.getD j .none) (ys.getD j .none)
theorem zbg:∀ xs ys:List PyData,firstD (pairEq xs ys) (pairLt xs ys) (decide (xs.length < ys.length)) (List.range (min xs.length ys.length))=ltPs xs ys
 | [],[]=>rfl
 | [],_ :: _=>by simp [firstD,ltPs]
 | _ :: _,[]=>by simp [firstD,ltPs]
 | x :: xs,y :: ys=>by
  have ih:=zbg xs ys
  have e1:min (x :: xs).length (y :: ys).length=min xs.length ys.length + 1:=by simp only [List.length_cons];omega
  have e2:decide ((x :: xs).length < (y :: ys).length)=decide (xs.length < ys.length):=by simp
  rw [e1,e2,List.range_succ_eq_map,firstD,Za5]
  show (if PyData.eqv x y then firstD (pairEq xs ys) (pairLt xs ys) (decide (xs.length < ys.length)) (List.range (min xs.length ys.length)) else ltP x y)=_
  rw [ih,ltPs]
mutual
theorem YaV:∀ (da db:PyData) (A:Around) (s:Shared) (a b:Value) (as bs:List Addr),Reads s.heap a da as→Reads s.heap b db bs→okP da db=true→da.canLay0=true→db.canLay0=true→A.units + min da.depth db.depth < cLine→LtAt A s a b (ltP da db)
 | .int x,.int y,A,s,_,_,_,_,ra,rb,_,_,_,_=>by
  cases ra with
  | int _ t =>
   cases rb with
   | int _ u=>exact fun prog w E Q h=>richCompare_gives (op:=.Lt) (typeIs_int s _ t) (typeIs_int s _ u) F.slot_int_lt F.entry_int_lt (F.args_int_lt_2 _ _) (gives_int_lt _ _ t u) (fun x=>nomatch x) h
 | .tuple xs,.tuple ys,A,s,_,_,_,_,ra,rb,ok,ha,hb,hu=>by
  cases ra with
  | @tuple l o vs n _ as1 h1 h2 h3 h4 =>
   cases rb with
   | @tuple l' o' vs' n' _ bs1 k1 k2 k3 k4 =>
    have t1:s.heap.IsTuple l vs:=⟨_,h1,h2,_,h3⟩
    have t2:s.heap.IsTuple l' vs':=⟨_,k1,k2,_,k3⟩
    have n1:vs.size=xs.length:=by simpa using ReadsAll.length _ _ _ h4
    have n2:vs'.size=ys.length:=by simpa using ReadsAll.length _ _ _ k4
    show LtAt A s (.ref l) (.ref l') (ltPs xs ys)
    rw [← zbg xs ys,← n1,← n2]
    refine LtAt.tuples t1 t2 (room_here hu) (fun j j1 j2=>?_) (fun j j1 j2 _=>?_)
    ·have z:=eqAt_readsAll xs ys A.in1 s vs.toList vs'.toList _ _ h4 k4 ha hb (room_in hu) j (by simpa using j1) (by simpa using j2)
     simpa using z
    ·have z:=xaT xs ys A.in1 s vs.toList vs'.toList _ _ h4 k4 ok ha hb (room_in hu) j (by simpa using j1) (by simpa using j2)
     simpa using z
 | .int _,.none,_,_,_,_,_,_,_,_,ok,_,_,_=>nomatch ok
 | .int _,.bool _,_,_,_,_,_,_,_,_,ok,_,_,_=>nomatch ok
 | .int _,.str _,_,_,_,_,_,_,_,_,ok,_,_,_=>nomatch ok
 | .int _,.list _,_,_,_,_,_,_,_,_,ok,_,_,_=>nomatch ok
 | .int _,.tuple _,_,_,_,_,_,_,_,_,ok,_,_,_=>nomatch ok
 | .int _,.dict _,_,_,_,_,_,_,_,_,ok,_,_,_=>nomatch ok
 | .tuple _,.none,_,_,_,_,_,_,_,_,ok,_,_,_=>nomatch ok
 | .tuple _,.bool _,_,_,_,_,_,_,_,_,ok,_,_,_=>nomatch ok
 | .tuple _,.int _,_,_,_,_,_,_,_,_,ok,_,_,_=>nomatch ok
 | .tuple _,.str _,_,_,_,_,_,_,_,_,ok,_,_,_=>nomatch ok
 | .tuple _,.list _,_,_,_,_,_,_,_,_,ok,_,_,_=>nomatch ok
 | .tuple _,.dict _,_,_,_,_,_,_,_,_,ok,_,_,_=>nomatch ok
 | .none,_,_,_,_,_,_,_,_,_,ok,_,_,_=>by simp [okP] at ok
 | .bool _,_,_,_,_,_,_,_,_,_,ok,_,_,_=>by simp [okP] at ok
 | .str _,_,_,_,_,_,_,_,_,_,ok,_,_,_=>by simp [okP] at ok
 | .list _,_,_,_,_,_,_,_,_,_,ok,_,_,_=>by simp [okP] at ok
 | .dict _,_,_,_,_,_,_,_,_,_,ok,_,_,_=>by simp [okP] at ok
theorem xaT:∀ (xs ys:List PyData) (A:Around) (s:Shared) (vs ws:List Value) (as bs:List Addr),ReadsAll s.heap vs xs as→ReadsAll s.heap ws ys bs→okPs xs ys=true→PyData.canLayAll0 xs=true→PyData.canLayAll0 ys=true→A.units + min (PyData.depthAll xs) (PyData.depthAll ys) < cLine→∀ j (h1:j < vs.length) (h2:j < ws.length),LtAt A s vs[j] ws[j] (pairLt xs ys j)
 | [],_,_,_,_,_,_,_,ra,_,_,_,_,_,j,h1,_=>by cases ra;exact absurd h1 (Nat.not_lt_zero _)
 | _ :: _,[],_,_,_,_,_,_,_,rb,_,_,_,_,j,_,h2=>by cases rb;exact absurd h2 (Nat.not_lt_zero _)
 | x :: xs,y :: ys,A,s,_,_,_,_,ra,rb,ok,ha,hb,hu,j,h1,h2=>by
  have a':x.canLay0=true∧PyData.canLayAll0 xs=true:=by simpa [PyData.canLayAll0] using ha
  have b':y.canLay0=true∧PyData.canLayAll0 ys=true:=by simpa [PyData.canLayAll0] using hb
  have o':okP x y=true∧okPs xs ys=true:=by simpa [okPs] using ok
  cases ra with
  | cons r rs =>
   cases rb with
   | cons r' rs' =>
    cases j with
    | zero=>exact YaV x y A s _ _ _ _ r r' o'.1 a'.1 b'.1 (room_head hu)
    | succ j=>exact xaT xs ys A s _ _ _ _ rs rs' o'.2 a'.2 b'.2 (room_tail hu) j (Nat.lt_of_succ_lt_succ h1) (Nat.lt_of_succ_lt_succ h2)
end
section
variable {prog:Program} {w:World} {A:Around} {R:Result→Shared→Prop} {I:Addr} {fp wr:List Addr} {n:Nat} {P:Nat→Value→Prop} {St:Nat→Heap→Prop}
noncomputable def KeepH (a b:Heap):Prop:=∀ x o,a.get? x=some o→b.get? x=some o
noncomputable def LtOf (A:Around) (h0:Heap) (P:Nat→Value→Prop) (bt:Nat→Nat→Bool):Prop:=∀ i j vi vj (s:Shared),KeepH h0 s.heap→P i vi→P j vj→LtAt A s vi vj (bt i j)
theorem XaT:(toString "min" ++ toString ".loop" : String)="min.loop" := by decide
theorem xaZ (W:Walks prog w A.in1 I fp wr n P St) (bt:Nat→Nat→Bool) {h0:Heap} (hcmp:LtOf A.in1 h0 P bt) (S:Addr) (hSf:S ∉ fp) (hS0:h0.get? S=none) (hw0:∀ b∈wr,h0.get? b=none) :
  ∀ (k j:Nat) (s:Shared) (vb:Value) (c:Nat),n - (j + 1)=k→j + 1≤n→St (j + 1) s.heap→P (argBest bt j) vb→KeepH h0 s.heap→s.heap.get? S=some { cls:=.type "list",dict:=none,data:=.seq #[vb,vb] c,slots:=#[] } →
  (∀ v h' tk,P (argBest bt (n - 1)) v→KeepH h0 h'→R (.ok (.ret v)) { s with heap:=h',toks:=tk })→codeAny (model prog w) A (.builtin "min.loop" ⟨[.ref I,.none,.ref S],[]⟩) R s
 | 0,j,s,vb,c,hk,hj,hst,hPb,hK,hS,hR=>by
  have hSw:S ∉ wr:=fun z=>hSf (W.sub S z)
  have hin:n=j + 1:=by omega
  subst hin
  refine codeAny_builtin F.entry_min_loop ?_
  rw [Around.under_plainId F.plain_min_loop (A:=A) _]
  show wpAny (model prog w) A.in1 (seqItems? (.ref S) >>= _) _ _ _
  refine wpAny_bind (wpAny_seqItems hS rfl ?_)
  show wpAny (model prog w) A.in1 (tryCatch (pyNext (.ref I)) _ >>= _) _ _ _
  refine wpAny_bind (wpAny_tryCatch (W.done s _ _ hst fun h' tk hk'=>?_))
  have hS':=hk' S _ hSw hS
  show wpAny (model prog w) A.in1 (updateSeq S (fun _=>#[]) >>= _) _ _ _
  refine wpAny_bind (wpAny_updateSeq hS' rfl (wpAny_bind (wpAny_letGo (wpAny_pure (hR vb _ tk hPb fun b o e=>?_)))))
  have hb1:b ∉ wr:=fun z=>by rw [hw0 b z] at e;cases e
  have hb2:S≠b:=fun z=>by rw [← z,hS0] at e;cases e
  exact (Heap.get?_update_other _ _ hb2).trans (hk' b o hb1 (hK b o e))
 | k + 1,j,s,vb,c,hk,hj,hst,hPb,hK,hS,hR=>by
  have hSw:S ∉ wr:=fun z=>hSf (W.sub S z)
  have hlt:j + 1 < n:=by omega
  refine codeAny_builtin F.entry_min_loop ?_
  rw [Around.under_plainId F.plain_min_loop (A:=A) _]
  show wpAny (model prog w) A.in1 (seqItems? (.ref S) >>= _) _ _ _
  refine wpAny_bind (wpAny_seqItems hS rfl ?_)
  show wpAny (model prog w) A.in1 (tryCatch (pyNext (.ref I)) _ >>= _) _ _ _
  refine wpAny_bind (wpAny_tryCatch (W.item (j + 1) s _ _ hlt hst fun v h' tk hP hst' hk'=>?_))
  have hS':=hk' S _ hSw hS
  have hK':KeepH h0 h':=fun b o e=>hk' b o (fun z=>by rw [hw0 b z] at e;cases e) (hK b o e)
  show wpAny (model prog w) A.in1 (tryCatch (holding [v,v] (richCompare .Lt v vb >>= _)) _ >>= _) _ _ _
  refine wpAny_bind (wpAny_tryCatch (wpAny_holding (wpAny_bind (hcmp (j + 1) (argBest bt j) v vb _ hK' hP hPb prog w _ _ ?_))))
  refine wpAny_bind (wpAny_holding (wpAny_truthy_bool (wpAny_bind (wpAny_letGo (wpAny_pure ?_)))))
  cases hb:bt (j + 1) (argBest bt j) with
  | true =>
   simp only [if_true]
   refine wpAny_bind (wpAny_updateSeq hS' rfl (wpAny_bind (wpAny_letGo ?_)))
   rw [XaT]
   have hK2:KeepH h0 (h'.update S (Obj.mapSeq fun _=>#[v,v])):=fun b o e=>(Heap.get?_update_other _ _ (fun z=>by rw [← z,hS0] at e;cases e)).trans (hK' b o e)
   refine wpAny_pure ⟨plainId_quiet F.plain_min_loop _,xaZ W bt hcmp S hSf hS0 hw0 k (j + 1) _ v _ (by omega) hlt (W.frame _ _ _ hst' fun b hbf o e=>?_) (by simp only [argBest,hb,if_true];exact hP) hK2 (Heap.get?_update_self _ hS' rfl) fun v' h'' tk'' hP' hk''=>hR v' h'' tk'' hP' hk''⟩
   exact (Heap.get?_update_other _ _ (fun z:S=b=>hSf (z ▸ hbf))).trans e
  | false =>
   simp only [Bool.false_eq_true,if_false]
   refine wpAny_bind (wpAny_letGo ?_)
   rw [XaT]
   exact wpAny_pure ⟨plainId_quiet F.plain_min_loop _,xaZ W bt hcmp S hSf hS0 hw0 k (j + 1) _ vb c (by omega) hlt hst' (by simp only [argBest,hb,Bool.false_eq_true,if_false];exact hPb) hK' hS' fun v' h'' tk'' hP' hk''=>hR v' h'' tk'' hP' hk''⟩
theorem xbx (W:Walks prog w A.in1 I fp wr n P St) (bt:Nat→Nat→Bool) {h0:Heap} (hcmp:LtOf A.in1 h0 P bt) (S:Addr) (hSf:S ∉ fp) (hS0:h0.get? S=none) (hw0:∀ b∈wr,h0.get? b=none) (hn:0 < n) {s:Shared} {c:Nat} (hst:St 0 s.heap) (hK:KeepH h0 s.heap)
  (hS:s.heap.get? S=some { cls:=.type "list",dict:=none,data:=.seq #[] c,slots:=#[] }) (hR:∀ v h' tk,P (argBest bt (n - 1)) v→KeepH h0 h'→R (.ok (.ret v)) { s with heap:=h',toks:=tk }) :
  codeAny (model prog w) A (.builtin "min.loop" ⟨[.ref I,.none,.ref S],[]⟩) R s:=by
 have hSw:S ∉ wr:=fun z=>hSf (W.sub S z)
 refine codeAny_builtin F.entry_min_loop ?_
 rw [Around.under_plainId F.plain_min_loop (A:=A) _]
 show wpAny (model prog w) A.in1 (seqItems? (.ref S) >>= _) _ _ _
 refine wpAny_bind (wpAny_seqItems hS rfl ?_)
 show wpAny (model prog w) A.in1 (tryCatch (pyNext (.ref I)) _ >>= _) _ _ _
 refine wpAny_bind (wpAny_tryCatch (W.item 0 s _ _ hn hst fun v h' tk hP hst' hk'=>?_))
 have hS':=hk' S _ hSw hS
 have hK':KeepH h0 h':=fun b o e=>hk' b o (fun z=>by rw [hw0 b z] at e;cases e) (hK b o e)
 show wpAny (model prog w) A.in1 (updateSeq S (fun _=>#[v,v]) >>= _) _ _ _
 refine wpAny_bind (wpAny_updateSeq hS' rfl ?_)
 rw [XaT]
 have hK2:KeepH h0 (h'.update S (Obj.mapSeq fun _=>#[v,v])):=fun b o e=>(Heap.get?_update_other _ _ (fun z=>by rw [← z,hS0] at e;cases e)).trans (hK' b o e)
 refine wpAny_pure ⟨plainId_quiet F.plain_min_loop _,xaZ W bt hcmp S hSf hS0 hw0 _ 0 _ v _ rfl hn (W.frame _ _ _ hst' fun b hbf o e=>?_) hP hK2 (Heap.get?_update_self _ hS' rfl) fun v' h'' tk'' hP' hk''=>hR v' h'' tk'' hP' hk''⟩
 exact (Heap.get?_update_other _ _ (fun z:S=b=>hSf (z ▸ hbf))).trans e
end
section
variable {prog:Program} {w:World} {A:Around} {E:Value→Shared→Prop} {s:Shared}
theorem ybH {p:Addr} {its:Array Value} {bt:Nat→Nat→Bool} {Q:Value→Shared→Prop} (hh:A.handled=none) (hl:s.heap.IsList p its) (hn:0 < its.size) (hcmp:LtOf A.in1 s.heap (fun i v=>its[i]?=some v) bt)
  (hQ:∀ v h' tk,its[argBest bt (its.size - 1)]?=some v→KeepH s.heap h'→Q v { s with heap:=h',toks:=tk }):wpAny (model prog w) A (call (.builtin "min") [.ref p]) Q E s:=by
 have hlt:p < s.heap.objs.size:=by obtain ⟨_,e,_⟩:=hl;exact Heap.lt_size e
 have e0:s.heap.get? s.heap.objs.size=none:=by
  cases q:s.heap.get? s.heap.objs.size with
  | none=>rfl
  | some o=>exact absurd (Heap.lt_size q) (Nat.lt_irrefl _)
 have e1:s.heap.get? (s.heap.objs.size + 1)=none:=by
  cases q:s.heap.get? (s.heap.objs.size + 1) with
  | none=>rfl
  | some o=>exact absurd (Heap.lt_size q) (Nat.not_lt_of_le (Nat.le_succ _))
 refine call_function_tree F.kind_min F.plain_min F.entry_min (F.args_min1 _) ?_
 show wpAny (model prog w) A.in1 (Builtin.Builtins.bindParams "min" ["key","default"] 0 ⟨[],[]⟩ >>= _) _ _ _
 refine wpAny_bind (wpAny_of_eq (show Builtin.Builtins.bindParams "min" ["key","default"] 0 ⟨[],[]⟩=pure [none,none] from rfl) (wpAny_bind (wpAny_pure ?_)))
 refine wpAny_bind (wpAny_pyIter_list hl (wpAny_bind (wpAny_newObj_type ?_)))
 have hsz:(s.heap.push { cls:=.type "list_iterator",data:=.fields #[.ref p,.int 0 0] }).objs.size=s.heap.objs.size + 1:=Heap.size_push ..
 have hne:p≠s.heap.objs.size:=Nat.ne_of_lt hlt
 rw [XaT]
 have k1:KeepH s.heap ((s.heap.push { cls:=.type "list_iterator",data:=.fields #[.ref p,.int 0 0] }).push { cls:=.type "list",data:=.seq #[] }):=fun b o e=>Heap.get?_push_of_some _ (Heap.get?_push_of_some _ e)
 refine wpAny_pure ⟨plainId_quiet F.plain_min_loop _,?_⟩
 show codeAny (model prog w) A (.builtin "min.loop" ⟨[.ref s.heap.objs.size,.none,.ref (s.heap.push { cls:=.type "list_iterator",data:=.fields #[.ref p,.int 0 0] }).objs.size],[]⟩) _ _
 rw [hsz]
 refine xbx (c:=0) (Walks.list (A:=A.in1) hh s.heap.objs.size p hne its) bt hcmp (s.heap.objs.size + 1) (fun z=>?_) e1 (fun b hb=>?_) hn ?_ k1 ?_ fun v h' tk hv hk=>hQ v h' tk hv hk
 ·rcases List.mem_cons.mp z with z | z
  ·exact absurd z (Nat.succ_ne_self _)
  ·have:s.heap.objs.size + 1=p:=List.mem_singleton.mp z
   exact absurd hlt (by rw [← this];exact Nat.not_lt_of_le (Nat.le_succ _))
 ·rw [List.mem_singleton.mp hb];exact e0
 ·exact ⟨⟨_,Heap.get?_push_of_some _ (Heap.get?_push_size _ rfl),rfl,rfl⟩,(hl.push _).push _⟩
 ·rw [← hsz];exact Heap.get?_push_size _ rfl
end
theorem zaU {h:Heap}:∀ {us:List Value} {ds:List PyData} {as:List Addr} {i:Nat} {v:Value},ReadsAll h us ds as→us[i]?=some v→∃ as',Reads h v (ds.getD i .none) as'∧ds.getD i .none∈ds
 | _,_,_,_,_,.nil,e=>by simp at e
 | _,_,_,0,_,.cons r _,e=>by simp at e;subst e;exact ⟨_,r,List.mem_cons_self⟩
 | _,_,_,i + 1,v,.cons _ rs,e=>by
  obtain ⟨as',r,m⟩:=zaU (i:=i) (v:=v) rs (by simpa using e)
  exact ⟨as',r,List.mem_cons_of_mem _ m⟩
section
variable {X:Cx}
noncomputable def btP (ds:List PyData) (i j:Nat):Bool:=ltP (ds.getD i .none) (ds.getD j .none)
noncomputable def minAt (ds:List PyData):Nat:=argBest (btP ds) (ds.length - 1)
noncomputable def rMinD (K:PySem.W.Frag):List V→Hp→VK→Prop:=fun xs H Q=>∃ (p:Addr) (vs:List V) (ds:List PyData),xs=[.ref p]∧SqL K H p vs∧Reps K H vs ds∧0 < ds.length∧(∀ a∈ds,∀ b∈ds,okP a b=true)∧(∀ a∈ds,a.canLay0=true∧a.depth≤50)∧∃ v,vs[minAt ds]?=some v∧Q v H
theorem ZbH (hc:X.calm=true) (hu:X.A.units + 64 < cLine):CallR X (.builtin "min") (rMinD X.K):=by
 intro pins s σ H xs us Q I r h
 obtain ⟨p,vs,ds,rfl,hq,hr,hn,hok,hlay,v0,hv0,q⟩:=h
 obtain ⟨u,rfl,ru⟩:=vals1 r
 cases ru
 obtain ⟨its,rv,pl,_⟩:=I.list hq
 obtain ⟨as,ra⟩:=Reps.reads I hr rv
 have hlen:its.length=ds.length:=ReadsAll.length _ _ _ ra
 refine ybH (bt:=btP ds) (I.ok.hd hc) pl.isList (by rw [List.size_toArray];omega) (fun i j vi vj s' hK hi hj=>?_) fun v h' tk hv hk=>?_
 ·have hi':its[i]?=some vi:=by simpa using hi
  have hj':its[j]?=some vj:=by simpa using hj
  obtain ⟨a1,r1,m1⟩:=zaU ra hi'
  obtain ⟨a2,r2,m2⟩:=zaU ra hj'
  have b1:=(hlay _ m1).2
  have b2:=(hlay _ m2).2
  exact YaV _ _ _ s' _ _ _ _ (Reads.keeps hK r1) (Reads.keeps hK r2) (hok _ m1 _ m2) (hlay _ m1).1 (hlay _ m2).1 (by show X.A.units + 1 + _ < cLine;omega)
 ·have hv':its[minAt ds]?=some v:=by
   have e:its.toArray.size - 1=ds.length - 1:=by rw [List.size_toArray,hlen]
   rw [e] at hv
   unfold minAt
   simpa using hv
  obtain ⟨u,hu',ru⟩:=Vals.get rv hv0
  rw [hv'] at hu'
  cases hu'
  exact ⟨v0,H,I.kept hk,ru,q⟩
end
end L2
namespace L2
open PySem PySem.Spec PyProof.Rows PySem.W
section
variable {lt:Nat→Nat→Bool} {n0:Nat} {cmp:Nat→Nat→(Bool→Shared→Prop)→Shared→Prop} {s:Shared}
structure Ord (lt:Nat→Nat→Bool):Prop where
 tr:∀ a b c,lt b a=false→lt c b=false→lt c a=false
 as:∀ a b,lt a b=true→lt b a=false
theorem Ord.rf (o:Ord lt) (a:Nat):lt a a=false:=by
 cases h:lt a a with
 | false=>rfl
 | true=>have:=o.as a a h;rw [h] at this;cases this
noncomputable def P (p:Array Nat) (i:Nat):Nat:=p.getD i 0
noncomputable def Srt (lt:Nat→Nat→Bool) (p:Array Nat) (k:Nat):Prop:=∀ i j,i≤j→j < k→lt (P p j) (P p i)=false
noncomputable def Dsc (lt:Nat→Nat→Bool) (p:Array Nat) (k:Nat):Prop:=∀ i j,i≤j→j < k→lt (P p i) (P p j)=false
structure Arr (n0:Nat) (p:Array Nat):Prop where
 sz:p.size=n0
 pm:p.toList.Perm (List.range n0)
theorem Arr.bd {p:Array Nat} (h:Arr n0 p) (hn:0 < n0) (i:Nat):P p i < n0:=by
 unfold P
 rw [Array.getD_eq_getD_getElem?]
 cases e:p[i]? with
 | none=>exact hn
 | some x =>
  have:x∈p.toList:=by
   rw [← Array.getElem?_toList] at e
   exact List.mem_of_getElem? e
  exact List.mem_range.mp (h.pm.subset this)
theorem XaW {p:Array Nat} {i j:Nat} (hj:j≤p.size) (k:Nat):P (kas_rev p i j) k=if i≤k∧k < j then P p (i + j - 1 - k) else P p k:=by
 unfold P kas_rev
 rw [Array.getD_eq_getD_getElem?,getElem?_mirror_all hj]
 split <;> rw [Array.getD_eq_getD_getElem?]
theorem Arr.rev {p:Array Nat} (h:Arr n0 p) (i j:Nat):Arr n0 (kas_rev p i j):=⟨(mirror_size _ _ _ _).trans h.sz,(Array.perm_iff_toList_perm.mp (mirror_perm p i j _)).trans h.pm⟩
theorem Yb1 {p:Array Nat} {k d:Nat} (hk:k < p.size) (hd:d≤k) (m:Nat):P (bubble p k d) m=if m=k - d then P p k else if k - d < m∧m≤k then P p (m - 1) else P p m:=by
 unfold P
 simp only [Array.getD_eq_getD_getElem?]
 rw [getElem?_bubble hk d hd]
 split
 ·rfl
 ·split <;> rfl
theorem Arr.bub {p:Array Nat} (h:Arr n0 p) (k d:Nat):Arr n0 (bubble p k d):=⟨(bubble_size _ _ _).trans h.sz,(Array.perm_iff_toList_perm.mp (bubble_perm p k d)).trans h.pm⟩
variable (o:Ord lt) (hn:0 < n0) (hc:∀ i j (C:Bool→Shared→Prop),i < n0→j < n0→C (lt i j) s→cmp i j C s)
include o hn hc
theorem YbH {p:Array Nat} (ha:Arr n0 p) {Q:Nat→Shared→Prop}:∀ (f n:Nat),Srt lt p n→1≤n→(∀ m,n≤m→m≤n + f→Srt lt p m→(m < n + f→lt (P p m) (P p (m - 1))=true)→Q m s)→(kas_asc p f n).kasWp cmp Q s
 | 0,n,hs,h1,q=>q n (Nat.le_refl _) (Nat.le_refl _) hs fun h=>absurd h (Nat.lt_irrefl _)
 | f + 1,n,hs,h1,q=>by
  refine hc _ _ _ (ha.bd hn n) (ha.bd hn (n - 1)) ?_
  show (if lt (P p n) (P p (n - 1))=true then KasT.ret n else kas_asc p f (n + 1)).kasWp cmp Q s
  cases hb:lt (P p n) (P p (n - 1)) with
  | true=>exact q n (Nat.le_refl _) (by omega) hs fun _=>hb
  | false =>
   refine YbH ha f (n + 1) (fun i j hij hj=>?_) (by omega) fun m m1 m2 m3 m4=>q m (by omega) (by omega) m3 fun h=>m4 (by omega)
   by_cases hjn:j < n
   ·exact hs i j hij hjn
   ·have:j=n:=by omega
    subst this
    by_cases hin:i=j
    ·subst hin;exact o.rf _
    ·exact o.tr _ (P p (j - 1)) _ (hs i (j - 1) (by omega) (by omega)) hb
theorem Za8 {Q:Array Nat×Nat×Nat→Shared→Prop}:∀ (f:Nat) (p:Array Nat) (n q:Nat),Arr n0 p→Dsc lt p n→q + 1≤n→n + f≤n0→(∀ i j,n - (q + 1)≤i→i < n→n - (q + 1)≤j→j < n→lt (P p i) (P p j)=false) →
  (∀ p' n' q',Arr n0 p'→Dsc lt p' n'→q' + 1≤n'→n≤n'→n'≤n + f→(∀ i j,n' - (q' + 1)≤i→i < n'→n' - (q' + 1)≤j→j < n'→lt (P p' i) (P p' j)=false)→Q (p',n',q') s)→(kas_desc f p n q).kasWp cmp Q s
 | 0,p,n,q,ha,hd,h1,hf,he,hQ=>hQ p n q ha hd h1 (Nat.le_refl _) (Nat.le_refl _) he
 | f + 1,p,n,q,ha,hd,h1,hf,he,hQ=>by
  refine hc _ _ _ (ha.bd hn n) (ha.bd hn (n - 1)) ?_
  show (if lt (P p n) (P p (n - 1))=true then (if q > 0 then kas_desc f (kas_rev p (n - (q + 1)) n) (n + 1) 0 else kas_desc f p (n + 1) 0) else .ask (P p (n - 1)) (P p n) fun d=>if d=true then .ret (p,n,q) else kas_desc f p (n + 1) (q + 1)).kasWp cmp Q s
  cases hb:lt (P p n) (P p (n - 1)) with
  | true =>
   rw [if_pos rfl]
   have hx:=o.as _ _ hb
   have dsc1:∀ p':Array Nat,Dsc lt p' n→P p' n=P p n→lt (P p' (n - 1)) (P p n)=false→Dsc lt p' (n + 1):=fun p' h e1 e2 i j hij hj=>by
    by_cases hjn:j < n
    ·exact h i j hij hjn
    ·have:j=n:=by omega
     subst this
     by_cases hin:i=j
     ·subst hin;exact o.rf _
     ·rw [e1]
      exact o.tr _ (P p' (j - 1)) _ e2 (h i (j - 1) (by omega) (by omega))
   have one:∀ p':Array Nat,∀ i j,n + 1 - (0 + 1)≤i→i < n + 1→n + 1 - (0 + 1)≤j→j < n + 1→lt (P p' i) (P p' j)=false:=fun p' i j a b c d=>by
    have e1:i=n:=by omega
    have e2:j=n:=by omega
    subst e1;subst e2;exact o.rf _
   by_cases hq:q > 0
   ·rw [if_pos hq]
    have hns:n≤p.size:=by rw [ha.sz];omega
    have er:=fun k=>XaW (p:=p) (i:=n - (q + 1)) hns k
    refine Za8 f _ (n + 1) 0 (ha.rev _ _) (dsc1 _ (fun i j hij hj=>?_) ?_ ?_) (by omega) (by omega) (one _) fun p' n' q' a b c d e g=>hQ p' n' q' a b c (by omega) (by omega) g
    ·rw [er i,er j]
     by_cases hi:n - (q + 1)≤i
     ·rw [if_pos ⟨hi,by omega⟩,if_pos ⟨by omega,hj⟩]
      exact he _ _ (by omega) (by omega) (by omega) (by omega)
     ·rw [if_neg (by omega)]
      by_cases hj':n - (q + 1)≤j
      ·rw [if_pos ⟨hj',hj⟩];exact hd _ _ (by omega) (by omega)
      ·rw [if_neg (by omega)];exact hd i j hij hj
    ·rw [er n,if_neg (by omega)]
    ·rw [er (n - 1),if_pos ⟨by omega,by omega⟩]
     exact o.tr _ (P p (n - 1)) _ hx (he _ _ (by omega) (by omega) (by omega) (by omega))
   ·rw [if_neg hq]
    exact Za8 f p (n + 1) 0 ha (dsc1 p hd rfl hx) (by omega) (by omega) (one _) fun p' n' q' a b c d e g=>hQ p' n' q' a b c (by omega) (by omega) g
  | false =>
   rw [if_neg (by decide)]
   refine hc _ _ _ (ha.bd hn (n - 1)) (ha.bd hn n) ?_
   cases hb2:lt (P p (n - 1)) (P p n) with
   | true=>exact hQ p n q ha hd h1 (Nat.le_refl _) (by omega) he
   | false =>
    refine Za8 f p (n + 1) (q + 1) ha (fun i j hij hj=>?_) (by omega) (by omega) (fun i j a b c d=>?_) fun p' n' q' a b c d e g=>hQ p' n' q' a b c (by omega) (by omega) g
    ·by_cases hjn:j < n
     ·exact hd i j hij hjn
     ·have:j=n:=by omega
      subst this
      by_cases hin:i=j
      ·subst hin;exact o.rf _
      ·exact o.tr _ (P p (j - 1)) _ hb2 (hd i (j - 1) (by omega) (by omega))
    ·by_cases hi:i=n
     ·subst hi
      by_cases hj:j=i
      ·subst hj;exact o.rf _
      ·exact o.tr _ (P p (i - 1)) _ (he (i - 1) j (by omega) (by omega) (by omega) (by omega)) hb
     ·by_cases hj:j=n
      ·subst hj
       exact o.tr _ (P p (j - 1)) _ hb2 (he i (j - 1) (by omega) (by omega) (by omega) (by omega))
      ·exact he i j (by omega) (by omega) (by omega) (by omega)
theorem xbH {p:Array Nat} {n nrem:Nat} {Q:Nat×Array Nat→Shared→Prop} (ha:Arr n0 p) (hd:Dsc lt p n) (h1:1≤n) (hr:n≤nrem) (hz:nrem≤n0) (hQ:∀ m p',Arr n0 p'→Srt lt p' m→n≤m→m≤nrem→Q (m,p') s):(kas_tail3 n nrem p).kasWp cmp Q s:=by
 unfold kas_tail3
 rw [KasT.kasWp_bind]
 have hns:n≤p.size:=by rw [ha.sz];omega
 refine YbH o hn hc (ha.rev 0 n) (nrem - n) n (fun i j hij hj=>?_) h1 fun m m1 m2 m3 _=>hQ m _ (ha.rev 0 n) m3 m1 (by omega)
 rw [XaW hns,XaW hns,if_pos ⟨by omega,hj⟩,if_pos ⟨by omega,by omega⟩]
 exact hd _ _ (by omega) (by omega)
theorem XaZ {p:Array Nat} {n nrem:Nat} {Q:Nat×Array Nat→Shared→Prop} (ha:Arr n0 p) (hd:Dsc lt p (n + 1)) (hr:n + 1≤nrem) (hz:nrem≤n0) (hQ:∀ m p',Arr n0 p'→Srt lt p' m→1≤m→m≤nrem→Q (m,p') s):(kas_descPart n nrem p).kasWp cmp Q s:=by
 unfold kas_descPart
 rw [KasT.kasWp_bind]
 refine Za8 o hn hc (nrem - (n + 1)) p (n + 1) 0 ha hd (by omega) (by omega) (fun i j a b c d=>?_) fun p' n' q' a b c d e g=>?_
 ·have e1:i=n:=by omega
  have e2:j=n:=by omega
  subst e1;subst e2;exact o.rf _
 ·show (if q' > 0 then kas_tail3 n' nrem (kas_rev p' (n' - (q' + 1)) n') else kas_tail3 n' nrem p').kasWp cmp Q s
  by_cases hq:q' > 0
  ·rw [if_pos hq]
   have hns:n'≤p'.size:=by rw [a.sz];omega
   have er:=fun k=>XaW (p:=p') (i:=n' - (q' + 1)) hns k
   refine xbH o hn hc (a.rev _ _) (fun i j hij hj=>?_) (by omega) (by omega) hz fun m p2 x y z w=>hQ m p2 x y (by omega) w
   rw [er i,er j]
   by_cases hi:n' - (q' + 1)≤i
   ·rw [if_pos ⟨hi,by omega⟩,if_pos ⟨by omega,hj⟩]
    exact g _ _ (by omega) (by omega) (by omega) (by omega)
   ·rw [if_neg (by omega)]
    by_cases hj':n' - (q' + 1)≤j
    ·rw [if_pos ⟨hj',hj⟩];exact b _ _ (by omega) (by omega)
    ·rw [if_neg (by omega)];exact b i j hij hj
  ·rw [if_neg hq]
   exact xbH o hn hc a b (by omega) (by omega) hz fun m p2 x y z w=>hQ m p2 x y (by omega) w
theorem ZbU {p:Array Nat} {Q:Nat×Array Nat→Shared→Prop} (ha:Arr n0 p) (hQ:∀ m p',Arr n0 p'→Srt lt p' m→1≤m→m≤n0→Q (m,p') s):(kas_count n0 p).kasWp cmp Q s:=by
 unfold kas_count
 rw [KasT.kasWp_bind]
 refine YbH o hn hc ha (n0 - 1) 1 (fun i j hij hj=>?_) (Nat.le_refl _) fun n m1 m2 hs hl=>?_
 ·have e1:i=0:=by omega
  have e2:j=0:=by omega
  subst e1;subst e2;exact o.rf _
 ·by_cases he:n=n0
  ·subst he
   simp only [beq_self_eq_true,if_true]
   exact hQ n p ha hs m1 (Nat.le_refl _)
  ·have hne:(n == n0)=false:=by simpa using he
   simp only [hne,Bool.false_eq_true,if_false]
   have hlt:=hl (by omega)
   have hx:=o.as _ _ hlt
   have grow:∀ p':Array Nat,Dsc lt p' n→P p' n=P p n→lt (P p' (n - 1)) (P p n)=false→Dsc lt p' (n + 1):=fun p' h e1 e2 i j hij hj=>by
    by_cases hjn:j < n
    ·exact h i j hij hjn
    ·have:j=n:=by omega
     subst this
     by_cases hin:i=j
     ·subst hin;exact o.rf _
     ·rw [e1]
      exact o.tr _ (P p' (j - 1)) _ e2 (h i (j - 1) (by omega) (by omega))
   by_cases h1:n > 1
   ·rw [if_pos h1]
    refine hc _ _ _ (ha.bd hn 0) (ha.bd hn (n - 1)) ?_
    cases hb:lt (P p 0) (P p (n - 1)) with
    | true =>
     show (if lt (P p 0) (P p (n - 1))=true then KasT.ret (n,p) else kas_descPart n n0 (kas_rev p 0 n)).kasWp cmp Q s
     rw [hb,if_pos rfl]
     exact hQ n p ha hs m1 (by omega)
    | false =>
     have all:∀ i j,i < n→j < n→lt (P p i) (P p j)=false:=fun i j hi hj=>o.tr (P p j) (P p (n - 1)) (P p i) (hs j (n - 1) (by omega) (by omega)) (o.tr (P p (n - 1)) (P p 0) (P p i) hb (hs 0 i (by omega) hi))
     have hns:n≤p.size:=by rw [ha.sz];omega
     show (if lt (P p 0) (P p (n - 1))=true then KasT.ret (n,p) else kas_descPart n n0 (kas_rev p 0 n)).kasWp cmp Q s
     rw [hb,if_neg (by decide)]
     refine XaZ o hn hc (ha.rev 0 n) (grow _ (fun i j hij hj=>?_) ?_ ?_) (by omega) (Nat.le_refl _) fun m p' a b c d=>hQ m p' a b c d
     ·rw [XaW hns,XaW hns,if_pos ⟨by omega,by omega⟩,if_pos ⟨by omega,hj⟩]
      exact all _ _ (by omega) (by omega)
     ·rw [XaW hns,if_neg (by omega)]
     ·rw [XaW hns,if_pos ⟨by omega,by omega⟩,show 0 + n - 1 - (n - 1)=0 by omega]
      exact o.tr (P p n) (P p (n - 1)) (P p 0) hx hb
   ·rw [if_neg h1]
    have:n=1:=by omega
    subst this
    refine XaZ o hn hc ha (grow p (fun i j hij hj=>?_) rfl hx) (by omega) (Nat.le_refl _) fun m p' a b c d=>hQ m p' a b c d
    have e1:i=0:=by omega
    have e2:j=0:=by omega
    subst e1;subst e2;exact o.rf _
theorem Ya8 {p:Array Nat} {k:Nat} {Q:Nat→Shared→Prop} (ha:Arr n0 p) (hs:Srt lt p k):∀ (f l r:Nat),r≤l + f→l≤r→r≤k→(∀ i,i < l→lt (P p k) (P p i)=false)→(∀ i,r≤i→i < k→lt (P p k) (P p i)=true) →
  (∀ m,m≤k→(∀ i,i < m→lt (P p k) (P p i)=false)→(∀ i,m≤i→i < k→lt (P p k) (P p i)=true)→Q m s)→(kas_place p k f l r).kasWp cmp Q s
 | 0,l,r,hf,hlr,hrk,h1,h2,q=>by
  have:l=r:=by omega
  subst this
  exact q l hrk h1 h2
 | f + 1,l,r,hf,hlr,hrk,h1,h2,q=>by
  unfold kas_place
  by_cases hge:l ≥ r
  ·rw [if_pos hge]
   have:l=r:=by omega
   subst this
   exact q l hrk h1 h2
  ·rw [if_neg hge]
   refine hc _ _ _ (ha.bd hn k) (ha.bd hn ((l + r) / 2)) ?_
   show (if lt (P p k) (P p ((l + r) / 2))=true then kas_place p k f l ((l + r) / 2) else kas_place p k f ((l + r) / 2 + 1) r).kasWp cmp Q s
   cases hb:lt (P p k) (P p ((l + r) / 2)) with
   | true =>
    rw [if_pos rfl]
    refine Ya8 ha hs f l ((l + r) / 2) (by omega) (by omega) (by omega) h1 (fun i i1 i2=>?_) q
    cases hx:lt (P p k) (P p i) with
    | true=>rfl
    | false =>
     have:=o.tr (P p ((l + r) / 2)) (P p i) (P p k) (hs _ _ i1 i2) hx
     rw [hb] at this;cases this
   | false =>
    rw [if_neg (by decide)]
    refine Ya8 ha hs f ((l + r) / 2 + 1) r (by omega) (by omega) hrk (fun i i1=>?_) h2 q
    exact o.tr (P p i) (P p ((l + r) / 2)) (P p k) (hs _ _ (by omega) (by omega)) hb
theorem xb1 {Q:Array Nat→Shared→Prop}:∀ (f:Nat) (p:Array Nat) (k:Nat),Arr n0 p→Srt lt p k→1≤k→k + f=n0→(∀ p',Arr n0 p'→Srt lt p' n0→Q p' s)→(kas_bin f p k).kasWp cmp Q s
 | 0,p,k,ha,hs,h1,hf,q=>q p ha (by rw [← hf];exact hs)
 | f + 1,p,k,ha,hs,h1,hf,q=>by
  unfold kas_bin
  rw [KasT.kasWp_bind]
  refine Ya8 o hn hc ha hs k 0 k (by omega) (by omega) (Nat.le_refl _) (fun i h=>absurd h (Nat.not_lt_zero _)) (fun i a b=>by omega) fun l hl h1' h2'=>?_
  have hk:k < p.size:=by rw [ha.sz];omega
  refine xb1 f _ (k + 1) (ha.bub _ _) (fun i j hij hj=>?_) (by omega) (by omega) q
  rw [Yb1 hk (by omega),Yb1 hk (by omega),show k - (k - l)=l by omega]
  by_cases hi:i=l
  ·rw [if_pos hi]
   by_cases hj':j=l
   ·rw [if_pos hj'];exact o.rf _
   ·rw [if_neg hj',if_pos ⟨by omega,by omega⟩]
    exact o.as _ _ (h2' (j - 1) (by omega) (by omega))
  ·rw [if_neg hi]
   by_cases hj':j=l
   ·rw [if_pos hj',if_neg (by omega)]
    exact h1' i (by omega)
   ·rw [if_neg hj']
    by_cases hi2:l < i
    ·rw [if_pos (show l < j∧j≤k by omega),if_pos (show l < i∧i≤k by omega)]
     exact hs _ _ (by omega) (by omega)
    ·by_cases hj2:l < j
     ·rw [if_pos (show l < j∧j≤k by omega),if_neg (show ¬ (l < i∧i≤k) by omega)];exact hs _ _ (by omega) (by omega)
     ·rw [if_neg (show ¬ (l < j∧j≤k) by omega),if_neg (show ¬ (l < i∧i≤k) by omega)];exact hs _ _ hij (by omega)
theorem Xb6 {Q:Array Nat→Shared→Prop} (q:∀ p',Arr n0 p'→Srt lt p' n0→Q p' s):(kas_sort n0).kasWp cmp Q s:=by
 unfold kas_sort
 rw [KasT.kasWp_bind]
 have ha:Arr n0 (List.toArray (List.range n0)):=⟨by simp,by simp⟩
 refine ZbU o hn hc ha fun m p' a b c d=>?_
 show (if m < n0 then kas_bin (n0 - max m 1) p' (max m 1) else KasT.ret p').kasWp cmp Q s
 rw [show max m 1=m by omega]
 by_cases h:m < n0
 ·rw [if_pos h]
  exact xb1 o hn hc (n0 - m) p' m a b c (by omega) q
 ·rw [if_neg h]
  have:m=n0:=by omega
  subst this
  exact q p' a b
end
noncomputable def lexP (fin:Bool):List PyData→List PyData→Bool
 | x :: xs,y :: ys=>if PyData.eqv x y then lexP fin xs ys else ltP x y
 | _,_=>fin
theorem XbH:∀ xs ys:List PyData,lexP (decide (xs.length < ys.length)) xs ys=ltPs xs ys
 | [],[]=>rfl
 | [],_ :: _=>by simp [lexP,ltPs]
 | _ :: _,[]=>by simp [lexP,ltPs]
 | x :: xs,y :: ys=>by
  have e:decide ((x :: xs).length < (y :: ys).length)=decide (xs.length < ys.length):=by simp
  rw [e]
  show (if PyData.eqv x y=true then lexP (decide (xs.length < ys.length)) xs ys else ltP x y)=if PyData.eqv x y=true then ltPs xs ys else ltP x y
  rw [XbH xs ys]
noncomputable def hdP (isT:Bool):PyData→Bool
 | .tuple (.int _ :: _)=>!isT
 | .tuple (.tuple _ :: _)=>isT
 | _=>false
section
variable {prog:Program} {w:World} {A:Around} {E:Value→Shared→Prop} {s:Shared}
theorem ybg {b fin:Bool} {Q:Bool→Shared→Prop}:∀ (xs ys:List PyData) (vs ws:List Value) (as bs:List Addr) (i:Nat),ReadsAll s.heap vs xs as→ReadsAll s.heap ws ys bs→okPs xs ys=true→PyData.canLayAll0 xs=true→PyData.canLayAll0 ys=true→A.units + min (PyData.depthAll xs) (PyData.depthAll ys) < cLine →
  (b=true→i=0→∀ x r,xs=x :: r→∃ n,x=.int n)→Q (lexP fin xs ys) s→KatLex prog w A b fin Q (vs.zip ws) i s
 | [],_,_,_,_,_,i,ra,rb,_,_,_,_,_,q=>by cases ra;exact q
 | _ :: _,[],_,_,_,_,i,ra,rb,_,_,_,_,_,q=>by cases rb;cases ra;exact q
 | x :: xs,y :: ys,_,_,_,_,i,ra,rb,ok,ha,hb,hu,hf,q=>by
  have a':x.canLay0=true∧PyData.canLayAll0 xs=true:=by simpa [PyData.canLayAll0] using ha
  have b':y.canLay0=true∧PyData.canLayAll0 ys=true:=by simpa [PyData.canLayAll0] using hb
  have o':okP x y=true∧okPs xs ys=true:=by simpa [okPs] using ok
  cases ra with
  | cons r rs =>
   cases rb with
   | cons r' rs' =>
    refine kat_cons (SeqAt.eqAt_reads x y A s _ _ _ _ r r' a'.1 b'.1 (SeqAt.room_head hu) prog w _ _ ?_)
    cases he:PyData.eqv x y with
    | true =>
     refine kat_yes (ybg xs ys _ _ _ _ (i + 1) rs rs' o'.2 a'.2 b'.2 (SeqAt.room_tail hu) (fun _ z=>absurd z (Nat.succ_ne_zero _)) ?_)
     rw [lexP,he,if_pos rfl] at q
     exact q
    | false =>
     rw [lexP,he,if_neg (by decide)] at q
     refine kat_no ?_
     cases hbi:(b && i == 0) with
     | true =>
      have hb1:b=true∧i=0:=by simpa using hbi
      obtain ⟨n,rfl⟩:=hf hb1.1 hb1.2 x xs rfl
      cases y with
      | int m =>
       cases r with
       | int _ t =>
        cases r' with
        | int _ u=>exact oneLt_int q
      | none=>cases o'.1
      | bool _=>cases o'.1
      | str _=>cases o'.1
      | list _=>cases o'.1
      | tuple _=>cases o'.1
      | dict _=>cases o'.1
     | false=>exact kat_one _ _ (YaV x y A s _ _ _ _ r r' o'.1 a'.1 b'.1 (SeqAt.room_head hu) prog w _ _ q)
theorem zbI {isT:Bool} {vs:List Value} {ds:List PyData} {as:List Addr} {i j:Nat} {C:Bool→Shared→Prop} (ra:ReadsAll s.heap vs ds as) (hh:∀ d∈ds,hdP isT d=true) (hok:∀ a∈ds,∀ b∈ds,okP a b=true) (hlay:∀ a∈ds,a.canLay0=true∧a.depth≤50) (hu:A.units + 52 < cLine)
  (hi:i < vs.length) (hj:j < vs.length) (q:C (btP ds i j) s):kas_ask prog w A (tuples' (!isT)) vs i j C s:=by
 obtain ⟨a1,r1,m1⟩:=zaU (i:=i) (v:=vs.getD i Value.none) ra (by rw [List.getD_eq_getElem?_getD,List.getElem?_eq_getElem hi];rfl)
 obtain ⟨a2,r2,m2⟩:=zaU (i:=j) (v:=vs.getD j Value.none) ra (by rw [List.getD_eq_getElem?_getD,List.getElem?_eq_getElem hj];rfl)
 have ok:=hok _ m1 _ m2
 have l1:=hlay _ m1
 have l2:=hlay _ m2
 have h1:=hh _ m1
 unfold btP at q
 unfold kas_ask
 generalize vs.getD i Value.none=v at r1
 generalize vs.getD j Value.none=v' at r2
 generalize ds.getD i .none=d at r1 ok l1 h1 q
 generalize ds.getD j .none=d' at r2 ok l2 q
 cases d with
 | tuple xs =>
  cases d' with
  | tuple ys =>
   cases r1 with
   | @tuple l o us n _ as1 g1 g2 g3 g4 =>
    cases r2 with
    | @tuple l' o2 us' n' _ bs1 k1 k2 k3 k4 =>
     have n1:us.size=xs.length:=by simpa using SeqAt.ReadsAll.length _ _ _ g4
     have n2:us'.size=ys.length:=by simpa using SeqAt.ReadsAll.length _ _ _ k4
     have dp:PyData.depthAll xs + 1≤50:=l1.2
     refine kat_lt g1 g3 k1 k3 ?_
     rw [n1,n2]
     refine ybg xs ys _ _ _ _ 0 g4 k4 ok l1.1 l2.1 (by omega) (fun hb _ x r e=>?_) (by rw [XbH];exact q)
     subst e
     have hT:isT=false:=by simpa using hb
     subst hT
     cases x with
     | int n=>exact ⟨n,rfl⟩
     | none=>cases h1
     | bool _=>cases h1
     | str _=>cases h1
     | list _=>cases h1
     | tuple _=>cases h1
     | dict _=>cases h1
  | none=>cases ok
  | bool _=>cases ok
  | str _=>cases ok
  | list _=>cases ok
  | int _=>cases ok
  | dict _=>cases ok
 | none=>cases h1
 | bool _=>cases h1
 | str _=>cases h1
 | list _=>cases h1
 | int _=>cases h1
 | dict _=>cases h1
theorem Ya5 {isT:Bool} {h:Heap}:∀ {ds:List PyData} {vs:List Value} {as:List Addr},ReadsAll h vs ds as→(∀ d∈ds,hdP isT d=true)→∃ fs,KatTups h vs fs∧fs.length=vs.length∧∀ f∈fs,(isT=false∧∃ n t,f=.int n t)∨(isT=true∧∃ a o,f=.ref a∧h.get? a=some o∧o.cls=.type "tuple")
 | [],_,_,r,_=>by cases r;exact ⟨[],trivial,rfl,fun f hf=>nomatch hf⟩
 | d :: ds,_,_,r,hh=>by
  cases r with
  | cons r rs =>
   obtain ⟨fs,t,hl,hf⟩:=Ya5 rs fun d hd=>hh d (List.mem_cons_of_mem _ hd)
   have h1:=hh d List.mem_cons_self
   cases d with
   | tuple xs =>
    cases r with
    | @tuple l o us n _ as1 g1 g2 g3 g4 =>
     cases xs with
     | nil=>cases h1
     | cons x xs =>
      have hz:∃ u r,us.toList=u :: r∧∃ as2,Reads h u x as2:=by
       generalize us.toList=L at g4
       cases g4 with
       | cons q _=>exact ⟨_,_,rfl,_,q⟩
      obtain ⟨u,r0,eL,as2,q⟩:=hz
      have e0:us[0]?=some u:=by rw [← Array.getElem?_toList,eL];rfl
      refine ⟨u :: fs,⟨⟨l,o,us,n,rfl,g1,g2,g3,e0⟩,t⟩,by simp [hl],fun f hf'=>?_⟩
      rcases List.mem_cons.mp hf' with rfl | hf'
      ·cases x with
       | int n =>
        cases q with
        | int _ t=>exact .inl ⟨by simpa [hdP] using h1,_,_,rfl⟩
       | tuple _ =>
        cases q with
        | tuple k1 k2 k3 k4=>exact .inr ⟨by simpa [hdP] using h1,_,_,rfl,k1,k2⟩
       | none=>cases h1
       | bool _=>cases h1
       | str _=>cases h1
       | list _=>cases h1
       | dict _=>cases h1
      ·exact hf f hf'
   | none=>cases h1
   | bool _=>cases h1
   | str _=>cases h1
   | list _=>cases h1
   | int _=>cases h1
   | dict _=>cases h1
theorem Xbx {isT:Bool} {vs:List Value} {ds:List PyData} {as:List Addr} {Q:SortKind→Shared→Prop} (ra:ReadsAll s.heap vs ds as) (hh:∀ d∈ds,hdP isT d=true) (hn:0 < vs.length) (q:Q (tuples' (!isT)) s):wpAny (model prog w) A (keyKind' vs.toArray) Q E s:=by
 obtain ⟨fs,t,hl,hf⟩:=Ya5 ra hh
 cases isT with
 | false =>
  refine kat_kind (T:=.type "int") t (by omega) (fun v hv=>?_) (by decide) q
  rcases hf v hv with ⟨_,n,t,rfl⟩ | ⟨z,_⟩
  ·exact Looks.of_pure rfl
  ·cases z
 | true =>
  refine kat_kind (T:=.type "tuple") t (by omega) (fun v hv=>?_) (by decide) q
  rcases hf v hv with ⟨z,_⟩ | ⟨_,a,o,rfl,ho,hc⟩
  ·cases z
  ·rw [← hc]
   exact (Looks.ld ho).andThen .now
end
noncomputable def KeepBut (a:Addr) (h h':Heap):Prop:=∀ b o,b≠a→h.get? b=some o→h'.get? b=some o
noncomputable def ordV (vs:List Value) (p:Array Nat):Array Value:=List.toArray (p.toList.map fun i=>vs.getD i Value.none)
theorem zby (vs:List Value):ordV vs (List.toArray (List.range vs.length))=vs.toArray:=by
 unfold ordV
 congr 1
 refine List.ext_getElem? fun i=>?_
 rw [List.getElem?_map]
 by_cases h:i < vs.length
 ·rw [List.getElem?_eq_getElem (by simpa using h)]
  simp [h]
 ·rw [List.getElem?_eq_none (by simpa using h),List.getElem?_eq_none (by simpa using h)];rfl
section
variable {prog:Program} {w:World} {A:Around} {E:Value→Shared→Prop} {s:Shared} {lt:Nat→Nat→Bool}
theorem ybI {a:Addr} {vs:List Value} {n:Nat} {R:PySem.Fin→Shared→Prop} (ho:s.heap.get? a=some (seqObj "list" vs.toArray n)) (h64:vs.length < 64) (o:Ord lt)
  (hk:2≤vs.length→∀ s':Shared,KeepBut a s.heap s'.heap→∃ κ,(∀ Q:SortKind→Shared→Prop,Q κ s'→wpAny (model prog w) A (keyKind' vs.toArray) Q E s')∧∀ i j (C:Bool→Shared→Prop),i < vs.length→j < vs.length→C (lt i j) s'→kas_ask prog w A κ vs i j C s')
  (h:∀ p:Array Nat,Arr vs.length p→Srt lt p vs.length→R (.done (.ret .none)) { s with heap:=sortedHeap s.heap a vs (ordV vs p) }):wpAny (model prog w) A (Builtin.«list.sort» ⟨[.ref a],[]⟩) R E s:=by
 rw [list_sort_plain]
 have halt:a < s.heap.objs.size:=Heap.lt_size ho
 have hsl:sizeLine=sizeLine:=rfl
 have h64':vs.length≤sizeLine:=Nat.le_trans (Nat.le_of_lt h64) (by decide)
 refine wpAny_bind (listItems_at ho rfl (wpAny_bind (listUpdate_at ho rfl ?_ (by rw [List.size_toArray];exact h64') (Nat.zero_le _))))
 obtain ⟨e1,ho1⟩:∃ e1,(s.heap.update a (Obj.mapSeq fun _=>(#[]:Array Value))).get? a=some (seqObj "list" #[] e1):=⟨_,get?_update_seq ho fun _=>#[]⟩
 refine wpAny_bind (seqEpoch_at ho1 rfl (wpAny_bind (wpAny_newTuple (wpAny_bind (wpAny_newList (wpAny_holding ?_) (Nat.zero_le _))) (by show vs.length≤_;exact h64'))))
 have ne1:a≠(s.heap.update a (Obj.mapSeq fun _=>(#[]:Array Value))).objs.size:=by rw [Heap.size_update];exact Nat.ne_of_lt halt
 have ho6:(((s.heap.update a (Obj.mapSeq fun _=>(#[]:Array Value))).push (seqObj "tuple" vs.toArray 0)).push (seqObj "list" #[] 0)).get? a=some (seqObj "list" #[] e1):=Heap.get?_push_of_some _ (Heap.get?_push_of_some _ ho1)
 have kb:KeepBut a s.heap (((s.heap.update a (Obj.mapSeq fun _=>(#[]:Array Value))).push (seqObj "tuple" vs.toArray 0)).push (seqObj "list" #[] 0)):=fun b o hb e=>Heap.get?_push_of_some _ (Heap.get?_push_of_some _ ((Heap.get?_update_other _ _ (Ne.symm hb)).trans e))
 show wpAny (model prog w) A _ R E { s with heap:=((s.heap.update a (Obj.mapSeq fun _=>(#[]:Array Value))).push (seqObj "tuple" vs.toArray 0)).push (seqObj "list" #[] 0) }
 dsimp only
 by_cases h2:vs.toArray.size < 2
 ·rw [if_pos h2,if_pos h2]
  refine wpAny_bind (wpAny_pure ?_)
  rw [StateT.run_pure]
  refine wpAny_bind (wpAny_pure ?_)
  dsimp only
  have eo:(arrOf (SortSt.mk' general' (vs.toArray.zip vs.toArray) #[] 7 none)).map (·.2)=ordV vs (List.toArray (List.range vs.length)):=by
   rw [zby]
   show (vs.toArray.zip vs.toArray).map (·.2)=vs.toArray
   apply Array.toList_inj.mp
   simp [List.map_snd_zip]
  refine wpAny_bind (seqEpoch_at ho6 rfl ?_)
  rw [eo]
  refine wpAny_bind (listUpdate_at ho6 rfl ?_ (Nat.zero_le _) (by unfold ordV;rw [List.size_toArray,List.length_map,Array.length_toList,List.size_toArray,List.length_range];omega))
  simp only [bne_self_eq_false,Bool.false_eq_true,if_false]
  refine wpAny_pure (h _ ⟨by simp,by simp⟩ fun i j hij hj=>?_)
  have e:i=j:=by rw [List.size_toArray] at h2;omega
  subst e;exact o.rf _
 ·rw [if_neg h2,if_neg h2]
  have h2':2≤vs.length:=by rw [List.size_toArray] at h2;omega
  obtain ⟨κ,hkk,hask⟩:=hk h2' { s with heap:=((s.heap.update a (Obj.mapSeq fun _=>(#[]:Array Value))).push (seqObj "tuple" vs.toArray 0)).push (seqObj "list" #[] 0) } kb
  refine wpAny_bind (hkk _ ?_)
  have run:=kat_run (prog:=prog) (w:=w) (A:=A) (E:=E) (κ:=κ) (ks:=vs) (vs:=vs) (s:={ s with heap:=((s.heap.update a (Obj.mapSeq fun _=>(#[]:Array Value))).push (seqObj "tuple" vs.toArray 0)).push (seqObj "list" #[] 0) }) (Q:=fun st' s'=>∃ p:Array Nat,arrOf st'=p.map (kas_item (vs.toArray.zip vs.toArray))∧failedOf st'=none∧s'={ s with heap:=((s.heap.update a (Obj.mapSeq fun _=>(#[]:Array Value))).push (seqObj "tuple" vs.toArray 0)).push (seqObj "list" #[] 0) }∧Arr vs.length p∧Srt lt p vs.length)
   (G:=fun p s'=>s'={ s with heap:=((s.heap.update a (Obj.mapSeq fun _=>(#[]:Array Value))).push (seqObj "tuple" vs.toArray 0)).push (seqObj "list" #[] 0) }∧Arr vs.length p∧Srt lt p vs.length) rfl h2' h64 (fun p st' s' _ x y z=>⟨p,x,y,z⟩)
   (Xb6 o (by omega) hask fun p' x y=>⟨rfl,x,y⟩)
  refine wpAny_bind (wpAny_mono run ?_ fun _ _ z=>z)
  rintro ⟨⟨⟩,st'⟩ s' ⟨p,har,hf,rfl,hA,hS⟩
  dsimp only
  have eo:(arrOf st').map (·.2)=ordV vs p:=kat_snds rfl har
  refine wpAny_bind (seqEpoch_at ho6 rfl ?_)
  rw [eo]
  refine wpAny_bind (listUpdate_at ho6 rfl ?_ (Nat.zero_le _) (by unfold ordV;rw [List.size_toArray,List.length_map,Array.length_toList,hA.sz];omega))
  rw [hf]
  simp only [bne_self_eq_false,Bool.false_eq_true,if_false]
  exact wpAny_pure (h p hA hS)
theorem xbm {l:Addr} {vs:List Value} {Q:Value→Shared→Prop} (hl:s.heap.IsList l vs.toArray) (h64:vs.length < 64) (o:Ord lt)
  (hk:2≤vs.length→∀ (s':Shared) (E':Value→Shared→Prop),KeepH s.heap s'.heap→∃ κ,(∀ Q:SortKind→Shared→Prop,Q κ s'→wpAny (model prog w) A.in1.in1 (keyKind' vs.toArray) Q E' s')∧∀ i j (C:Bool→Shared→Prop),i < vs.length→j < vs.length→C (lt i j) s'→kas_ask prog w A.in1.in1 κ vs i j C s')
  (h:∀ p:Array Nat,Arr vs.length p→Srt lt p vs.length→Q (.ref (s.heap.objs.size + 1)) { s with heap:=sortedAll s.heap vs (ordV vs p) }):wpAny (model prog w) A (call (.builtin "sorted") [.ref l]) Q E s:=by
 have h64':vs.length≤sizeLine:=Nat.le_trans (Nat.le_of_lt h64) (by decide)
 refine Calls.call_function_entry kind_sorted plain_sorted entry_sorted (args_sorted1 _) ?_
 unfold Builtin.«sorted»
 refine wpAny_bind (m:=checkCount "sorted" 1 1 _) (wpAny_pure (wpAny_bind (collect_list hl (wpAny_bind (wpAny_newList ?_ h64')) h64')))
 have hsz:((s.heap.push (seqObj "list" #[] 0)).update s.heap.objs.size (Obj.mapSeq (· ++ vs.toArray))).objs.size=s.heap.objs.size + 1:=(Heap.size_update _ _ _).trans (size_push' _ _)
 have hoL:(((s.heap.push (seqObj "list" #[] 0)).update s.heap.objs.size (Obj.mapSeq (· ++ vs.toArray))).push (seqObj "list" vs.toArray 0)).get? (s.heap.objs.size + 1)=some (seqObj "list" vs.toArray 0):=hsz ▸ Heap.get?_push_size _ rfl
 show wpAny (model prog w) _ _ _ _ { s with heap:=((s.heap.push (seqObj "list" #[] 0)).update s.heap.objs.size (Obj.mapSeq (· ++ vs.toArray))).push (seqObj "list" vs.toArray 0) }
 rw [hsz]
 have k1:KeepH s.heap (((s.heap.push (seqObj "list" #[] 0)).update s.heap.objs.size (Obj.mapSeq (· ++ vs.toArray))).push (seqObj "list" vs.toArray 0)):=fun b o e=>Heap.get?_push_of_some _ ((Heap.get?_update_other _ _ (Ne.symm (Nat.ne_of_lt (Heap.lt_size e)))).trans (Heap.get?_push_of_some _ e))
 refine wpAny_bind (wpAny_holding (wpAny_call_entry slot_list_sort ⟨_,hoL,rfl⟩ entry_list_sort (ybI hoL h64 o (fun h2 s' kb=>hk h2 s' _ fun b o' e=>kb b o' (fun z=>?_) (k1 b o' e)) fun p a1 a2=>⟨_,rfl,?_⟩) (args_list_sort _)))
 ·have:=Heap.lt_size e
  rw [z] at this
  exact absurd this (Nat.not_lt_of_le (Nat.le_succ _))
 ·exact wpAny_pure ⟨_,rfl,h p a1 a2⟩
end
mutual
theorem ZbI:∀ (a b:PyData),okP a b=true→(PyData.eqv a b=true↔a=b)
 | .int x,.int y,_=>by show ((x == y)=true)↔_;simp
 | .tuple xs,.tuple ys,h=>by show PyData.eqvAll xs ys=true↔_;rw [YbI xs ys h];simp
 | .int _,.none,h=>nomatch h
 | .int _,.bool _,h=>nomatch h
 | .int _,.str _,h=>nomatch h
 | .int _,.list _,h=>nomatch h
 | .int _,.tuple _,h=>nomatch h
 | .int _,.dict _,h=>nomatch h
 | .tuple _,.none,h=>nomatch h
 | .tuple _,.bool _,h=>nomatch h
 | .tuple _,.int _,h=>nomatch h
 | .tuple _,.str _,h=>nomatch h
 | .tuple _,.list _,h=>nomatch h
 | .tuple _,.dict _,h=>nomatch h
 | .none,_,h=>by simp [okP] at h
 | .bool _,_,h=>by simp [okP] at h
 | .str _,_,h=>by simp [okP] at h
 | .list _,_,h=>by simp [okP] at h
 | .dict _,_,h=>by simp [okP] at h
theorem YbI:∀ (xs ys:List PyData),okPs xs ys=true→(PyData.eqvAll xs ys=true↔xs=ys)
 | [],[],_=>by simp [PyData.eqvAll]
 | [],_ :: _,_=>by simp [PyData.eqvAll]
 | _ :: _,[],_=>by simp [PyData.eqvAll]
 | x :: xs,y :: ys,h=>by
  have h':okP x y=true∧okPs xs ys=true:=by simpa [okPs] using h
  rw [PyData.eqvAll,Bool.and_eq_true,ZbI x y h'.1,YbI xs ys h'.2]
  simp
end
theorem yaN {x y:PyData} {xs ys:List PyData} (h:okP x y=true):ltPs (x :: xs) (y :: ys)=true↔(x=y∧ltPs xs ys=true)∨(x≠y∧ltP x y=true):=by
 rw [ltPs]
 by_cases e:x=y
 ·rw [if_pos ((ZbI x y h).mpr e)];simp [e]
 ·rw [if_neg (fun z=>e ((ZbI x y h).mp z))];simp [e]
mutual
theorem Xbm:∀ a:PyData,ltP a a=false
 | .int x=>by simp [ltP]
 | .tuple xs=>by show ltPs xs xs=false;exact Xbq xs
 | .none=>rfl
 | .bool _=>rfl
 | .str _=>rfl
 | .list _=>rfl
 | .dict _=>rfl
theorem Xbq:∀ xs:List PyData,ltPs xs xs=false
 | []=>rfl
 | x :: xs=>by
  rw [ltPs]
  split
  ·exact Xbq xs
  ·exact Xbm x
end
mutual
theorem zbn:∀ (a b:PyData),okP a b=true→okP b a=true→ltP a b=false→ltP b a=false→a=b
 | .int x,.int y,_,_,h1,h2=>by
  have h1:=of_decide_eq_false h1
  have h2:=of_decide_eq_false h2
  rw [show x=y by omega]
 | .tuple xs,.tuple ys,o1,o2,h1,h2=>by rw [zbr xs ys o1 o2 h1 h2]
 | .int _,.none,h,_,_,_=>nomatch h
 | .int _,.bool _,h,_,_,_=>nomatch h
 | .int _,.str _,h,_,_,_=>nomatch h
 | .int _,.list _,h,_,_,_=>nomatch h
 | .int _,.tuple _,h,_,_,_=>nomatch h
 | .int _,.dict _,h,_,_,_=>nomatch h
 | .tuple _,.none,h,_,_,_=>nomatch h
 | .tuple _,.bool _,h,_,_,_=>nomatch h
 | .tuple _,.int _,h,_,_,_=>nomatch h
 | .tuple _,.str _,h,_,_,_=>nomatch h
 | .tuple _,.list _,h,_,_,_=>nomatch h
 | .tuple _,.dict _,h,_,_,_=>nomatch h
 | .none,_,h,_,_,_=>by simp [okP] at h
 | .bool _,_,h,_,_,_=>by simp [okP] at h
 | .str _,_,h,_,_,_=>by simp [okP] at h
 | .list _,_,h,_,_,_=>by simp [okP] at h
 | .dict _,_,h,_,_,_=>by simp [okP] at h
theorem zbr:∀ (xs ys:List PyData),okPs xs ys=true→okPs ys xs=true→ltPs xs ys=false→ltPs ys xs=false→xs=ys
 | [],[],_,_,_,_=>rfl
 | [],_ :: _,_,_,h,_=>by simp [ltPs] at h
 | _ :: _,[],_,_,_,h=>by simp [ltPs] at h
 | x :: xs,y :: ys,o1,o2,h1,h2=>by
  have a:okP x y=true∧okPs xs ys=true:=by simpa [okPs] using o1
  have b:okP y x=true∧okPs ys xs=true:=by simpa [okPs] using o2
  have n1:¬ ((x=y∧ltPs xs ys=true)∨(x≠y∧ltP x y=true)):=fun z=>by rw [← yaN a.1] at z;rw [h1] at z;cases z
  have n2:¬ ((y=x∧ltPs ys xs=true)∨(y≠x∧ltP y x=true)):=fun z=>by rw [← yaN b.1] at z;rw [h2] at z;cases z
  by_cases e:x=y
  ·subst e
   rw [zbr xs ys a.2 b.2 (by cases q:ltPs xs ys with | false=>rfl | true=>exact absurd (.inl ⟨rfl,q⟩) n1) (by cases q:ltPs ys xs with | false=>rfl | true=>exact absurd (.inl ⟨rfl,q⟩) n2)]
  ·exact absurd (zbn x y a.1 b.1 (by cases q:ltP x y with | false=>rfl | true=>exact absurd (.inr ⟨e,q⟩) n1) (by cases q:ltP y x with | false=>rfl | true=>exact absurd (.inr ⟨Ne.symm e,q⟩) n2)) e
end
mutual
theorem za0:∀ (a b c:PyData),okP a b=true→okP b c=true→okP a c=true→ltP a b=true→ltP b c=true→ltP a c=true
 | .int x,.int y,.int z,_,_,_,h1,h2=>by
  have h1:=of_decide_eq_true h1
  have h2:=of_decide_eq_true h2
  exact decide_eq_true (by omega)
 | .tuple xs,.tuple ys,.tuple zs,o1,o2,o3,h1,h2=>xa5 xs ys zs o1 o2 o3 h1 h2
 | .int _,.int _,.none,_,h,_,_,_=>nomatch h
 | .int _,.int _,.bool _,_,h,_,_,_=>nomatch h
 | .int _,.int _,.str _,_,h,_,_,_=>nomatch h
 | .int _,.int _,.list _,_,h,_,_,_=>nomatch h
 | .int _,.int _,.tuple _,_,h,_,_,_=>nomatch h
 | .int _,.int _,.dict _,_,h,_,_,_=>nomatch h
 | .tuple _,.tuple _,.none,_,h,_,_,_=>nomatch h
 | .tuple _,.tuple _,.bool _,_,h,_,_,_=>nomatch h
 | .tuple _,.tuple _,.str _,_,h,_,_,_=>nomatch h
 | .tuple _,.tuple _,.list _,_,h,_,_,_=>nomatch h
 | .tuple _,.tuple _,.int _,_,h,_,_,_=>nomatch h
 | .tuple _,.tuple _,.dict _,_,h,_,_,_=>nomatch h
 | .int _,.none,_,h,_,_,_,_=>nomatch h
 | .int _,.bool _,_,h,_,_,_,_=>nomatch h
 | .int _,.str _,_,h,_,_,_,_=>nomatch h
 | .int _,.list _,_,h,_,_,_,_=>nomatch h
 | .int _,.tuple _,_,h,_,_,_,_=>nomatch h
 | .int _,.dict _,_,h,_,_,_,_=>nomatch h
 | .tuple _,.none,_,h,_,_,_,_=>nomatch h
 | .tuple _,.bool _,_,h,_,_,_,_=>nomatch h
 | .tuple _,.int _,_,h,_,_,_,_=>nomatch h
 | .tuple _,.str _,_,h,_,_,_,_=>nomatch h
 | .tuple _,.list _,_,h,_,_,_,_=>nomatch h
 | .tuple _,.dict _,_,h,_,_,_,_=>nomatch h
 | .none,_,_,h,_,_,_,_=>by simp [okP] at h
 | .bool _,_,_,h,_,_,_,_=>by simp [okP] at h
 | .str _,_,_,h,_,_,_,_=>by simp [okP] at h
 | .list _,_,_,h,_,_,_,_=>by simp [okP] at h
 | .dict _,_,_,h,_,_,_,_=>by simp [okP] at h
theorem xa5:∀ (xs ys zs:List PyData),okPs xs ys=true→okPs ys zs=true→okPs xs zs=true→ltPs xs ys=true→ltPs ys zs=true→ltPs xs zs=true
 | [],[],_,_,_,_,h,_=>by simp [ltPs] at h
 | [],_ :: _,[],_,_,_,_,h=>by simp [ltPs] at h
 | [],_ :: _,_ :: _,_,_,_,_,_=>by simp [ltPs]
 | _ :: _,[],_,_,_,_,h,_=>by simp [ltPs] at h
 | _ :: _,_ :: _,[],_,_,_,_,h=>by simp [ltPs] at h
 | x :: xs,y :: ys,z :: zs,o1,o2,o3,h1,h2=>by
  have a:okP x y=true∧okPs xs ys=true:=by simpa [okPs] using o1
  have b:okP y z=true∧okPs ys zs=true:=by simpa [okPs] using o2
  have c:okP x z=true∧okPs xs zs=true:=by simpa [okPs] using o3
  rw [yaN a.1] at h1
  rw [yaN b.1] at h2
  rw [yaN c.1]
  rcases h1 with ⟨rfl,h1⟩ | ⟨n1,h1⟩
  ·rcases h2 with ⟨rfl,h2⟩ | ⟨n2,h2⟩
   ·exact .inl ⟨rfl,xa5 xs ys zs a.2 b.2 c.2 h1 h2⟩
   ·exact .inr ⟨n2,h2⟩
  ·rcases h2 with ⟨rfl,h2⟩ | ⟨n2,h2⟩
   ·exact .inr ⟨n1,h1⟩
   ·have h3:=za0 x y z a.1 b.1 c.1 h1 h2
    exact .inr ⟨(fun e=>by rw [e,Xbm] at h3;cases h3),h3⟩
end
theorem ybr {ds:List PyData} (hok:∀ a∈ds,∀ b∈ds,okP a b=true) (hn:ds≠[]):Ord fun i j=>btP ds (min i (ds.length - 1)) (min j (ds.length - 1)):=by
 have mem:∀ i,ds.getD (min i (ds.length - 1)) .none∈ds:=fun i=>by
  have hl:0 < ds.length:=List.length_pos_iff.mpr hn
  rw [List.getD_eq_getElem?_getD,List.getElem?_eq_getElem (by omega)]
  exact List.getElem_mem _
 have as:∀ a∈ds,∀ b∈ds,ltP a b=true→ltP b a=false:=fun a ha b hb h=>by
  cases q:ltP b a with
  | false=>rfl
  | true=>have:=za0 a b a (hok a ha b hb) (hok b hb a ha) (hok a ha a ha) h q;rw [Xbm] at this;cases this
 refine ⟨fun a b c h1 h2=>?_,fun a b h=>as _ (mem a) _ (mem b) h⟩
 have ma:=mem a
 have mb:=mem b
 have mc:=mem c
 unfold btP at h1 h2 ⊢
 generalize ds.getD (min a (ds.length - 1)) .none=x at *
 generalize ds.getD (min b (ds.length - 1)) .none=y at *
 generalize ds.getD (min c (ds.length - 1)) .none=z at *
 cases q:ltP z x with
 | false=>rfl
 | true =>
  cases q1:ltP x y with
  | true =>
   have:=za0 z x y (hok z mc x ma) (hok x ma y mb) (hok z mc y mb) q q1
   rw [h2] at this;cases this
  | false =>
   have:=zbn x y (hok x ma y mb) (hok y mb x ma) q1 h1
   subst this
   rw [h2] at q;cases q
section
variable {X:Cx}
noncomputable def rSortD (K:PySem.W.Frag):List V→Hp→VK→Prop:=fun xs H Q=>∃ (p:Addr) (vs:List V) (ds:List PyData),xs=[.ref p]∧SqL K H p vs∧Reps K H vs ds∧ds.length < 64∧(∀ a∈ds,∀ b∈ds,okP a b=true)∧(∀ a∈ds,a.canLay0=true∧a.depth≤50)∧(∃ isT,∀ d∈ds,hdP isT d=true) ∧
 ∀ (l:Addr) (is:List Nat),H l=none→is.Perm (List.range ds.length)→(is.map fun i=>ds.getD i .none).Pairwise (fun a b=>ltP b a=false)→Q (.ref l) (upd H l (.lst (is.map fun i=>vs.getD i .non)))
theorem Zbg {vs:List V} {its:List Value} (r:Vals vs its):∀ (is:List Nat),(∀ i∈is,i < vs.length)→Vals (is.map fun i=>vs.getD i .non) (is.map fun i=>its.getD i Value.none)
 | [],_=>.nil
 | i :: is,h=>by
  have hi:=h i List.mem_cons_self
  obtain ⟨u,hu,ru⟩:=Vals.get r (List.getElem?_eq_getElem hi)
  refine .cons ?_ (Zbg r is fun j hj=>h j (List.mem_cons_of_mem _ hj))
  show RelV (vs.getD i .non) (its.getD i Value.none)
  rw [List.getD_eq_getElem?_getD,List.getD_eq_getElem?_getD,List.getElem?_eq_getElem hi,hu]
  exact ru
theorem ZaN (hu:X.A.units + 64 < cLine):CallR X (.builtin "sorted") (rSortD X.K):=by
 intro pins s σ H xs us Q I r h
 obtain ⟨p,vs,ds,rfl,hq,hr,h64,hok,hlay,⟨isT,hT⟩,q⟩:=h
 obtain ⟨u,rfl,ru⟩:=vals1 r
 cases ru
 obtain ⟨its,rv,pl,_⟩:=I.list hq
 obtain ⟨as,ra⟩:=Reps.reads I hr rv
 have hlen:its.length=ds.length:=SeqAt.ReadsAll.length _ _ _ ra
 have hvl:vs.length=its.length:=rv.length
 have o:Ord fun i j=>btP ds (min i (ds.length - 1)) (min j (ds.length - 1)):=by
  by_cases hn:ds=[]
  ·subst hn;exact ⟨fun _ _ _ _ _=>rfl,fun _ _ _=>rfl⟩
  ·exact ybr hok hn
 refine xbm pl.isList (by omega) o (fun h2 s' E' hK=>⟨tuples' (!isT),fun Q' q'=>Xbx (ReadsAll.keeps hK ra) hT (by omega) q',fun i j C hi hj c=>?_⟩) fun pp a1 a2=>?_
 ·refine zbI (ReadsAll.keeps hK ra) hT hok hlay (by show X.A.units + 1 + 1 + 52 < cLine;omega) hi hj ?_
  rw [show min i (ds.length - 1)=i by omega,show min j (ds.length - 1)=j by omega] at c
  exact c
 ·have hb:∀ i∈pp.toList,i < ds.length:=fun i hi=>by
   have:=List.mem_range.mp (a1.pm.subset hi)
   omega
  have hpl:pp.toList.length=ds.length:=by rw [Array.length_toList,a1.sz,hlen]
  obtain ⟨e,he⟩:=sortedAll_at s.heap its (ordV its pp)
  refine ⟨.ref (s.heap.objs.size + 1),_,I.laid (t':=s.toks) (o:=.lst (pp.toList.map fun i=>vs.getD i .non)) (fun b o q=>sortedAll_old q) (Nat.le_succ _) ?_,rfl,q _ pp.toList (I.hok.fresh (Nat.le_succ _)) (by rw [← hlen];exact a1.pm) ?_⟩
  ·refine ⟨by rw [List.length_map,hpl];exact Nat.le_trans (Nat.le_of_lt h64) (by decide),pp.toList.map fun i=>its.getD i Value.none,e,Zbg rv _ fun i hi=>by rw [hvl,hlen];exact hb i hi,?_⟩
   have:ordV its pp=(pp.toList.map fun i=>its.getD i Value.none).toArray:=rfl
   rw [← this]
   exact he
  ·rw [List.pairwise_map,List.pairwise_iff_getElem]
   intro i j hi hj hij
   have:=a2 i j (Nat.le_of_lt hij) (by rw [hlen,← hpl];exact hj)
   have e1:P pp i=pp.toList[i]:=by unfold P;rw [Array.getD_eq_getD_getElem?,← Array.getElem?_toList,List.getElem?_eq_getElem hi];rfl
   have e2:P pp j=pp.toList[j]:=by unfold P;rw [Array.getD_eq_getD_getElem?,← Array.getElem?_toList,List.getElem?_eq_getElem hj];rfl
   have b1:=hb _ (List.getElem_mem hi)
   have b2:=hb _ (List.getElem_mem hj)
   simp only [e1,e2,show min pp.toList[i] (ds.length - 1)=pp.toList[i] by omega,show min pp.toList[j] (ds.length - 1)=pp.toList[j] by omega] at this
   exact this
end
end L2
namespace L2
open PySem PySem.Spec PyProof.Rows
section
variable {X:Cx} {o e f:Expr} {apos cpos:Pos} {td ty tx:TE}
end
end L2
namespace L2
open PySem PySem.Spec PyProof.Rows PySem.W
section
variable {X:Cx} {o e:Expr} {t t' td:TE} {apos cpos pos p:Pos}
end
end L2
namespace L2
open PySem PySem.Spec PyProof.Rows
section
variable {X:Cx} {body:List Stmt} {h₀:ExceptHandler} {hs:List ExceptHandler} {pos:Pos} {t:TS}
end
end L2
namespace L2
open PySem PySem.Spec PyProof.Rows
section
variable {X:Cx} {K:PySem.W.Frag}
theorem xbI (hc:X.calm=true):CallR X (.builtin "sum") (fun xs H Q=>∃ (p:Addr) (ns:List Int),xs=[.ref p]∧SqL X.K H p (ns.map V.int)∧Q (.int ns.sum) H):=by
 intro pins s σ H xs us Q I r h
 obtain ⟨p,ns,rfl,hq,q⟩:=h
 obtain ⟨u,rfl,ru⟩:=vals1 r
 cases ru
 obtain ⟨its,rv,pl,_⟩:=I.list hq
 have hi:IntsAre its ns:=Za4 rv
 obtain ⟨xs,hx⟩:=hi.allInts.items
 have hl':s.heap.IsList p (intItems xs):=hx ▸ pl.isList
 refine sum_intListG (I.ok.hd hc) hl' fun h' tk t' hk=>?_
 have e1:ns=xs.toList.map (·.1):=by
  rw [← nums_intItems,← hx]
  exact (show numsOf its.toArray.toList=ns from hi.numsOf).symm
 have e2:preSum (numAt xs) xs.size=ns.sum:=by
  rw [preSum_eq,List.take_of_length_le (by simp),e1]
 rw [e2]
 exact ⟨.int _,H,I.kept hk,⟨_,rfl⟩,q⟩
end
end L2
namespace L2
open PySem PySem.Spec PyProof.Rows
open Builtin
end L2
namespace L2
open PySem PySem.Spec PyProof.Rows
section
variable {X:Cx} {K:PySem.W.Frag}
end
end L2
namespace L2
open PySem PySem.Spec PyProof.Rows PySem.W
section
variable {prog:Program} {w:World} {A:Around} {E:Value→Shared→Prop} {s:Shared}
theorem zb7 {v d:Addr} {es:Array DictEntry} {ep:Nat} {Q:Value→Shared→Prop} (hv:s.heap.IsValuesView v d) (m:EntAt s.heap d es ep)
  (q:Q (.ref s.heap.objs.size) { s with heap:=s.heap.push { cls:=.type "dict_valueiterator",data:=.fields #[.ref d,.int 0 0,.int es.size 0,.int ep 0] } }):wpAny (model prog w) A (pyIter (.ref v)) Q E s:=by
 obtain ⟨vo,hvo,hcl,hfs⟩:=id hv
 obtain ⟨od,hod,hx,hdd⟩:=m
 refine wpAny_pyIter_slot hv.typeIs F.slot_dict_values_iter (wpAny_call_entry F.slot_dict_values_iter hv.typeIs F.entry_dict_values_iter ?_ (F.args_dict_values_iter_1 _))
 unfold Builtin.«dict_values.__iter__»
 refine wpAny_bind (wpAny_pure (wpAny_bind ?_))
 unfold Builtin.Dict_items.dictOf
 refine wpAny_bind (wpAny_field hvo hfs (x:=.ref d) rfl (wpAny_pure (wpAny_bind ?_)))
 unfold Builtin.Dict_items.newIterator
 refine wpAny_bind (wpAny_dictEntries hod hdd (wpAny_bind (wpAny_dictEpoch hod hdd ?_)))
 have own0:Builtin.Dict_items.ownsTuple "dict_valueiterator" = false:=by decide
 simp only [own0,Bool.false_eq_true,if_false]
 refine wpAny_newObj_type (wpAny_pure ⟨_,rfl,"dict_valueiterator",_,⟨_,Heap.get?_push_size _ rfl,rfl⟩,F.slot_dict_valueiterator_next.lookup,?_⟩)
 simpa only [rawInt] using q
theorem yb7 {it d:Addr} {i ep:Nat} {es:Array DictEntry} {e:DictEntry} {Q:Option Value→Shared→Prop} (ik:s.heap.IsValIter it d i es.size ep) (m:EntAt s.heap d es ep) (he:es[i]?=some e)
  (q:∀ h',h'.IsValIter it d (i + 1) es.size ep→Heap.SameBut it s.heap h'→Q (some e.val) { s with heap:=h' }):wpAny (model prog w) A (pyNext (.ref it)) Q E s:=by
 obtain ⟨io,hio,hcl,hfs⟩:=id ik
 obtain ⟨od,hod,hx,hdd⟩:=id m
 obtain ⟨li,ge⟩:=Array.getElem?_eq_some_iff.mp he
 unfold pyNext
 refine wpAny_bind (wpAny_attempt (wpAny_callSpecial?_slot (name:=Str.ofString "__next__") ik.typeIs F.slot_dict_valueiterator_next (wpAny_call_entry F.slot_dict_valueiterator_next ik.typeIs F.entry_dict_valueiterator_next ?_ (F.args_dict_valueiterator_next_1 _))))
 refine wpAny_bind (wpAny_pure (wpAny_bind (wpAny_bind ?_)))
 first | refine wpAny_bind (wpAny_typeNameOfWhole_valiter ik.typeIs (wpAny_pure ?_)) | refine wpAny_bind (wpAny_typeNameOf_valiter ik.typeIs (wpAny_pure ?_))
 refine wpAny_bind (wpAny_fieldsOf hio hfs ?_)
 have own0:Builtin.Dict_items.ownsTuple "dict_valueiterator" = false:=by decide
 simp only [own0,Bool.false_eq_true,if_false]
 refine (show wpAny _ _ (if (Value.ref d == Value.none)=true then _ else _) _ _ s from ?_)
 rw [if_neg (show ¬ (Value.ref d == Value.none)=true from Bool.false_ne_true)]
 refine wpAny_bind (wpAny_pure (wpAny_bind (wpAny_dictEntries hod hdd ?_)))
 rw [if_neg (by simp)]
 refine wpAny_bind (wpAny_pure (wpAny_bind (wpAny_dictEpoch hod hdd ?_)))
 rw [if_neg (by simp)]
 refine wpAny_pure ?_
 have ni:¬ ((i:Int) < 0):=by omega
 simp only [ni,if_false,Int.toNat_natCast,he]
 refine wpAny_bind ?_
 first | refine wpAny_bind (wpAny_typeNameOfWhole_valiter ik.typeIs (wpAny_pure ?_)) | refine wpAny_bind (wpAny_typeNameOf_valiter ik.typeIs (wpAny_pure ?_))
 refine wpAny_bind (wpAny_isOneOf_valiter ik.typeIs ?_)
 refine (show wpAny _ _ (setField (.ref it) 1 (rawInt ((i:Int) + 1)) >>= fun _=>_) _ _ s from ?_)
 refine wpAny_bind (wpAny_setField hio hfs (by simp) ?_)
 have ik2:(s.heap.update it (Obj.mapFields fun x=>x.setIfInBounds 1 (rawInt ((i:Int) + 1)))).IsValIter it d (i + 1) es.size ep:=⟨_,Heap.get?_update_self _ hio (Obj.isFreed_of_fields (Obj.data_mapFields hfs _)),(Obj.cls_mapFields ..).trans hcl,by rw [Obj.data_mapFields hfs];simp [rawInt]⟩
 refine wpAny_bind (wpAny_holding (wpAny_bind (wpAny_isOneOf_valiter (s:={ s with heap:=s.heap.update it (Obj.mapFields fun x=>x.setIfInBounds 1 (rawInt ((i:Int) + 1))) }) ik2.typeIs (wpAny_bind (wpAny_isOneOf_valiter (s:={ s with heap:=s.heap.update it (Obj.mapFields fun x=>x.setIfInBounds 1 (rawInt ((i:Int) + 1))) }) ik2.typeIs ?_)))))
 refine (show wpAny _ _ (pure e.val) _ _ _ from wpAny_pure (wpAny_pure ⟨_,rfl,wpAny_pure (q _ ik2 (Heap.SameBut.update ..))⟩))
theorem vi_end {it d:Addr} {i ep:Nat} {es:Array DictEntry} {Q:Option Value→Shared→Prop} (hh:A.handled=none) (ik:s.heap.IsValIter it d i es.size ep) (m:EntAt s.heap d es ep) (ge:es.size≤i)
  (q:∀ h',Heap.ExtBut it s.heap h'→Q none { s with heap:=h' }):wpAny (model prog w) A (pyNext (.ref it)) Q E s:=by
 obtain ⟨io,hio,hcl,hfs⟩:=id ik
 obtain ⟨od,hod,hx,hdd⟩:=id m
 unfold pyNext
 refine wpAny_bind (wpAny_attempt (wpAny_callSpecial?_slot (name:=Str.ofString "__next__") ik.typeIs F.slot_dict_valueiterator_next (wpAny_call_entry F.slot_dict_valueiterator_next ik.typeIs F.entry_dict_valueiterator_next ?_ (F.args_dict_valueiterator_next_1 _))))
 refine wpAny_bind (wpAny_pure (wpAny_bind (wpAny_bind ?_)))
 first | refine wpAny_bind (wpAny_typeNameOfWhole_valiter ik.typeIs (wpAny_pure ?_)) | refine wpAny_bind (wpAny_typeNameOf_valiter ik.typeIs (wpAny_pure ?_))
 refine wpAny_bind (wpAny_fieldsOf hio hfs ?_)
 have own0:Builtin.Dict_items.ownsTuple "dict_valueiterator" = false:=by decide
 simp only [own0,Bool.false_eq_true,if_false]
 refine (show wpAny _ _ (if (Value.ref d == Value.none)=true then _ else _) _ _ s from ?_)
 rw [if_neg (show ¬ (Value.ref d == Value.none)=true from Bool.false_ne_true)]
 refine wpAny_bind (wpAny_pure (wpAny_bind (wpAny_dictEntries hod hdd ?_)))
 rw [if_neg (by simp)]
 refine wpAny_bind (wpAny_pure (wpAny_bind (wpAny_dictEpoch hod hdd ?_)))
 rw [if_neg (by simp)]
 refine wpAny_pure ?_
 have ni:¬ ((i:Int) < 0):=by omega
 simp only [ni,if_false,Int.toNat_natCast,Array.getElem?_eq_none ge]
 refine wpAny_bind ?_
 first | refine wpAny_bind (wpAny_typeNameOfWhole_valiter ik.typeIs (wpAny_pure ?_)) | refine wpAny_bind (wpAny_typeNameOf_valiter ik.typeIs (wpAny_pure ?_))
 refine (show wpAny _ _ (setField (.ref it) 0 .none >>= fun _=>_) _ _ s from wpAny_bind (wpAny_setField hio hfs (by simp) ?_))
 refine (show wpAny _ _ (newExc (.type "StopIteration") [] >>= fun _=>_) _ _ _ from wpAny_bind ?_)
 simp only [newExc,newTuple]
 refine wpAny_bind (wpAny_newObj_type (wpAny_bind (m:=firstArgMember _ _) (wpAny_of_eq (a:=Value.none) (by first | rfl | (simp only [firstArgMember];rfl)) (wpAny_newObj_type ?_ (by size_fits)))) (by size_fits))
 simp only [raiseNew]
 refine wpAny_bind (wpAny_handled ?_)
 first | rw [show A.in1.handled=none from hh] | rw [hh]
 refine wpAny_bind (wpAny_pure (wpAny_throw ?_))
 refine wpAny_bind (m:=isInstance _ _) (wpAny_isInstance (T:="StopIteration") (b:=true) ⟨_,Heap.get?_push_size _ rfl,rfl⟩ isSubtype_stop ?_)
 exact wpAny_pure (q _ (((Heap.SameBut.update ..).extBut.push _).push _))
theorem EntAt.up {h h':Heap} {d:Addr} {es:Array DictEntry} {ep:Nat} (m:EntAt h d es ep) (k:∀ o,h.get? d=some o→h'.get? d=some o):EntAt h' d es ep:=let ⟨o,e,r⟩:=m;⟨o,k o e,r⟩
theorem EntAt.lt {h:Heap} {d:Addr} {es:Array DictEntry} {ep:Nat} (m:EntAt h d es ep):d < h.objs.size:=let ⟨_,e,_⟩:=m;Heap.lt_size e
theorem YbU (hh:A.handled=none) (I d:Addr) (hne:d≠I) (es:Array DictEntry) (ep:Nat):Walks prog w A I [I,d] [I] es.size (fun i v=>∃ e,es[i]?=some e∧e.val=v) (fun i h=>h.IsValIter I d i es.size ep∧EntAt h d es ep) where
 sub:=fun b hb=>by simp at hb;simp [hb]
 frame:=fun _ _ _ st hk=>⟨let ⟨o,e,r⟩:=st.1;⟨o,hk I (by simp) o e,r⟩,st.2.up fun o e=>hk d (by simp) o e⟩
 item:=fun i s Q E hi st hQ=>by
  have hx:es[i]?=some es[i]:=Array.getElem?_eq_getElem hi
  refine yb7 st.1 st.2 hx fun h' ik sb=>?_
  exact hQ _ h' s.toks ⟨_,hx,rfl⟩ ⟨ik,st.2.up fun o e=>sb.extBut d o hne e⟩ fun b o hb e=>sb.extBut b o (fun z=>hb (by simp [z])) e
 done:=fun s Q E st hQ=>vi_end hh st.1 st.2 (Nat.le_refl _) fun h' eb=>hQ h' s.toks fun b o hb e=>eb b o (fun z=>hb (by simp [z])) e
 self:=fun _ _ _ _ st hQ=>wpAny_pyIter_valiter st.1 hQ
theorem Zb7 (r d:Addr) (es:Array DictEntry) (ep:Nat):KdlSrc prog w "dict_values" r d es.size (fun i v=>∃ e,es[i]?=some e∧e.val=v) (fun h=>h.IsValuesView r d∧EntAt h d es ep) where
 type:=fun _ hm=>hm.1.typeIs
 there:=fun _ hm=>⟨let ⟨_,e,_⟩:=hm.1;Heap.lt_size e,hm.2.lt⟩
 keep:=fun _ _ hm hk=>⟨let ⟨o,e,x⟩:=hm.1;⟨o,hk r (.inl rfl) o e,x⟩,hm.2.up fun o e=>hk d (.inr rfl) o e⟩
 notList:=by decide
 notTuple:=by decide
 hint:=fun _ _ _ _ hm hq=>kdl_hint_values hm.1.typeIs hq
 iter:=fun _ _ hh hm=>⟨_,_,(fun _ _ hq=>zb7 hm.1 hm.2 hq),YbU hh _ d (Nat.ne_of_lt hm.2.lt) es ep,⟨⟨_,Heap.get?_push_size _ rfl,rfl,rfl⟩,hm.2.up fun o e=>Heap.get?_push_of_some _ e⟩⟩
theorem XbI (d:Addr) (hd:(d == sysModules)=false):MeetsIn prog w (Builtin.«dict.values» ⟨[.ref d],[]⟩) (fun _ R s=>s.TypeIs (.ref d) "dict" ∧
   R (.ok (.ret (.ref s.heap.objs.size))) { s with heap:=s.heap.push { cls:=.type "dict_values",data:=.fields #[.ref d] } }) :=
 .of_wp fun A R s ⟨ty,h⟩=>by
  refine wpAny_bind ?_
  unfold Builtin.Dict.noArgs
  refine wpAny_bind (wpAny_notOrdered_dict ty ?_)
  refine (show wpAny _ _ (pure d) _ _ s from wpAny_pure ?_)
  refine (show wpAny _ _ (Builtin.Dict.showsAll d >>= fun _=>_) _ _ s from ?_)
  unfold Builtin.Dict.showsAll
  rw [if_neg (show ¬ (d == sysModules)=true by rw [hd];decide)]
  exact wpAny_bind (wpAny_pure (wpAny_bind (wpAny_newObj_type (wpAny_pure ⟨_,rfl,h⟩))))
end
noncomputable def tUVals (K:PySem.W.Frag) (td:TE):TE:=fun σ H Q=>td σ H fun x H1=>∃ (a:Addr) (xs:List (List Int×Addr×Value)) (vs:List V),x=.ref a∧H1 a=some (DU a xs)∧(∀ x∈xs,SqT K H1 x.2.1 (x.1.map V.int))∧Vals vs (xs.map (·.2.2)) ∧
 ∀ l,H1 l=none→Q (.ref l) (upd H1 l (.lst vs))
theorem xbU {X:Cx} {o:Expr} {td:TE} {apos cpos pos p:Pos} (hc:X.calm=true) (hg:Gl X "list") (hm:X.mg "list" = none) (ho:PE X o td)
  (hbase:attributeBase o "values" X.env (eval o X.env)=eval o X.env:=by rfl) (hline:(apos.endLine == cpos.line)=true:=by rfl)
  (hs:starEach [.Call (.Attribute o "values" apos) [] [] cpos] X.env=[(false,eval (.Call (.Attribute o "values" apos) [] [] cpos) X.env)]:=by rfl) :
  PE X (.Call (.Name "list" p) [.Call (.Attribute o "values" apos) [] [] cpos] [] pos) (tUVals X.K td):=by
 intro pins s σ H Q I h
 refine wpAny_Call_Name_kw (Zbd I hg hm yas ?_ (by decide) (by decide))
 refine PyProof.Rows.callWith_type1 ?_ hs rfl
 rw [hs]
 show wpAny _ _ (spliced [(false,eval (.Call (.Attribute o "values" apos) [] [] cpos) X.env)]) _ _ s
 refine Calls.spliced_cons (wpAny_Call_method0_late hbase hline (thn (ho pins s σ H _ I h) fun u s1 ⟨x,H1,I1,rx,a,xs,vs,ex,hH,hk,rv,q⟩=>?_))
 subst ex
 obtain rfl:u=Value.ref a:=rx
 obtain ⟨hd,hl,dd⟩:=I1.du hH hk
 obtain ⟨od,es,ep,h1,h2,h3,h4,_,_⟩:=id dd
 refine ⟨"dict","dict.values",PySem.F.plainAttrs_dict,PySem.F.slot_dict_values,PySem.F.type_dict_values,dd.typeIs,(fun b q=>by cases q;exact ⟨od,h1,h2.2.1⟩),Calls.callWith_builtin rfl (PySem.evalArgs_none ?_)⟩
 refine call_meetsIn PySem.F.slot_dict_values dd.typeIs PySem.F.entry_dict_values (PySem.F.args_dict_values_1 _) (XbI a hd) ⟨dd.typeIs,?_⟩
 refine Calls.spliced_nil ?_
 have hes:es.size=xs.length:=by rw [← Array.length_toList,h4,List.length_map]
 refine kdl_call (Zb7 s1.heap.objs.size a es ep) (I1.ok.hd hc) ⟨⟨_,Heap.get?_push_size _ rfl,rfl,rfl⟩,⟨od,Heap.get?_push_of_some _ h1,h2,h3⟩⟩ (by rw [hes];exact hl) fun h' tk acc c hkeep hL hacc=>?_
 have ha:acc.toList=xs.map (·.2.2):=by
  refine List.ext_getElem? fun j=>?_
  rw [List.getElem?_map]
  by_cases hj:j < xs.length
  ·have hj2:j < acc.toList.length:=by rw [Array.length_toList,hacc.1];omega
   obtain ⟨e,he,hev⟩:=hacc.2 j _ (by rw [← Array.getElem?_toList];exact List.getElem?_eq_getElem hj2)
   rw [List.getElem?_eq_getElem hj2,← hev]
   rw [← Array.getElem?_toList,h4,List.getElem?_map,List.getElem?_eq_getElem hj] at he
   rw [List.getElem?_eq_getElem hj]
   cases he
   rfl
  ·rw [List.getElem?_eq_none (by rw [Array.length_toList,hacc.1];omega),List.getElem?_eq_none (by omega)];rfl
 have hz:(s1.heap.push { cls:=.type "dict_values",data:=.fields #[.ref a] }).objs.size=s1.heap.objs.size + 1:=size_push' ..
 refine ⟨.ref _,_,I1.laid (a:=(s1.heap.push { cls:=.type "dict_values",data:=.fields #[.ref a] }).objs.size) (t':=tk) (o:=.lst vs) (fun b ob hb=>hkeep b ob (Heap.get?_push_of_some _ hb)) (by rw [hz];omega) ?_,rfl,q _ (I1.hok.fresh (by rw [hz];omega))⟩
 refine ⟨by have:=rv.length;rw [List.length_map] at this;omega,acc.toList,c,by rw [ha];exact rv,by simpa using hL⟩
theorem zbJ {X:Cx} {K:PySem.W.Frag} {o:Expr} {td:TE} {apos cpos pos p:Pos} (hK:X.K=K) (hc:X.calm=true) (hg:Gl X "list") (hm:X.mg "list" = none) (ho:PE X o td)
  (hbase:attributeBase o "values" X.env (eval o X.env)=eval o X.env:=by rfl) (hline:(apos.endLine == cpos.line)=true:=by rfl)
  (hs:starEach [.Call (.Attribute o "values" apos) [] [] cpos] X.env=[(false,eval (.Call (.Attribute o "values" apos) [] [] cpos) X.env)]:=by rfl) :
  PE X (.Call (.Name "list" p) [.Call (.Attribute o "values" apos) [] [] cpos] [] pos) (tUVals K td):=by subst hK;exact xbU hc hg hm ho hbase hline hs
theorem extT (l:Addr) (items:Array Value) (n:Nat) (b:Addr) (items2:Array Value) (n2:Nat) (sl:Array (Option Value)) (hs0:¬(!items.isEmpty && Builtin.List.listTooLong (items.size + items2.size))=true) (hs1:items.size≤sizeLine) (hs2:items.size + items2.size≤sizeLine + 1) :
  Meets (Builtin.«list.extend» ⟨[.ref l,.ref b],[]⟩) (fun _ R s=>s.heap.get? l=some { cls:=.type "list",dict:=none,data:=.seq items n,slots:=#[] }∧s.heap.get? b=some { cls:=.type "tuple",dict:=none,data:=.seq items2 n2,slots:=sl }∧R (.ok (.ret Value.none)) { s with heap:=s.heap.update l (Obj.mapSeq fun x=>x ++ items2),toks:=s.toks }) :=
 .of_wp fun prog w A R s h=>by
  obtain ⟨hp,g,d,tk,os⟩:=s;obtain ⟨hl,hb,h⟩:=h;have f1:=AutoSeq1.idx_int;have f2:=AutoSeq1.sub_tuple_tuple;have f3:=AutoSeq1.sub_list_list;have f4:=AutoSeq1.sub_tuple_list;have f5:=AutoSeq1.sub_list_tuple;
  have hz':(items ++ items2).size≤sizeLine + 1:=by rw [Array.size_append];exact hs2
  wp_walk using (wpAny_updateSeq hl rfl (hz:=hs1) (_hz':=hz')),AutoSeq1.wpAny_loadPart' hl,AutoSeq1.wpAny_loadPart' hb;exact ⟨_,rfl,h⟩
noncomputable def rExtendT (K:PySem.W.Frag):V→List V→Hp→VK→Prop:=fun x vs H Q=>∃ l b xs zs,x=.ref l∧vs=[.ref b]∧H l=some (.lst xs)∧SqT K H b zs∧xs.length + zs.length≤sizeLine∧Q .non (upd H l (.lst (xs ++ zs)))
theorem yby {X:Cx}:MtM X "list.extend" (rExtendT X.K):=by
 intro pins s σ H x vs v us Q I rx rv h
 obtain ⟨l,b,xs,zs,rfl,rfl,hH,hB,hz,q⟩:=h
 cases rx
 obtain ⟨u,rfl,ru⟩:=rv.one
 cases ru
 obtain ⟨z,its,n,r,hl,e⟩:=I.lstM hH
 obtain ⟨its2,r2,⟨o2,e2,c2,d2,n2,f2⟩,z2⟩:=I.tupleP hB
 have hl2:=r2.length
 have hsz:its.toArray.size + its2.toArray.size≤sizeLine:=by rw [List.size_toArray,List.size_toArray];omega
 have hlong:¬ (!its.toArray.isEmpty && Builtin.List.listTooLong (its.toArray.size + its2.toArray.size))=true:=by
  rw [notLongL hsz,Bool.and_false]
  exact Bool.false_ne_true
 refine call_meets F.slot_list_extend ⟨_,e,rfl⟩ F.entry_list_extend (F.args_list_extend_2 _ _)
  (extT l its.toArray n b its2.toArray n2 o2.slots hlong (by rw [List.size_toArray];omega) (by omega)) ⟨e,?_,?_⟩
 ·obtain ⟨cl,di,da,sl⟩:=o2
  cases c2
  cases d2
  cases f2
  exact e2
 refine ⟨.non,_,I.lset (its':=its ++ its2) hH e (by simp) (r.append r2) ?_,rfl,q⟩
 rw [List.length_append]
 omega
end L2
namespace Mth
noncomputable def upto (n:Nat):List Int:=(List.range n).map fun (k:Nat)=>(k:Int)
theorem xah (n:Nat):(upto n).length=n:=by simp [upto]
theorem yah {n:Nat} {x:Int}:x∈upto n↔0≤x∧x < (n:Int):=by
 simp only [upto,List.mem_map,List.mem_range]
 constructor
 ·rintro ⟨k,hk,rfl⟩;omega
 ·rintro ⟨h1,h2⟩;exact ⟨x.toNat,by omega,by omega⟩
theorem zaK (n:Nat):(upto n).Pairwise (· < ·):=by
 unfold upto
 rw [List.pairwise_map]
 exact (List.pairwise_lt_range).imp fun h=>by omega
theorem YaP (n:Nat):(upto n).Nodup:=(zaK n).imp fun h=>by omega
theorem yaS:∀ {xs ys:List Int},xs.Nodup→(∀ x∈xs,x∈ys)→ys.length≤xs.length→xs.Perm ys
 | [],ys,_,_,h=>by
  have:ys=[]:=List.eq_nil_of_length_eq_zero (by simpa using h)
  subst this;exact List.Perm.refl _
 | x :: xs,ys,hn,hs,hl=>by
  obtain ⟨h1,h2⟩:=List.nodup_cons.mp hn
  have hx:x∈ys:=hs x List.mem_cons_self
  have hp:=List.perm_cons_erase hx
  have hlen:(ys.erase x).length + 1=ys.length:=by have:=hp.length_eq;simpa using this.symm
  refine List.Perm.trans (List.Perm.cons x (yaS (ys:=ys.erase x) h2 (fun y hy=>?_) ?_)) hp.symm
  ·have hne:y≠x:=fun e=>h1 (e ▸ hy)
   exact (List.mem_erase_of_ne hne).mpr (hs y (List.mem_cons_of_mem _ hy))
  ·simp at hl;omega
theorem yaD {xs:List Int} (hn:xs.Nodup) (hb:∀ x∈xs,0≤x∧x < (xs.length:Int)):xs.Perm (upto xs.length):=by
 exact yaS hn (fun x hx=>yah.mpr (hb x hx)) (by rw [xah];exact Nat.le_refl _)
end Mth
namespace Mth
noncomputable def app (xs:List Int) (i:Int):Int:=xs.getD i.toNat 0
noncomputable def itr (xs:List Int) (i:Int):Nat→Int
 | 0=>i
 | j + 1=>app xs (itr xs i j)
noncomputable def Tn (n:Nat) (xs:List Int):Prop:=xs.Perm (upto n)
theorem Tn.length {n:Nat} {xs:List Int} (h:Tn n xs):xs.length=n:=by rw [h.length_eq,xah]
theorem Tn.nodup {n:Nat} {xs:List Int} (h:Tn n xs):xs.Nodup:=h.nodup_iff.mpr (YaP n)
theorem Tn.bound {n:Nat} {xs:List Int} (h:Tn n xs) {x:Int} (hx:x∈xs):0≤x∧x < (n:Int):=yah.mp (h.subset hx)
theorem Yao {xs:List Int} {i:Int} (h0:0≤i) (h1:i < (xs.length:Int)):xs[i.toNat]?=some (app xs i):=by
 have:i.toNat < xs.length:=by omega
 unfold app
 rw [List.getD_eq_getElem?_getD,List.getElem?_eq_getElem this];rfl
theorem Yb7 {xs:List Int} {i:Int} (h0:0≤i) (h1:i < (xs.length:Int)):app xs i∈xs:=List.mem_of_getElem? (Yao h0 h1)
theorem Tn.app {n:Nat} {xs:List Int} (h:Tn n xs) {i:Int} (h0:0≤i) (h1:i < (n:Int)):0≤app xs i∧app xs i < (n:Int):=h.bound (Yb7 h0 (by rw [h.length];exact h1))
theorem Tn.inj {n:Nat} {xs:List Int} (h:Tn n xs) {i j:Int} (i0:0≤i) (i1:i < (n:Int)) (j0:0≤j) (j1:j < (n:Int)) (e:Mth.app xs i=Mth.app xs j):i=j:=by
 have hl:=h.length
 have a:=Yao i0 (by rw [hl];exact i1)
 have b:=Yao j0 (by rw [hl];exact j1)
 rw [e] at a
 obtain ⟨ha,ea⟩:=List.getElem?_eq_some_iff.mp a
 obtain ⟨hb,eb⟩:=List.getElem?_eq_some_iff.mp b
 have:=(List.getElem_inj h.nodup).mp (ea.trans eb.symm)
 omega
theorem Tn.itr {n:Nat} {xs:List Int} (h:Tn n xs) {i:Int} (h0:0≤i) (h1:i < (n:Int)):∀ j,0≤itr xs i j∧itr xs i j < (n:Int)
 | 0=>⟨h0,h1⟩
 | j + 1=>h.app (h.itr h0 h1 j).1 (h.itr h0 h1 j).2
theorem Tn.back {n:Nat} {xs:List Int} (h:Tn n xs) {i:Int} (h0:0≤i) (h1:i < (n:Int)):∀ (a d:Nat),Mth.itr xs i a=Mth.itr xs i (a + d)→Mth.itr xs i d=i
 | 0,d,e=>by rw [Nat.zero_add] at e;exact e.symm
 | a + 1,d,e=>by
  have e':Mth.app xs (Mth.itr xs i a)=Mth.app xs (Mth.itr xs i (a + d)):=by
   have:a + 1 + d=(a + d) + 1:=by omega
   rw [this] at e
   exact e
  exact h.back h0 h1 a d (h.inj (h.itr h0 h1 a).1 (h.itr h0 h1 a).2 (h.itr h0 h1 _).1 (h.itr h0 h1 _).2 e')
theorem xaV:∀ {xs ys:List Int},xs.Nodup→(∀ x∈xs,x∈ys)→xs.length≤ys.length
 | [],_,_,_=>Nat.zero_le _
 | x :: xs,ys,hn,hs=>by
  obtain ⟨h1,h2⟩:=List.nodup_cons.mp hn
  have hx:x∈ys:=hs x List.mem_cons_self
  have hp:=List.perm_cons_erase hx
  have hlen:(ys.erase x).length + 1=ys.length:=by have:=hp.length_eq;simpa using this.symm
  have:=xaV (ys:=ys.erase x) h2 fun y hy=>(List.mem_erase_of_ne (a:=y) (b:=x) (fun e=>h1 (by rw [← e];exact hy))).mpr (hs y (List.mem_cons_of_mem _ hy))
  simp only [List.length_cons]
  omega
noncomputable def row (xs:List Int) (i:Int) (m:Nat):List Int:=(List.range (m + 1)).map (itr xs i)
theorem xa8 (xs:List Int) (i:Int) (m:Nat):row xs i (m + 1)=row xs i m ++ [itr xs i (m + 1)]:=by
 unfold row;rw [List.range_succ,List.map_append];rfl
theorem Yas (xs:List Int) (i:Int) (m:Nat):(row xs i m).length=m + 1:=by simp [row]
theorem Yaw {xs:List Int} {i:Int} {m:Nat} {x:Int}:x∈row xs i m↔∃ j,j≤m∧itr xs i j=x:=by
 unfold row
 rw [List.mem_map]
 constructor
 ·rintro ⟨j,hj,e⟩;exact ⟨j,by have:=List.mem_range.mp hj;omega,e⟩
 ·rintro ⟨j,hj,e⟩;exact ⟨j,List.mem_range.mpr (by omega),e⟩
noncomputable def NB (xs:List Int) (i:Int) (m:Nat):Prop:=∀ j,1≤j→j≤m→itr xs i j≠i
theorem Tn.row_le {n:Nat} {xs:List Int} (h:Tn n xs) {i:Int} (h0:0≤i) (h1:i < (n:Int)) {m:Nat} (nb:NB xs i m):m + 1≤n:=by
 have hn:(row xs i m).Nodup:=by
  unfold row List.Nodup
  rw [List.pairwise_map]
  refine List.Pairwise.imp_of_mem (R:=fun a b=>a < b) ?_ List.pairwise_lt_range
  intro a b ha hb hab e
  have ha':=List.mem_range.mp ha
  have hb':=List.mem_range.mp hb
  obtain ⟨d,rfl⟩:∃ d,b=a + d:=⟨b - a,by omega⟩
  exact nb d (by omega) (by omega) (h.back h0 h1 a d e)
 have:=xaV hn (ys:=upto n) fun x hx=>by
  obtain ⟨j,_,rfl⟩:=Yaw.mp hx
  exact yah.mpr (h.itr h0 h1 j)
 rw [Yas,xah] at this
 exact this
structure IsRing (xs:List Int) (i:Int) (r:List Int):Prop where
 ex:∃ m,r=row xs i m∧NB xs i m∧itr xs i (m + 1)=i
theorem IsRing.unique {xs:List Int} {i:Int} {r r':List Int} (a:IsRing xs i r) (b:IsRing xs i r'):r=r':=by
 obtain ⟨m,e1,n1,b1⟩:=a.ex
 obtain ⟨m',e2,n2,b2⟩:=b.ex
 have:m=m':=by
  rcases Nat.lt_trichotomy m m' with h | h | h
  ·exact absurd b1 (n2 (m + 1) (by omega) (by omega))
  ·exact h
  ·exact absurd b2 (n1 (m' + 1) (by omega) (by omega))
 rw [e1,e2,this]
theorem IsRing.mem {xs:List Int} {i:Int} {r:List Int} (a:IsRing xs i r):i∈r:=by
 obtain ⟨m,e1,_,_⟩:=a.ex
 rw [e1];exact Yaw.mpr ⟨0,Nat.zero_le _,rfl⟩
theorem IsRing.len {n:Nat} {xs:List Int} (h:Tn n xs) {i:Int} (h0:0≤i) (h1:i < (n:Int)) {r:List Int} (a:IsRing xs i r):r.length≤n:=by
 obtain ⟨m,e1,nb,_⟩:=a.ex
 rw [e1,Yas];exact h.row_le h0 h1 nb
theorem IsRing.bound {n:Nat} {xs:List Int} (h:Tn n xs) {i:Int} (h0:0≤i) (h1:i < (n:Int)) {r:List Int} (a:IsRing xs i r):∀ x∈r,0≤x∧x < (n:Int):=by
 obtain ⟨m,e1,nb,_⟩:=a.ex
 subst e1
 intro x hx
 obtain ⟨j,_,rfl⟩:=Yaw.mp hx
 exact h.itr h0 h1 j
noncomputable def out (left r:List Int):List Int:=left.filter fun k=>!r.contains k
inductive Rgs (xs:List Int):List Int→List (List Int)→Prop
 | nil:Rgs xs [] []
 | cons {i:Int} {left r:List Int} {rs:List (List Int)}:IsRing xs i r→Rgs xs (out (i :: left) r) rs→Rgs xs (i :: left) (r :: rs)
theorem Rgs.unique {xs:List Int}:∀ {left:List Int} {rs rs':List (List Int)},Rgs xs left rs→Rgs xs left rs'→rs=rs':=by
 intro left rs rs' a
 induction a generalizing rs' with
 | nil=>intro b;cases b;rfl
 | cons h1 _ ih =>
  intro b
  cases b with
  | cons h2 t2 =>
   cases h1.unique h2
   rw [ih t2]
noncomputable def from' (n k:Nat) (seen:Int→Bool):List Int:=(((List.range n).drop k).map fun (j:Nat)=>(j:Int)).filter fun x=>!seen x
theorem Zbr (n:Nat) (seen:Int→Bool):from' n n seen=[]:=by
 unfold from';rw [List.drop_of_length_le (by simp)];rfl
theorem Ybg {n k:Nat} (h:k < n) (seen:Int→Bool):from' n k seen=if seen (k:Int) then from' n (k + 1) seen else (k:Int) :: from' n (k + 1) seen:=by
 unfold from'
 rw [List.drop_eq_getElem_cons (by simpa using h),List.map_cons,List.filter_cons]
 simp only [List.getElem_range]
 cases hs:seen (k:Int) <;> simp
theorem Ybr {n k:Nat} {seen:Int→Bool} {r:List Int}:out (from' n k seen) r=from' n k (fun x=>seen x || r.contains x):=by
 unfold out from'
 rw [List.filter_filter]
 congr 1
 funext x
 show (!r.contains x && !seen x)=!(seen x || r.contains x)
 cases seen x <;> cases r.contains x <;> rfl
theorem xbg (n:Nat):from' n 0 (fun _=>false)=upto n:=by
 unfold from' upto
 rw [List.drop_zero]
 simp
noncomputable def form1 (n:Nat):List Int:=((List.range (n - 1)).map fun (k:Nat)=>(1:Int) + k) ++ [0]
theorem XbU:∀ n,n < 21→0 < n→(form1 n).isPerm (upto n)=true:=by decide
theorem xbr {n:Nat} (h:n < 21) (h0:0 < n):Tn n (form1 n):=List.isPerm_iff.mp (XbU n h h0)
end Mth
namespace Mth
theorem Xa8 {n:Nat} {xs:List Int} (h:xs.length=n):(upto n).map (app xs)=xs:=by
 apply List.ext_getElem
 ·rw [List.length_map,xah,h]
 ·intro i h1 h2
  have e:=Yao (xs:=xs) (i:=(i:Int)) (by omega) (by omega)
  simp only [Int.toNat_natCast] at e
  rw [List.getElem?_eq_getElem h2] at e
  rw [List.getElem_map]
  unfold upto
  simp only [List.getElem_map,List.getElem_range]
  exact (Option.some.inj e).symm
noncomputable def inv (xs:List Int):List Int:=(upto xs.length).map fun i=>(xs.idxOf i:Int)
theorem XaC (xs:List Int):(inv xs).length=xs.length:=by unfold inv;rw [List.length_map,xah]
theorem za9 {n i:Nat} (h:i < n):(upto n)[i]?=some (i:Int):=by
 unfold upto;rw [List.getElem?_map,List.getElem?_range h];rfl
theorem ya0 {xs:List Int} {i:Int} (h0:0≤i) (h1:i < (xs.length:Int)):app (inv xs) i=(xs.idxOf i:Int):=by
 have e:=Yao (xs:=inv xs) h0 (by rw [XaC];exact h1)
 unfold inv at e
 rw [List.getElem?_map,za9 (by omega)] at e
 have:=Option.some.inj e
 rw [← inv] at this
 rw [← this,Int.toNat_of_nonneg h0]
theorem Tn.mem {n:Nat} {xs:List Int} (h:Tn n xs) {i:Int} (h0:0≤i) (h1:i < (n:Int)):i∈xs:=h.symm.subset (yah.mpr ⟨h0,h1⟩)
theorem Tn.idx {n:Nat} {xs:List Int} (h:Tn n xs) {i:Int} (h0:0≤i) (h1:i < (n:Int)):xs.idxOf i < n:=by rw [← h.length];exact List.idxOf_lt_length_of_mem (h.mem h0 h1)
theorem Tn.app_inv {n:Nat} {xs:List Int} (h:Tn n xs) {i:Int} (h0:0≤i) (h1:i < (n:Int)):Mth.app xs (Mth.app (inv xs) i)=i:=by
 rw [ya0 h0 (by rw [h.length];exact h1)]
 have hl:=h.idx h0 h1
 have e:=Yao (xs:=xs) (i:=(xs.idxOf i:Int)) (by omega) (by rw [h.length];omega)
 rw [Int.toNat_natCast,List.getElem?_eq_getElem (by rw [h.length];exact hl)] at e
 rw [← Option.some.inj e]
 exact List.getElem_idxOf _
theorem Tn.invB {n:Nat} {xs:List Int} (h:Tn n xs) {i:Int} (h0:0≤i) (h1:i < (n:Int)):0≤Mth.app (inv xs) i∧Mth.app (inv xs) i < (n:Int):=by
 rw [ya0 h0 (by rw [h.length];exact h1)]
 have:=h.idx h0 h1
 omega
theorem Tn.inv_app' {n:Nat} {xs:List Int} (h:Tn n xs) {i:Int} (h0:0≤i) (h1:i < (n:Int)):Mth.app (inv xs) (Mth.app xs i)=i:=by
 obtain ⟨a0,a1⟩:=h.app h0 h1
 obtain ⟨b0,b1⟩:=h.invB a0 a1
 exact h.inj b0 b1 h0 h1 (h.app_inv a0 a1)
theorem Tn.inv_tn {n:Nat} {xs:List Int} (h:Tn n xs):Tn n (inv xs):=by
 have hl:=h.length
 unfold Tn
 have e:(inv xs).length=n:=by rw [XaC,hl]
 have:=yaD (xs:=inv xs) ?_ ?_
 ·rw [e] at this;exact this
 ·unfold List.Nodup
  rw [List.pairwise_iff_getElem]
  intro i j hi hj hij z
  have a:=Yao (xs:=inv xs) (i:=(i:Int)) (by omega) (by omega)
  have b:=Yao (xs:=inv xs) (i:=(j:Int)) (by omega) (by omega)
  rw [Int.toNat_natCast,List.getElem?_eq_getElem hi] at a
  rw [Int.toNat_natCast,List.getElem?_eq_getElem hj] at b
  have a:=Option.some.inj a
  have b:=Option.some.inj b
  have c:=h.app_inv (i:=(i:Int)) (by omega) (by omega)
  have d:=h.app_inv (i:=(j:Int)) (by omega) (by omega)
  rw [← a] at c
  rw [← b,← z] at d
  have:=c.symm.trans d
  omega
 ·intro x hx
  unfold inv at hx
  obtain ⟨i,hi,rfl⟩:=List.mem_map.mp hx
  have:=yah.mp hi
  rw [hl] at this
  have:=h.idx this.1 this.2
  rw [e];omega
theorem YaN (xs:List Int) (i:Int) (j:Nat):∀ d,itr xs (itr xs i j) d=itr xs i (j + d)
 | 0=>rfl
 | d + 1=>by show app xs (itr xs (itr xs i j) d)=app xs (itr xs i (j + d));rw [YaN xs i j d]
theorem ybJ {xs:List Int} {i:Int} {L:Nat} (h:itr xs i L=i) (a:Nat):itr xs i (a + L)=itr xs i a:=by
 rw [Nat.add_comm,← YaN xs i L a,h]
theorem ya9 {xs:List Int} {i:Int} {L:Nat} (h:itr xs i L=i):∀ (q r:Nat),itr xs i (r + L * q)=itr xs i r
 | 0,r=>rfl
 | q + 1,r=>by rw [Nat.mul_succ,← Nat.add_assoc,ybJ h];exact ya9 h q r
theorem zbV {xs:List Int} {i:Int} {L:Nat} (h:itr xs i L=i) (a:Nat):itr xs i (a % L)=itr xs i a:=by
 have:=ya9 h (a / L) (a % L)
 rw [Nat.mod_add_div] at this
 exact this.symm
theorem Rgs.all {xs:List Int}:∀ {left:List Int} {rs:List (List Int)},Rgs xs left rs→(∀ r∈rs,∃ i∈left,IsRing xs i r)∧∀ x∈left,∃ r∈rs,x∈r:=by
 intro left rs a
 induction a with
 | nil=>exact ⟨fun r hr=>(nomatch hr),fun x hx=>(nomatch hx)⟩
 | cons h1 _ ih =>
  refine ⟨fun r hr=>?_,fun x hx=>?_⟩
  ·rcases List.mem_cons.mp hr with rfl | hr
   ·exact ⟨_,List.mem_cons_self,h1⟩
   ·obtain ⟨i,hi,r'⟩:=ih.1 r hr
    exact ⟨i,(List.mem_filter.mp hi).1,r'⟩
  ·rename_i i left r rs _
   by_cases hc:x∈r
   ·exact ⟨r,List.mem_cons_self,hc⟩
   ·obtain ⟨r',hr',hx'⟩:=ih.2 x (List.mem_filter.mpr ⟨hx,by simp [hc]⟩)
    exact ⟨r',List.mem_cons_of_mem _ hr',hx'⟩
end Mth
namespace Mth
inductive Rch (xs ys:List Int):Int→Prop
 | zero:Rch xs ys 0
 | r {x:Int}:Rch xs ys x→Rch xs ys (app xs x)
 | u {x:Int}:Rch xs ys x→Rch xs ys (app ys x)
theorem Rch.bound {n:Nat} {xs ys:List Int} (hx:Tn n xs) (hy:Tn n ys) (h0:0 < n) {x:Int} (h:Rch xs ys x):0≤x∧x < (n:Int):=by
 induction h with
 | zero=>omega
 | r _ ih=>exact hx.app ih.1 ih.2
 | u _ ih=>exact hy.app ih.1 ih.2
theorem Rch.itr {xs ys:List Int} {x:Int} (h:Rch xs ys x):∀ k,Rch xs ys (Mth.itr xs x k)
 | 0=>h
 | k + 1=>.r (h.itr k)
noncomputable def swp (xs:List Int) (m:Nat):List Int:=(xs.set 0 (app xs m)).set m (app xs 0)
theorem Zby (xs:List Int) (m:Nat):(swp xs m).length=xs.length:=by simp [swp]
theorem ZbJ {xs:List Int} {m:Nat} {v x:Int} (hm:m < xs.length) (h0:0≤x):app (xs.set m v) x=if x=(m:Int) then v else app xs x:=by
 unfold app
 rw [List.getD_eq_getElem?_getD,List.getD_eq_getElem?_getD]
 by_cases hx:x=(m:Int)
 ·rw [if_pos hx,hx,Int.toNat_natCast,List.getElem?_set_self hm];rfl
 ·rw [if_neg hx,List.getElem?_set_ne (by omega)]
theorem XaV {xs:List Int} {m:Nat} (hm:m < xs.length) {x:Int} (h0:0≤x):app (swp xs m) x=if x=(m:Int) then app xs 0 else if x=0 then app xs m else app xs x:=by
 unfold swp
 rw [ZbJ (by simpa using hm) h0,ZbJ (by omega) h0]
 rfl
theorem swp_tn {n:Nat} {xs:List Int} (h:Tn n xs) {m:Nat} (hm:m < n):Tn n (swp xs m):=by
 have hl:=h.length
 have e:(swp xs m).length=n:=by rw [Zby,hl]
 have:=yaD (xs:=swp xs m) ?_ ?_
 ·unfold Tn;rw [e] at this;exact this
 ·unfold List.Nodup
  rw [List.pairwise_iff_getElem]
  intro i j hi hj hij z
  have a:=Yao (xs:=swp xs m) (i:=(i:Int)) (by omega) (by omega)
  have b:=Yao (xs:=swp xs m) (i:=(j:Int)) (by omega) (by omega)
  rw [Int.toNat_natCast,List.getElem?_eq_getElem hi] at a
  rw [Int.toNat_natCast,List.getElem?_eq_getElem hj] at b
  have a:=Option.some.inj a
  have b:=Option.some.inj b
  rw [XaV (by omega) (by omega)] at a b
  rw [a,b] at z
  have inj:∀ p q:Int,0≤p→p < (n:Int)→0≤q→q < (n:Int)→app xs p=app xs q→p=q:=fun p q p0 p1 q0 q1=>h.inj p0 p1 q0 q1
  split at z <;> split at z <;> (try split at z) <;> (try split at z) <;> (first | omega | (have:=inj _ _ (by omega) (by omega) (by omega) (by omega) z;omega))
 ·intro x hx
  obtain ⟨i,hi,rfl⟩:=List.getElem_of_mem hx
  have a:=Yao (xs:=swp xs m) (i:=(i:Int)) (by omega) (by omega)
  rw [Int.toNat_natCast,List.getElem?_eq_getElem hi] at a
  rw [Option.some.inj a,XaV (by omega) (by omega),e]
  split
  ·exact h.app (by omega) (by omega)
  ·split
   ·exact h.app (by omega) (by omega)
   ·exact h.app (by omega) (by omega)
theorem Tn.back_ex {n:Nat} {xs:List Int} (h:Tn n xs) {i:Int} (h0:0≤i) (h1:i < (n:Int)):∃ m,NB xs i m∧Mth.itr xs i (m + 1)=i:=by
 by_cases hb:∃ m,m < n∧Mth.itr xs i (m + 1)=i
 ·-- the least
  have key:∀ b:Nat,(∃ m,m < b∧Mth.itr xs i (m + 1)=i)→∃ m,NB xs i m∧Mth.itr xs i (m + 1)=i:=by
   intro b
   induction b with
   | zero=>rintro ⟨m,hm,_⟩;omega
   | succ b ih =>
    rintro ⟨m,hm,e⟩
    by_cases hc:∃ m,m < b∧Mth.itr xs i (m + 1)=i
    ·exact ih hc
    ·refine ⟨m,fun j j1 j2 z=>hc ⟨j - 1,by omega,?_⟩,e⟩
     have:j - 1 + 1=j:=by omega
     rw [this];exact z
  exact key n hb
 ·have nb:NB xs i n:=fun j j1 j2 z=>by
   refine hb ⟨j - 1,by omega,?_⟩
   have:j - 1 + 1=j:=by omega
   rw [this];exact z
  have:=h.row_le h0 h1 nb
  omega
theorem xb7 {n:Nat} {xs ys:List Int} (hx:Tn n xs) (hy:Tn n ys) {m:Nat} (hm:m < n) (nm:¬ Rch xs ys (m:Int)):Rch (swp xs m) ys (m:Int)∧∀ x,Rch xs ys x→Rch (swp xs m) ys x:=by
 have hl:=hx.length
 have m0:m≠0:=fun z=>nm (by rw [z];exact .zero)
 obtain ⟨M,nb,bk⟩:=hx.back_ex (i:=(m:Int)) (by omega) (by omega)
 have no0:∀ j,Mth.itr xs (m:Int) j≠0:=by
  intro j z
  have h':Rch xs ys (Mth.itr xs (Mth.itr xs (m:Int) j) ((M + 1) * j)):=by rw [z];exact Rch.zero.itr _
  rw [YaN] at h'
  have e2:Mth.itr xs (m:Int) ((M + 1) * (j + 1))=(m:Int):=by
   have:=ya9 bk (j + 1) 0
   rw [Nat.zero_add] at this
   exact this
  have h3:=h'.itr ((M + 1) * (j + 1) - (j + (M + 1) * j))
  rw [YaN] at h3
  have e3:j + (M + 1) * j + ((M + 1) * (j + 1) - (j + (M + 1) * j))=if j + (M + 1) * j≤(M + 1) * (j + 1) then (M + 1) * (j + 1) else j + (M + 1) * j:=by split <;> omega
  rw [e3] at h3
  by_cases hc:j + (M + 1) * j≤(M + 1) * (j + 1)
  ·rw [if_pos hc,e2] at h3
   exact nm h3
  ·-- round as often as needed
   have h4:=h'.itr ((M + 1) * (2 * j + 2) - (j + (M + 1) * j))
   rw [YaN] at h4
   have hbig:j + (M + 1) * j≤(M + 1) * (2 * j + 2):=by
    have a1:(M + 1) * (2 * j + 2)=(M + 1) * j + ((M + 1) * j + (M + 1) * 2):=by rw [← Nat.mul_add,← Nat.mul_add];congr 1;omega
    have a2:j≤(M + 1) * j:=Nat.le_mul_of_pos_left j (by omega)
    omega
   have e5:j + (M + 1) * j + ((M + 1) * (2 * j + 2) - (j + (M + 1) * j))=(M + 1) * (2 * j + 2):=by omega
   rw [e5] at h4
   have:=ya9 bk (2 * j + 2) 0
   rw [Nat.zero_add] at this
   rw [this] at h4
   exact nm h4
 have ring:∀ j,j≤M→Rch (swp xs m) ys (Mth.itr xs (m:Int) (j + 1)):=by
  intro j
  induction j with
  | zero =>
   intro _
   have h1:Rch (swp xs m) ys (Mth.app (swp xs m) 0):=.r .zero
   rw [XaV (by omega) (by omega),if_neg (by omega),if_pos rfl] at h1
   exact h1
  | succ j ih =>
   intro hj
   have h1:=(ih (by omega)).r
   have b:=hx.itr (i:=(m:Int)) (by omega) (by omega) (j + 1)
   rw [XaV (by omega) b.1,if_neg (nb (j + 1) (by omega) (by omega)),if_neg (no0 (j + 1))] at h1
   exact h1
 have hmm:Rch (swp xs m) ys (m:Int):=by have:=ring M (Nat.le_refl _);rwa [bk] at this
 refine ⟨hmm,fun x h=>?_⟩
 have hpos:0 < n:=by omega
 induction h with
 | zero=>exact .zero
 | r hx' ih =>
  rename_i x
  have b:=hx'.bound hx hy hpos
  by_cases h0:x=0
  ·have h1:=hmm.r
   rw [XaV (by omega) (by omega),if_pos rfl] at h1
   rw [h0];exact h1
  ·have hxm:x≠(m:Int):=fun z=>nm (by rw [← z];exact hx')
   have h1:=ih.r
   rw [XaV (by omega) b.1,if_neg hxm,if_neg h0] at h1
   exact h1
 | u _ ih=>exact ih.u
noncomputable def Cl (xs ys F:List Int):Prop:=∀ x∈F,app xs x∈F∧app ys x∈F
theorem Cl.all {xs ys F:List Int} (h:Cl xs ys F) (h0:(0:Int)∈F) {x:Int} (r:Rch xs ys x):x∈F:=by
 induction r with
 | zero=>exact h0
 | r _ ih=>exact (h _ ih).1
 | u _ ih=>exact (h _ ih).2
structure Fd (xs ys:List Int) (F:List Int):Prop where
 z:(0:Int)∈F
 nd:F.Nodup
 mt:∀ x∈F,Rch xs ys x
theorem Fd.len {n:Nat} {xs ys F:List Int} (h:Fd xs ys F) (hx:Tn n xs) (hy:Tn n ys) (h0:0 < n):F.length≤n:=by
 have:=xaV h.nd (ys:=upto n) fun x hx'=>yah.mpr ((h.mt x hx').bound hx hy h0)
 rw [xah] at this
 exact this
theorem Fd.one (xs ys:List Int):Fd xs ys [0]:=⟨by simp,by simp,fun x hx=>(show x=0 by simpa using hx) ▸ .zero⟩
theorem round {xs ys F F1 F2:List Int} (d:Fd xs ys F) (d2:Fd xs ys F2) (p1:F <+: F1) (p2:F1 <+: F2) (c1:∀ x∈F,app xs x∈F1) (c2:∀ x∈F1,app ys x∈F2) {t:Nat} (h:Cl xs ys F∨t + 1≤F.length):Cl xs ys F2∨t + 1 + 1≤F2.length:=by
 have p:=p1.trans p2
 by_cases hc:Cl xs ys F
 ·refine .inl fun x hx=>?_
  have hF:=hc.all d.z (d2.mt x hx)
  exact ⟨p.subset (hc x hF).1,p.subset (hc x hF).2⟩
 ·have hl:=h.resolve_left hc
  by_cases he:F2.length≤F.length
  ·refine absurd ?_ hc
   have e2:F2=F:=(p.eq_of_length (by have:=p.length_le;omega)).symm
   have e1:F1=F:=by
    have a:=p1.length_le
    have b:=p2.length_le
    exact (p1.eq_of_length (by omega)).symm
   intro x hx
   refine ⟨?_,?_⟩
   ·have:=c1 x hx;rwa [e1] at this
   ·have:=c2 x (by rw [e1];exact hx);rwa [e2] at this
  ·exact .inr (by omega)
noncomputable def rowR (w n:Nat):List Int:=((List.range (w - 1)).map fun (k:Nat)=>(1:Int) + k) ++ [0] ++ ((List.range (n - w)).map fun (k:Nat)=>(w:Int) + k)
noncomputable def colU (w n:Nat):List Int:=[(w:Int)] ++ ((List.range (w - 1)).map fun (k:Nat)=>(1:Int) + k) ++ ((List.range (n - (w + 1))).map fun (k:Nat)=>((w:Int) + 1) + k) ++ [0]
theorem Xb7:∀ n,n < 21→∀ w,w < n + 1→0 < w→(rowR w n).isPerm (upto n)=true:=by decide +kernel
theorem zb8:∀ n,n < 21→∀ w,w < n→0 < w→(colU w n).isPerm (upto n)=true:=by decide +kernel
theorem yb8 {w n:Nat} (h:n < 21) (h1:w≤n) (h0:0 < w):Tn n (rowR w n):=List.isPerm_iff.mp (Xb7 n h w (by omega) h0)
theorem Zb8 {w n:Nat} (h:n < 21) (h1:w < n) (h0:0 < w):Tn n (colU w n):=List.isPerm_iff.mp (zb8 n h w h1 h0)
theorem less {L L':List Int} {m:Int} (nd:L'.Nodup) (hs:∀ x∈L',x∈L) (hm:m∈L) (hm':m ∉ L'):L'.length < L.length:=by
 have hp:=List.perm_cons_erase hm
 have hlen:(L.erase m).length + 1=L.length:=by have:=hp.length_eq;simpa using this.symm
 have:=xaV (ys:=L.erase m) nd fun x hx=>(List.mem_erase_of_ne (fun e=>hm' (by rw [← e];exact hx))).mpr (hs x hx)
 omega
end Mth
namespace Mth
noncomputable def fol (xs ys:List Int):List Int:=xs.map (app ys)
theorem xaw (xs ys:List Int):(fol xs ys).length=xs.length:=by simp [fol]
theorem ybn {n:Nat} {xs ys:List Int} (hx:xs.length=n) (hy:ys.length=n) (h:∀ s:Int,0≤s→s < (n:Int)→app xs s=app ys s):xs=ys:=by
 rw [← Xa8 hx,← Xa8 hy]
 apply List.map_congr_left
 intro s hs
 obtain ⟨h0,h1⟩:=yah.mp hs
 exact h s h0 h1
theorem zau {xs ys:List Int} {s:Int} (h0:0≤s) (h1:s < (xs.length:Int)):app (fol xs ys) s=app ys (app xs s):=by
 have e:=Yao (xs:=fol xs ys) h0 (by rw [xaw];exact h1)
 unfold fol at e
 rw [List.getElem?_map,Yao h0 h1] at e
 exact (Option.some.inj e).symm
theorem Tn.of_inj {n:Nat} {xs:List Int} (hl:xs.length=n) (hb:∀ s:Int,0≤s→s < (n:Int)→0≤Mth.app xs s∧Mth.app xs s < (n:Int)) (hi:∀ s t:Int,0≤s→s < (n:Int)→0≤t→t < (n:Int)→Mth.app xs s=Mth.app xs t→s=t):Tn n xs:=by
 have el:∀ (i:Nat) (h:i < xs.length),xs[i]=Mth.app xs (i:Int):=fun i h=>by
  have a:=Yao (xs:=xs) (i:=(i:Int)) (by omega) (by omega)
  rw [Int.toNat_natCast,List.getElem?_eq_getElem h] at a
  exact Option.some.inj a
 have:=yaD (xs:=xs) ?_ ?_
 ·unfold Tn;rw [hl] at this;exact this
 ·unfold List.Nodup
  rw [List.pairwise_iff_getElem]
  intro i j h1 h2 hij z
  rw [el i h1,el j h2] at z
  have:=hi i j (by omega) (by omega) (by omega) (by omega) z
  omega
 ·intro x hx
  obtain ⟨i,h,rfl⟩:=List.getElem_of_mem hx
  rw [el i h,hl]
  exact hb i (by omega) (by omega)
theorem Tn.fol {n:Nat} {xs ys:List Int} (hx:Tn n xs) (hy:Tn n ys):Tn n (fol xs ys):=by
 have hl:=hx.length
 refine Tn.of_inj (by rw [xaw];exact hl) (fun s h0 h1=>?_) fun s t s0 s1 t0 t1 e=>?_
 ·rw [zau h0 (by omega)]
  obtain ⟨a,b⟩:=hx.app h0 h1
  exact hy.app a b
 ·rw [zau s0 (by omega),zau t0 (by omega)] at e
  obtain ⟨a,b⟩:=hx.app s0 s1
  obtain ⟨c,d⟩:=hx.app t0 t1
  exact hx.inj s0 s1 t0 t1 (hy.inj a b c d e)
noncomputable def anew (xs p:List Int):List Int:=fol (fol (inv p) xs) p
theorem Tn.anew {n:Nat} {xs p:List Int} (hx:Tn n xs) (hp:Tn n p):Tn n (anew xs p):=(hp.inv_tn.fol hx).fol hp
theorem Tn.anew_app {n:Nat} {xs p:List Int} (hx:Tn n xs) (hp:Tn n p) {s:Int} (h0:0≤s) (h1:s < (n:Int)):Mth.app (Mth.anew xs p) s=Mth.app p (Mth.app xs (Mth.app (inv p) s)):=by
 have hl:=hp.inv_tn.length
 unfold Mth.anew
 rw [zau h0 (by rw [xaw,hl];exact h1),zau h0 (by rw [hl];exact h1)]
theorem Tn.anew_at {n:Nat} {xs p:List Int} (hx:Tn n xs) (hp:Tn n p) {s:Int} (h0:0≤s) (h1:s < (n:Int)):Mth.app (Mth.anew xs p) (Mth.app p s)=Mth.app p (Mth.app xs s):=by
 obtain ⟨a,b⟩:=hp.app h0 h1
 rw [hx.anew_app hp a b,hp.inv_app' h0 h1]
end Mth
namespace Mth
noncomputable def addIf (F:List Int) (x:Int):List Int:=if x∈F then F else F ++ [x]
theorem Xbg (F:List Int) (x:Int):F <+: addIf F x:=by
 unfold addIf;split
 ·exact List.prefix_refl _
 ·exact List.prefix_append _ _
theorem Zak {F:List Int} {x y:Int}:y∈addIf F x↔y∈F∨y=x:=by
 unfold addIf;split
 ·next h=>exact ⟨.inl,fun z=>z.elim id fun e=>e ▸ h⟩
 ·rw [List.mem_append,List.mem_singleton]
theorem Za0 {F:List Int} {x:Int} (h:F.Nodup):(addIf F x).Nodup:=by
 unfold addIf;split
 ·exact h
 ·next hx =>
  rw [List.nodup_append]
  exact ⟨h,by simp,fun a ha b hb e=>hx (by rw [List.mem_singleton] at hb;rw [← hb,← e];exact ha)⟩
noncomputable def visit (xs ys F:List Int) (x:Int):List Int:=addIf (addIf F (app xs x)) (app ys x)
noncomputable def bf (xs ys:List Int) (s:Int):Nat→List Int
 | 0=>[s]
 | k + 1=>match (bf xs ys s k)[k]? with
  | some x=>visit xs ys (bf xs ys s k) x
  | none=>bf xs ys s k
theorem Yb8 (xs ys:List Int) (s:Int) (k:Nat):bf xs ys s k <+: bf xs ys s (k + 1):=by
 show _ <+: (match (bf xs ys s k)[k]? with | some x=>visit xs ys (bf xs ys s k) x | none=>bf xs ys s k)
 split
 ·exact (Xbg _ _).trans (Xbg _ _)
 ·exact List.prefix_refl _
theorem Xa5 (xs ys:List Int) (s:Int) (k:Nat):∀ d,bf xs ys s k <+: bf xs ys s (k + d)
 | 0=>List.prefix_refl _
 | d + 1=>(Xa5 xs ys s k d).trans (Yb8 xs ys s (k + d))
theorem xaP (xs ys:List Int) (s:Int):∀ k,(bf xs ys s k).Nodup
 | 0=>by show [s].Nodup;simp
 | k + 1=>by
  show (match (bf xs ys s k)[k]? with | some x=>visit xs ys (bf xs ys s k) x | none=>bf xs ys s k).Nodup
  split
  ·exact Za0 (Za0 (xaP xs ys s k))
  ·exact xaP xs ys s k
theorem YbJ {xs ys:List Int} {s:Int} {k:Nat} (h:(bf xs ys s k).length≤k):∀ d,bf xs ys s (k + d)=bf xs ys s k
 | 0=>rfl
 | d + 1=>by
  have e:=YbJ h d
  show (match (bf xs ys s (k + d))[k + d]? with | some x=>visit xs ys (bf xs ys s (k + d)) x | none=>bf xs ys s (k + d))=_
  rw [e,List.getElem?_eq_none (by omega)]
section
variable {n:Nat} {xs ys:List Int} {s:Int}
theorem ZaB (hx:Tn n xs) (hy:Tn n ys) (s0:0≤s) (s1:s < (n:Int)):∀ k,∀ x∈bf xs ys s k,0≤x∧x < (n:Int)
 | 0,x,h=>by rw [List.mem_singleton.mp (show x∈[s] from h)];exact ⟨s0,s1⟩
 | k + 1,x,h=>by
  have ih:=ZaB hx hy s0 s1 k
  have h':x∈(match (bf xs ys s k)[k]? with | some y=>visit xs ys (bf xs ys s k) y | none=>bf xs ys s k):=h
  split at h'
  ·next y hy' =>
   obtain ⟨y0,y1⟩:=ih y (List.mem_of_getElem? hy')
   rcases Zak.mp h' with h' | rfl
   ·rcases Zak.mp h' with h' | rfl
    ·exact ih x h'
    ·exact hx.app y0 y1
   ·exact hy.app y0 y1
  ·exact ih x h'
theorem bf_len (hx:Tn n xs) (hy:Tn n ys) (s0:0≤s) (s1:s < (n:Int)) (k:Nat):(bf xs ys s k).length≤n:=by
 have:=xaV (xaP xs ys s k) (ys:=upto n) fun x h=>yah.mpr (ZaB hx hy s0 s1 k x h)
 rw [xah] at this
 exact this
theorem bf_at {k i:Nat} (hik:i≤k) {x:Int} (h:(bf xs ys s k)[i]?=some x):(bf xs ys s i)[i]?=some x:=by
 obtain ⟨d,rfl⟩:∃ d,k=i + d:=⟨k - i,by omega⟩
 by_cases hl:(bf xs ys s i).length≤i
 ·rw [YbJ hl d] at h
  exact h
 ·obtain ⟨t,e⟩:=Xa5 xs ys s i d
  rw [← e,List.getElem?_append_left (by omega)] at h
  exact h
theorem xb8 (hx:Tn n xs) (hy:Tn n ys) (s0:0≤s) (s1:s < (n:Int)):Cl xs ys (bf xs ys s n):=by
 intro x hm
 obtain ⟨i,hi,e⟩:=List.getElem_of_mem hm
 have hl:=bf_len hx hy s0 s1 n
 have hi':(bf xs ys s i)[i]?=some x:=bf_at (k:=n) (by omega) (by rw [List.getElem?_eq_getElem hi,e])
 have hs:visit xs ys (bf xs ys s i) x <+: bf xs ys s n:=by
  have:=Xa5 xs ys s (i + 1) (n - (i + 1))
  rw [show i + 1 + (n - (i + 1))=n by omega] at this
  have e2:bf xs ys s (i + 1)=visit xs ys (bf xs ys s i) x:=by
   show (match (bf xs ys s i)[i]? with | some x=>visit xs ys (bf xs ys s i) x | none=>bf xs ys s i)=_
   rw [hi']
  rw [← e2];exact this
 refine ⟨hs.subset ?_,hs.subset ?_⟩
 ·exact Zak.mpr (.inl (Zak.mpr (.inr rfl)))
 ·exact Zak.mpr (.inr rfl)
theorem ZaS {zs F:List Int} (hz:Tn n zs) (nd:F.Nodup) (hb:∀ x∈F,0≤x∧x < (n:Int)) (hc:∀ x∈F,app zs x∈F) {y:Int} (y0:0≤y) (y1:y < (n:Int)) (h:app zs y∈F):y∈F:=by
 have nd2:(F.map (app zs)).Nodup:=by
  unfold List.Nodup
  rw [List.pairwise_map]
  refine List.Pairwise.imp_of_mem (fun {a b} ha hb' hab e=>?_) nd
  obtain ⟨a0,a1⟩:=hb a ha
  obtain ⟨b0,b1⟩:=hb b hb'
  exact hab (hz.inj a0 a1 b0 b1 e)
 have pm:(F.map (app zs)).Perm F:=yaS nd2 (fun x hx=>by obtain ⟨z,hz',rfl⟩:=List.mem_map.mp hx;exact hc z hz') (by simp)
 obtain ⟨z,hzm,e⟩:=List.mem_map.mp (pm.symm.subset h)
 obtain ⟨z0,z1⟩:=hb z hzm
 rw [← hz.inj z0 z1 y0 y1 e];exact hzm
theorem bf_all (hx:Tn n xs) (hy:Tn n ys) (s0:0≤s) (s1:s < (n:Int)) (all:∀ x:Int,0≤x→x < (n:Int)→Rch xs ys x) {x:Int} (x0:0≤x) (x1:x < (n:Int)):x∈bf xs ys s n:=by
 have cl:=xb8 hx hy s0 s1
 have nd:=xaP xs ys s n
 have bd:=ZaB hx hy s0 s1 n
 have hs:s∈bf xs ys s n:=by
  have:=Xa5 xs ys s 0 n
  rw [Nat.zero_add] at this
  exact this.subset (show s∈[s] by simp)
 have hpos:0 < n:=by omega
 have zero:∀ y,Rch xs ys y→y∈bf xs ys s n→(0:Int)∈bf xs ys s n:=by
  intro y hr
  induction hr with
  | zero=>exact id
  | r h ih =>
   intro hm
   obtain ⟨a,b⟩:=h.bound hx hy hpos
   exact ih (ZaS hx nd bd (fun x hx'=>(cl x hx').1) a b hm)
  | u h ih =>
   intro hm
   obtain ⟨a,b⟩:=h.bound hx hy hpos
   exact ih (ZaS hy nd bd (fun x hx'=>(cl x hx').2) a b hm)
 exact cl.all (zero s (all s s0 s1) hs) (all x x0 x1)
theorem zbh {p F:List Int} (hp:Tn n p) (hb:∀ x∈F,0≤x∧x < (n:Int)) {x:Int} (x0:0≤x) (x1:x < (n:Int)):addIf (F.map (app p)) (app p x)=(addIf F x).map (app p):=by
 unfold addIf
 have e:app p x∈F.map (app p)↔x∈F:=⟨fun h=>by
  obtain ⟨y,hy,e⟩:=List.mem_map.mp h
  obtain ⟨y0,y1⟩:=hb y hy
  rw [← hp.inj y0 y1 x0 x1 e];exact hy,fun h=>List.mem_map.mpr ⟨x,h,rfl⟩⟩
 by_cases h:x∈F
 ·rw [if_pos h,if_pos (e.mpr h)]
 ·rw [if_neg h,if_neg fun z=>h (e.mp z),List.map_append];rfl
theorem xbJ {p:List Int} (hx:Tn n xs) (hy:Tn n ys) (hp:Tn n p) (s0:0≤s) (s1:s < (n:Int)):∀ k,bf (anew xs p) (anew ys p) (app p s) k=(bf xs ys s k).map (app p)
 | 0=>rfl
 | k + 1=>by
  have ih:=xbJ hx hy hp s0 s1 k
  show (match (bf (anew xs p) (anew ys p) (app p s) k)[k]? with | some x=>visit (anew xs p) (anew ys p) (bf (anew xs p) (anew ys p) (app p s) k) x | none=>bf (anew xs p) (anew ys p) (app p s) k)=(match (bf xs ys s k)[k]? with | some x=>visit xs ys (bf xs ys s k) x | none=>bf xs ys s k).map (app p)
  rw [ih,List.getElem?_map]
  cases h:(bf xs ys s k)[k]? with
  | none=>rfl
  | some x =>
   obtain ⟨x0,x1⟩:=ZaB hx hy s0 s1 k x (List.mem_of_getElem? h)
   obtain ⟨a0,a1⟩:=hx.app x0 x1
   obtain ⟨b0,b1⟩:=hy.app x0 x1
   show visit (anew xs p) (anew ys p) ((bf xs ys s k).map (app p)) (app p x)=(visit xs ys (bf xs ys s k) x).map (app p)
   unfold visit
   rw [hx.anew_at hp x0 x1,hy.anew_at hp x0 x1,zbh hp (ZaB hx hy s0 s1 k) a0 a1,zbh hp (fun z hz=>?_) b0 b1]
   rcases Zak.mp hz with hz | rfl
   ·exact ZaB hx hy s0 s1 k z hz
   ·exact ⟨a0,a1⟩
end
theorem Tn.inv_inv {n:Nat} {p:List Int} (hp:Tn n p):inv (inv p)=p:=by
 refine ybn (n:=n) hp.inv_tn.inv_tn.length hp.length fun s h0 h1=>?_
 obtain ⟨a0,a1⟩:=hp.inv_tn.invB h0 h1
 obtain ⟨b0,b1⟩:=hp.app h0 h1
 refine hp.inv_tn.inj a0 a1 b0 b1 ?_
 rw [hp.inv_tn.app_inv h0 h1,hp.inv_app' h0 h1]
end Mth
namespace Mth
noncomputable def pw (xs:List Int) (k i:Int):Int:=if 0≤k then itr xs i k.toNat else itr (inv xs) i (-k).toNat
section
variable {n:Nat} {xs:List Int} {i:Int}
theorem Tn.itr_inv (h:Tn n xs) (i0:0≤i) (i1:i < (n:Int)):∀ (k m:Nat),Mth.itr (inv xs) (Mth.itr xs i m) k=if k≤m then Mth.itr xs i (m - k) else Mth.itr (inv xs) i (k - m)
 | 0,m=>by rw [if_pos (Nat.zero_le _),Nat.sub_zero];rfl
 | k + 1,m=>by
  show Mth.app (inv xs) (Mth.itr (inv xs) (Mth.itr xs i m) k)=_
  rw [h.itr_inv i0 i1 k m]
  by_cases hk:k≤m
  ·rw [if_pos hk]
   by_cases hk1:k + 1≤m
   ·rw [if_pos hk1]
    obtain ⟨d,hd⟩:∃ d,m - k=d + 1:=⟨m - k - 1,by omega⟩
    rw [hd,show m - (k + 1)=d by omega]
    obtain ⟨a,b⟩:=h.itr i0 i1 d
    exact h.inv_app' a b
   ·rw [if_neg hk1,show m - k=0 by omega,show k + 1 - m=1 by omega]
    rfl
  ·rw [if_neg hk,if_neg (by omega),show k + 1 - m=(k - m) + 1 by omega]
   rfl
theorem Tn.itr_inv' (h:Tn n xs) (i0:0≤i) (i1:i < (n:Int)) (k m:Nat):Mth.itr xs (Mth.itr (inv xs) i m) k=if k≤m then Mth.itr (inv xs) i (m - k) else Mth.itr xs i (k - m):=by
 have:=h.inv_tn.itr_inv i0 i1 k m
 rw [h.inv_inv] at this
 exact this
theorem Tn.pw (h:Tn n xs) (i0:0≤i) (i1:i < (n:Int)) (k:Int):0≤Mth.pw xs k i∧Mth.pw xs k i < (n:Int):=by
 unfold Mth.pw
 split
 ·exact h.itr i0 i1 _
 ·exact h.inv_tn.itr i0 i1 _
theorem Tn.pw_add (h:Tn n xs) (i0:0≤i) (i1:i < (n:Int)) (a b:Int):Mth.pw xs a (Mth.pw xs b i)=Mth.pw xs (a + b) i:=by
 by_cases ha:0≤a <;> by_cases hb:0≤b
 ·unfold Mth.pw
  rw [if_pos ha,if_pos hb,if_pos (by omega),YaN]
  congr 1
  omega
 ·have e1:Mth.pw xs b i=Mth.itr (inv xs) i (-b).toNat:=by unfold Mth.pw;rw [if_neg hb]
  have e2:∀ j,Mth.pw xs a j=Mth.itr xs j a.toNat:=fun j=>by unfold Mth.pw;rw [if_pos ha]
  rw [e1,e2,h.itr_inv' i0 i1]
  unfold Mth.pw
  split
  ·split
   ·rw [show (-b).toNat - a.toNat=0 by omega,show (a + b).toNat=0 by omega];rfl
   ·congr 1;omega
  ·rw [if_pos (by omega)];congr 1;omega
 ·have e1:Mth.pw xs b i=Mth.itr xs i b.toNat:=by unfold Mth.pw;rw [if_pos hb]
  have e2:∀ j,Mth.pw xs a j=Mth.itr (inv xs) j (-a).toNat:=fun j=>by unfold Mth.pw;rw [if_neg ha]
  rw [e1,e2,h.itr_inv i0 i1]
  unfold Mth.pw
  split
  ·rw [if_pos (by omega)];congr 1;omega
  ·rw [if_neg (by omega)];congr 1;omega
 ·unfold Mth.pw
  rw [if_neg ha,if_neg hb,if_neg (by omega),YaN]
  congr 1
  omega
end
noncomputable def pws (xs:List Int) (k:Int):List Int:=(upto xs.length).map (pw xs k)
theorem zaW (xs:List Int) (k:Int):(pws xs k).length=xs.length:=by simp [pws,xah]
theorem xaN {xs:List Int} {k s:Int} (s0:0≤s) (s1:s < (xs.length:Int)):app (pws xs k) s=pw xs k s:=by
 have e:=Yao (xs:=pws xs k) s0 (by rw [zaW];exact s1)
 unfold pws at e
 rw [List.getElem?_map,za9 (by omega)] at e
 have:=Option.some.inj e
 rw [Int.toNat_of_nonneg s0] at this
 exact this.symm
theorem Tn.pws {n:Nat} {xs:List Int} (h:Tn n xs) (k:Int):Tn n (pws xs k):=by
 have hl:=h.length
 refine Tn.of_inj (by rw [zaW];exact hl) (fun s s0 s1=>by rw [xaN s0 (by omega)];exact h.pw s0 s1 k) fun s t s0 s1 t0 t1 e=>?_
 rw [xaN s0 (by omega),xaN t0 (by omega)] at e
 have e2:=congrArg (Mth.pw xs (-k)) e
 rw [h.pw_add s0 s1,h.pw_add t0 t1,Int.add_left_neg] at e2
 exact e2
noncomputable def shr (xs ys:List Int) (k:Int):List Int:=fol (pws xs (-k)) ys
theorem Tn.shr {n:Nat} {xs ys:List Int} (hx:Tn n xs) (hy:Tn n ys) (k:Int):Tn n (shr xs ys k):=(hx.pws (-k)).fol hy
end Mth
namespace Mth
noncomputable def tb (l:Int→Nat) (p:Int→Int) (a b:Int):Bool:=if l a=l b∨l (p a)=l (p b) then false else (decide (l a < l b)).xor (decide (l (p a) < l (p b)))
section
variable {n:Nat} {L:List Int} {l:Int→Nat}
noncomputable def rnd (xs ys:List Int):List Int:=fol (fol xs ys) (fol (inv xs) (inv ys))
theorem Tn.rnd {xs ys:List Int} (hx:Tn n xs) (hy:Tn n ys):Tn n (rnd xs ys):=(hx.fol hy).fol (hx.inv_tn.fol hy.inv_tn)
end
end Mth
namespace Mth
theorem IsRing.step {xs r:List Int} {i:Int} (h:IsRing xs i r) {a:Int} (ha:a∈r):app xs a∈r:=by
 obtain ⟨m,e,_,bk⟩:=h.ex
 subst e
 obtain ⟨j,hj,rfl⟩:=Yaw.mp ha
 by_cases q:j=m
 ·subst q
  exact Yaw.mpr ⟨0,Nat.zero_le _,bk.symm⟩
 ·exact Yaw.mpr ⟨j + 1,by omega,rfl⟩
theorem IsRing.nodup {n:Nat} {xs r:List Int} {i:Int} (h:Tn n xs) (h0:0≤i) (h1:i < (n:Int)) (a:IsRing xs i r):r.Nodup:=by
 obtain ⟨m,e,nb,_⟩:=a.ex
 subst e
 unfold row List.Nodup
 rw [List.pairwise_map]
 refine List.Pairwise.imp_of_mem (R:=fun a b=>a < b) ?_ List.pairwise_lt_range
 intro a b ha hb hab e
 have hb':=List.mem_range.mp hb
 obtain ⟨d,rfl⟩:∃ d,b=a + d:=⟨b - a,by omega⟩
 exact nb d (by omega) (by omega) (h.back h0 h1 a d e)
theorem IsRing.unstep {n:Nat} {xs r:List Int} {i:Int} (h:Tn n xs) (h0:0≤i) (h1:i < (n:Int)) (a:IsRing xs i r) {x:Int} (x0:0≤x) (x1:x < (n:Int)) (hx:app xs x∈r):x∈r:=by
 obtain ⟨m,e,nb,bk⟩:=a.ex
 subst e
 obtain ⟨j,hj,e⟩:=Yaw.mp hx
 cases j with
 | zero =>
  have e':app xs (itr xs i m)=app xs x:=bk.trans e
  have:=h.inj (h.itr h0 h1 m).1 (h.itr h0 h1 m).2 x0 x1 e'
  exact Yaw.mpr ⟨m,Nat.le_refl _,this⟩
 | succ j =>
  have e':app xs (itr xs i j)=app xs x:=e
  have:=h.inj (h.itr h0 h1 j).1 (h.itr h0 h1 j).2 x0 x1 e'
  exact Yaw.mpr ⟨j,by omega,this⟩
theorem Rgs.perm {n:Nat} {xs:List Int} (h:Tn n xs):∀ {left:List Int} {rs:List (List Int)},Rgs xs left rs→left.Nodup→(∀ x∈left,(0≤x∧x < (n:Int))∧app xs x∈left)→rs.flatten.Perm left:=by
 intro left rs a
 induction a with
 | nil=>intro _ _;exact List.Perm.refl _
 | cons h1 _ ih =>
  rename_i i left r rs _
  intro nd cl
  obtain ⟨i0,i1⟩:=(cl i List.mem_cons_self).1
  have sub:∀ x∈r,x∈i :: left:=by
   obtain ⟨m,e,_,_⟩:=h1.ex
   subst e
   have:∀ j,itr xs i j∈i :: left:=fun j=>by
    induction j with
    | zero=>exact List.mem_cons_self
    | succ j ih=>exact (cl _ ih).2
   intro x hx
   obtain ⟨j,_,rfl⟩:=Yaw.mp hx
   exact this j
  have p:=ih (List.Pairwise.sublist List.filter_sublist nd) (fun x hx=>by
   obtain ⟨hx1,hx2⟩:=List.mem_filter.mp hx
   have nr:x ∉ r:=by simpa using hx2
   obtain ⟨b,c⟩:=cl x hx1
   exact ⟨b,List.mem_filter.mpr ⟨c,by simpa using fun z=>nr (h1.unstep h i0 i1 b.1 b.2 z)⟩⟩)
  rw [List.flatten_cons]
  refine (List.Perm.append_left r p).trans ?_
  refine (List.perm_ext_iff_of_nodup ?_ nd).mpr ?_
  ·refine List.nodup_append.mpr ⟨h1.nodup h i0 i1,List.Pairwise.sublist List.filter_sublist nd,?_⟩
   intro a ha b hb e
   subst e
   have:=(List.mem_filter.mp hb).2
   simp [ha] at this
  ·intro x
   rw [List.mem_append]
   constructor
   ·rintro (q | q)
    ·exact sub x q
    ·exact (List.mem_filter.mp q).1
   ·intro q
    by_cases c:x∈r
    ·exact .inl c
    ·exact .inr (List.mem_filter.mpr ⟨q,by simp [c]⟩)
theorem Rgs.yaD {n:Nat} {xs:List Int} (h:Tn n xs) {rs:List (List Int)} (a:Rgs xs (upto n) rs):rs.flatten.Perm (upto n) :=
 a.perm h (YaP n) fun x hx=>⟨yah.mp hx,yah.mpr (h.app (yah.mp hx).1 (yah.mp hx).2)⟩
end Mth
namespace Mth
abbrev Sp:=Bool×Int
structure T4 where (a b c d:Int)
theorem t3 {k:Int} (h:1≤k∧k≤3):k=1∨k=2∨k=3:=by omega
end Mth
namespace Mth
abbrev Flo:=List Int×List Int
end Mth
namespace Mth
theorem Xb8 (n:Nat):Tn n (upto n):=List.Perm.refl _
theorem Xbr {n:Nat} {s:Int} (s0:0≤s) (s1:s < (n:Int)):app (upto n) s=s:=by
 unfold app
 rw [List.getD_eq_getElem?_getD,za9 (by omega),Option.getD_some];omega
section
variable {n:Nat} {a b c g x y:List Int}
theorem zb9 (hx:Tn n x) (i j:Int):fol (pws x i) (pws x j)=pws x (i + j):=by
 refine ybn (n:=n) ((hx.pws i).fol (hx.pws j)).length (hx.pws (i + j)).length fun s s0 s1=>?_
 obtain ⟨p0,p1⟩:=hx.pw s0 s1 i
 have hl:=hx.length
 rw [zau s0 (by rw [zaW,hl];exact s1),xaN s0 (by rw [hl];exact s1),xaN p0 (by rw [hl];exact p1),xaN s0 (by rw [hl];exact s1),hx.pw_add s0 s1,Int.add_comm j i]
theorem pws_0 (hx:Tn n x):pws x 0=upto n:=by
 refine ybn (n:=n) (hx.pws 0).length (Xb8 n).length fun s s0 s1=>?_
 rw [xaN s0 (by rw [hx.length];exact s1),Xbr s0 s1];rfl
end
noncomputable def Vf (n:Nat) (p:Flo):Prop:=Tn n p.1∧Tn n p.2
noncomputable def Sh (k:Int) (p:Flo):Flo:=(p.1,shr p.1 p.2 k)
noncomputable def Qt (p:Flo):Flo:=(inv p.2,p.1)
section
variable {n:Nat} {p q r:Flo}
theorem Vf.sh (h:Vf n p) (k:Int):Vf n (Sh k p):=⟨h.1,h.1.shr h.2 k⟩
theorem Vf.qt (h:Vf n p):Vf n (Qt p):=⟨h.2.inv_tn,h.1⟩
end
noncomputable def tS (k:Int):T4:=⟨1,k,0,1⟩
section
variable {n:Nat} {p q r:Flo}
noncomputable def big:List Int→Prop
 | []=>True
 | [_]=>True
 | j :: b :: ks=>(2≤j∨j≤-2)∧big (b :: ks)
end
noncomputable def itQ:Nat→Flo→Flo
 | 0,p=>p
 | j + 1,p=>Qt (itQ j p)
noncomputable def stM (p:Flo) (s:Sp):Flo:=if s.1=true then Sh s.2 p else itQ s.2.toNat p
section
variable {n:Nat} {p q:Flo}
end
end Mth
namespace Mth
section
variable {n:Nat} {p q:Flo} {g h:List Int} {s t:Int}
structure Wh (n:Nat) (p:Flo):Prop where
 v:Vf n p
 all:∀ x:Int,0≤x→x < (n:Int)→Rch p.1 p.2 x
theorem zbs {α β:Type} {f:α→β}:∀ {l:List α},l.Nodup→(∀ a∈l,∀ b∈l,f a=f b→a=b)→(l.map f).Nodup
 | [],_,_=>List.nodup_nil
 | x :: l,nd,inj=>by
  obtain ⟨h1,h2⟩:=List.nodup_cons.mp nd
  rw [List.map_cons,List.nodup_cons]
  refine ⟨fun hm=>?_,zbs h2 fun a ha b hb=>inj a (List.mem_cons_of_mem _ ha) b (List.mem_cons_of_mem _ hb)⟩
  obtain ⟨y,hy,e⟩:=List.mem_map.mp hm
  exact h1 (inj y (List.mem_cons_of_mem _ hy) x List.mem_cons_self e ▸ hy)
theorem ybh (xs ys:List Int):∀ k,∀ y∈bf xs ys 0 k,Rch xs ys y
 | 0,y,hy=>by rw [List.mem_singleton.mp (show y∈[(0:Int)] from hy)];exact .zero
 | k + 1,y,hy=>by
  have hy':y∈(match (bf xs ys 0 k)[k]? with | some x=>visit xs ys (bf xs ys 0 k) x | none=>bf xs ys 0 k):=hy
  split at hy'
  ·next z hz =>
   have hzr:=ybh xs ys k z (List.mem_of_getElem? hz)
   rcases Zak.mp hy' with hy' | rfl
   ·rcases Zak.mp hy' with hy' | rfl
    ·exact ybh xs ys k y hy'
    ·exact hzr.r
   ·exact hzr.u
  ·exact ybh xs ys k y hy'
theorem wh_of (w:Wh n p) (v:Vf n q) (n0:0 < n) (h:∀ F:List Int,F.Nodup→(∀ x∈F,0≤x∧x < (n:Int))→Cl q.1 q.2 F→Cl p.1 p.2 F):Wh n q:=by
 refine ⟨v,fun x x0 x1=>ybh q.1 q.2 n x ?_⟩
 have c:=h (bf q.1 q.2 0 n) (xaP _ _ _ _) (ZaB v.1 v.2 (by decide) (by omega) n) (xb8 v.1 v.2 (by decide) (by omega))
 refine c.all ?_ (w.all x x0 x1)
 have:=Xa5 q.1 q.2 0 0 n
 rw [Nat.zero_add] at this
 exact this.subset (show (0:Int)∈[(0:Int)] by simp)
theorem Xb1 {zs F:List Int} (hz:Tn n zs) (nd:F.Nodup) (hb:∀ x∈F,0≤x∧x < (n:Int)) (hc:∀ x∈F,app zs x∈F):∀ x∈F,app (inv zs) x∈F:=fun x hx=>by
 obtain ⟨x0,x1⟩:=hb x hx
 obtain ⟨a0,a1⟩:=hz.invB x0 x1
 exact ZaS hz nd hb hc a0 a1 (by rw [hz.app_inv x0 x1];exact hx)
theorem XbJ {zs F:List Int} (hc:∀ x∈F,app zs x∈F) {x:Int} (hx:x∈F):∀ k,itr zs x k∈F
 | 0=>hx
 | k + 1=>hc _ (XbJ hc hx k)
theorem cl_pw {zs F:List Int} (hz:Tn n zs) (nd:F.Nodup) (hb:∀ x∈F,0≤x∧x < (n:Int)) (hc:∀ x∈F,app zs x∈F) (k:Int) {x:Int} (hx:x∈F):pw zs k x∈F:=by
 unfold pw
 split
 ·exact XbJ hc hx _
 ·exact XbJ (Xb1 hz nd hb hc) hx _
theorem Wh.sh (w:Wh n p) (n0:0 < n) (k:Int):Wh n (Sh k p):=by
 refine wh_of w (w.v.sh k) n0 fun F nd hb hc x hx=>⟨(hc x hx).1,?_⟩
 obtain ⟨x0,x1⟩:=hb x hx
 have h1:∀ x∈F,app p.1 x∈F:=fun x hx=>(hc x hx).1
 have hy:=cl_pw w.v.1 nd hb h1 k hx
 have:=(hc _ hy).2
 obtain ⟨y0,y1⟩:=hb _ hy
 have e:app (Sh k p).2 (pw p.1 k x)=app p.2 x:=by
  show app (shr p.1 p.2 k) (pw p.1 k x)=_
  unfold shr
  have hlen:(pws p.1 (-k)).length=n:=(w.v.1.pws (-k)).length
  rw [zau y0 (by rw [hlen];exact y1)]
  congr 1
  have e3:=zb9 w.v.1 k (-k)
  rw [Int.add_right_neg,pws_0 w.v.1] at e3
  have e4:app (fol (pws p.1 k) (pws p.1 (-k))) x=app (upto n) x:=by rw [e3]
  rw [Xbr x0 x1,zau x0 (by rw [(w.v.1.pws k).length];exact x1)] at e4
  have e5:app (pws p.1 k) x=pw p.1 k x:=xaN x0 (by rw [w.v.1.length];exact x1)
  rw [e5] at e4
  exact e4
 rw [e] at this
 exact this
theorem Wh.qt (w:Wh n p) (n0:0 < n):Wh n (Qt p):=by
 refine wh_of w w.v.qt n0 fun F nd hb hc x hx=>⟨(hc x hx).2,?_⟩
 have:=Xb1 w.v.2.inv_tn nd hb (fun x hx=>(hc x hx).1) x hx
 rw [w.v.2.inv_inv] at this
 exact this
end
end Mth
namespace Mth
section
variable {n:Nat} {xs ys r r' r2:List Int} {i j x y:Int}
theorem IsRing.go (h:IsRing xs i r) (hx:x∈r) (hy:y∈r):∃ k,y=itr xs x k:=by
 obtain ⟨m,e,_,bk⟩:=h.ex
 subst e
 obtain ⟨a,ha,rfl⟩:=Yaw.mp hx
 obtain ⟨b,hb,rfl⟩:=Yaw.mp hy
 refine ⟨b + (m + 1) - a,?_⟩
 rw [YaN,show a + (b + (m + 1) - a)=b + (m + 1) by omega]
 exact (ybJ bk b).symm
theorem IsRing.itr_mem (h:IsRing xs i r) (hx:x∈r):∀ k,itr xs x k∈r
 | 0=>hx
 | k + 1=>h.step (h.itr_mem hx k)
theorem Zbh (h:IsRing xs i r) (h':IsRing xs j r') (hx:x∈r) (hx':x∈r') (hy:y∈r):y∈r':=by
 obtain ⟨k,rfl⟩:=h.go hx hy
 exact h'.itr_mem hx' k
noncomputable def Rw (n:Nat) (xs r:List Int):Prop:=∃ i:Int,(0≤i∧i < (n:Int))∧IsRing xs i r∧∀ x∈r,i≤x
theorem Rw.eq (a:Rw n xs r) (b:Rw n xs r') (hx:x∈r) (hx':x∈r'):r=r':=by
 obtain ⟨i,bi,ri,li⟩:=a
 obtain ⟨j,bj,rj,lj⟩:=b
 have h1:=lj i (Zbh ri rj hx hx' ri.mem)
 have h2:=li j (Zbh rj ri hx' hx rj.mem)
 have:i=j:=by omega
 subst this
 exact ri.unique rj
theorem Rw.bound (tx:Tn n xs) (a:Rw n xs r):∀ x∈r,0≤x∧x < (n:Int):=by
 obtain ⟨i,bi,ri,li⟩:=a
 exact ri.bound tx bi.1 bi.2
theorem Rw.nodup (tx:Tn n xs) (a:Rw n xs r):r.Nodup:=by
 obtain ⟨i,bi,ri,li⟩:=a
 exact ri.nodup tx bi.1 bi.2
theorem Rw.len (tx:Tn n xs) (a:Rw n xs r):r.length≤n:=by
 obtain ⟨i,bi,ri,li⟩:=a
 exact ri.len tx bi.1 bi.2
theorem Rw.one (a:Rw n xs r):∃ x,x∈r:=let ⟨i,_,ri,_⟩:=a;⟨i,ri.mem⟩
theorem Rw.step (a:Rw n xs r) (hx:x∈r):app xs x∈r:=let ⟨_,_,ri,_⟩:=a;ri.step hx
theorem Rgs.rw' (tx:Tn n xs):∀ {left:List Int} {rs:List (List Int)},Rgs xs left rs→left.Pairwise (· < ·)→(∀ x∈left,(0≤x∧x < (n:Int))∧app xs x∈left)→∀ r∈rs,Rw n xs r:=by
 intro left rs a
 induction a with
 | nil=>intro _ _ r hr;cases hr
 | cons h1 _ ih =>
  rename_i i left r rs _
  intro nd cl q hq
  obtain ⟨i0,i1⟩:=(cl i List.mem_cons_self).1
  have sub:∀ x∈r,x∈i :: left:=by
   obtain ⟨m,e,_,_⟩:=h1.ex
   subst e
   have:∀ j,itr xs i j∈i :: left:=fun j=>by
    induction j with
    | zero=>exact List.mem_cons_self
    | succ j ih=>exact (cl _ ih).2
   intro x hx
   obtain ⟨j,_,rfl⟩:=Yaw.mp hx
   exact this j
  rcases List.mem_cons.mp hq with rfl | hq
  ·refine ⟨i,⟨i0,i1⟩,h1,fun x hx=>?_⟩
   rcases List.mem_cons.mp (sub x hx) with rfl | h
   ·omega
   ·have:=(List.pairwise_cons.mp nd).1 x h;omega
  ·refine ih (List.Pairwise.sublist List.filter_sublist nd) (fun x hx=>?_) q hq
   obtain ⟨hx1,hx2⟩:=List.mem_filter.mp hx
   have nr:x ∉ r:=by simpa using hx2
   obtain ⟨b,c⟩:=cl x hx1
   exact ⟨b,List.mem_filter.mpr ⟨c,by simpa using fun z=>nr (h1.unstep tx i0 i1 b.1 b.2 z)⟩⟩
theorem Rgs.rw (tx:Tn n xs) {rs:List (List Int)} (g:Rgs xs (upto n) rs):∀ r∈rs,Rw n xs r :=
 g.rw' tx (zaK n) fun x hx=>⟨yah.mp hx,yah.mpr (tx.app (yah.mp hx).1 (yah.mp hx).2)⟩
theorem Rgs.has {rs:List (List Int)} (g:Rgs xs (upto n) rs) (x0:0≤x) (x1:x < (n:Int)):∃ r∈rs,x∈r:=g.all.2 x (yah.mpr ⟨x0,x1⟩)
theorem Rgs.mem (tx:Tn n xs) {rs:List (List Int)} (g:Rgs xs (upto n) rs):r∈rs↔Rw n xs r:=by
 refine ⟨g.rw tx r,fun h=>?_⟩
 obtain ⟨x,hx⟩:=h.one
 obtain ⟨b0,b1⟩:=h.bound tx x hx
 obtain ⟨r',hr',hx'⟩:=g.has b0 b1
 rw [h.eq (g.rw tx r' hr') hx hx']
 exact hr'
theorem Za9 {rs:List (List Int)} (h:rs.flatten.Nodup) (ne:∀ r∈rs,r≠[]):rs.Nodup:=by
 induction rs with
 | nil=>exact List.nodup_nil
 | cons r rs ih =>
  rw [List.flatten_cons] at h
  obtain ⟨_,h2,h3⟩:=List.nodup_append.mp h
  refine List.nodup_cons.mpr ⟨fun hm=>?_,ih h2 fun q hq=>ne q (List.mem_cons_of_mem _ hq)⟩
  obtain ⟨x,hx⟩:=List.exists_mem_of_ne_nil r (ne r List.mem_cons_self)
  exact h3 x hx x (List.mem_flatten.mpr ⟨r,hm,hx⟩) rfl
theorem Rgs.nodup (tx:Tn n xs) {rs:List (List Int)} (g:Rgs xs (upto n) rs):rs.Nodup:=by
 refine Za9 ((g.yaD tx).nodup_iff.mpr (YaP n)) fun r hr e=>?_
 obtain ⟨x,hx⟩:=(g.rw tx r hr).one
 rw [e] at hx
 cases hx
theorem Rgs.sum (tx:Tn n xs) {rs:List (List Int)} (g:Rgs xs (upto n) rs):(rs.map List.length).sum=n:=by
 have:=(g.yaD tx).length_eq
 rw [List.length_flatten,xah] at this
 exact this
noncomputable def Sm (xs ys r:List Int):Prop:=∀ s∈r,app ys (app xs s)=app xs (app ys s)
instance:Decidable (Sm xs ys r):=inferInstanceAs (Decidable (∀ s∈r,app ys (app xs s)=app xs (app ys s)))
theorem Ya9 (tx:Tn n xs) (ty:Tn n ys) {s:Int} (s0:0≤s) (s1:s < (n:Int)):app (rnd xs ys) s=s↔app ys (app xs s)=app xs (app ys s):=by
 obtain ⟨a0,a1⟩:=tx.app s0 s1
 obtain ⟨b0,b1⟩:=ty.app a0 a1
 obtain ⟨c0,c1⟩:=tx.invB b0 b1
 obtain ⟨d0,d1⟩:=ty.app s0 s1
 obtain ⟨e0,e1⟩:=ty.invB c0 c1
 have e:app (rnd xs ys) s=app (inv ys) (app (inv xs) (app ys (app xs s))):=by
  unfold Mth.rnd
  rw [zau s0 (by rw [xaw,tx.length];exact s1),zau s0 (by rw [tx.length];exact s1),zau b0 (by rw [XaC,tx.length];exact b1)]
 rw [e]
 constructor
 ·intro h
  have h1:=ty.app_inv c0 c1
  rw [h] at h1
  rw [h1,tx.app_inv b0 b1]
 ·intro h
  rw [h,tx.inv_app' d0 d1,ty.inv_app' s0 s1]
theorem Sm.itr (hs:Sm xs ys r) (a:Rw n xs r) (hx:x∈r):∀ k,app ys (Mth.itr xs x k)=Mth.itr xs (app ys x) k
 | 0=>rfl
 | k + 1=>by
  obtain ⟨i,_,ri,_⟩:=a
  show app ys (app xs (Mth.itr xs x k))=app xs (Mth.itr xs (app ys x) k)
  rw [hs _ (ri.itr_mem hx k),hs.itr ⟨i,‹_›,ri,‹_›⟩ hx k]
noncomputable def Up (n:Nat) (xs ys r r':List Int):Prop:=Rw n xs r'∧∃ s∈r,app ys s∈r'
theorem Up.all (u:Up n xs ys r r') (a:Rw n xs r) (hs:Sm xs ys r):∀ t∈r,app ys t∈r':=fun t ht=>by
 obtain ⟨b,s,h1,h2⟩:=u
 have a':=a
 obtain ⟨i,_,ri,_⟩:=a
 obtain ⟨k,rfl⟩:=ri.go h1 ht
 rw [hs.itr a' h1 k]
 obtain ⟨j,_,rj,_⟩:=b
 exact rj.itr_mem h2 k
theorem Up.onto (u:Up n xs ys r r') (a:Rw n xs r) (hs:Sm xs ys r):∀ y∈r',∃ t∈r,app ys t=y:=fun y hy=>by
 obtain ⟨b,s,h1,h2⟩:=u
 obtain ⟨j,_,rj,_⟩:=b
 obtain ⟨k,rfl⟩:=rj.go h2 hy
 have a':=a
 obtain ⟨i,_,ri,_⟩:=a
 exact ⟨Mth.itr xs s k,ri.itr_mem h1 k,hs.itr a' h1 k⟩
theorem Up.inj (tx:Tn n xs) (ty:Tn n ys) (u:Up n xs ys r r') (v:Up n xs ys r2 r') (a:Rw n xs r) (b:Rw n xs r2) (hs:Sm xs ys r) (ht:Sm xs ys r2):r=r2:=by
 obtain ⟨y,hy⟩:=u.1.one
 obtain ⟨s,s1,s2⟩:=u.onto a hs y hy
 obtain ⟨t,t1,t2⟩:=v.onto b ht y hy
 have b1:=a.bound tx s s1
 have b2:=b.bound tx t t1
 have:=ty.inj b1.1 b1.2 b2.1 b2.2 (s2.trans t2.symm)
 subst this
 exact a.eq b s1 t1
theorem Up.uniq (u:Up n xs ys r r') (v:Up n xs ys r r2) (a:Rw n xs r) (hs:Sm xs ys r):r'=r2:=by
 obtain ⟨x,hx⟩:=a.one
 exact u.1.eq v.1 (u.all a hs x hx) (v.all a hs x hx)
theorem Up.perm (tx:Tn n xs) (ty:Tn n ys) (u:Up n xs ys r r') (a:Rw n xs r) (hs:Sm xs ys r):(r.map (app ys)).Perm r':=by
 refine (List.perm_ext_iff_of_nodup (zbs (a.nodup tx) fun p hp q hq e=>?_) (u.1.nodup tx)).mpr fun y=>?_
 ·have b1:=a.bound tx p hp
  have b2:=a.bound tx q hq
  exact ty.inj b1.1 b1.2 b2.1 b2.2 e
 ·rw [List.mem_map]
  constructor
  ·rintro ⟨t,ht,rfl⟩;exact u.all a hs t ht
  ·exact u.onto a hs y
theorem Up.len (tx:Tn n xs) (ty:Tn n ys) (u:Up n xs ys r r') (a:Rw n xs r) (hs:Sm xs ys r):r.length=r'.length:=by
 have:=(u.perm tx ty a hs).length_eq
 rwa [List.length_map] at this
theorem up_min (tx:Tn n xs) (ty:Tn n ys) (a:Rw n xs r) (hs:Sm xs ys r) {m:Int} (hm:m∈r.map (app ys)) (hl:∀ y∈r.map (app ys),m≤y) (q:IsRing xs m r'):Up n xs ys r r':=by
 obtain ⟨s,s1,rfl⟩:=List.mem_map.mp hm
 have bs:=a.bound tx s s1
 refine ⟨⟨_,ty.app bs.1 bs.2,q,fun x hx=>?_⟩,s,s1,q.mem⟩
 obtain ⟨k,rfl⟩:=q.go q.mem hx
 rw [← hs.itr a s1 k]
 obtain ⟨i,_,ri,_⟩:=a
 exact hl _ (List.mem_map_of_mem (ri.itr_mem s1 k))
structure Ch (n:Nat) (xs ys l:List Int) (b:List (List Int)):Prop where
 hd:b[0]?=some l
 nd:b.Nodup
 rw:∀ r∈b,Rw n xs r
 st:∀ (k:Nat) (r r':List Int),b[k]?=some r→b[k + 1]?=some r'→Sm xs ys r∧Up n xs ys r r'
theorem Ch.one {l:List Int} (a:Rw n xs l):Ch n xs ys l [l]:=⟨rfl,by simp,fun r hr=>by rw [List.mem_singleton.mp hr];exact a,fun k r r' _ h=>by simp at h⟩
theorem Ch.len (tx:Tn n xs) {l:List Int} {b:List (List Int)} (c:Ch n xs ys l b):b.length≤n:=by
 have nd:(b.map fun r=>r.headD 0).Nodup:=by
  refine zbs c.nd fun p hp q hq e=>?_
  have h:∀ p:List Int,Rw n xs p→p.headD 0∈p:=fun p a=>by
   obtain ⟨x,hx⟩:=a.one
   cases p with
   | nil=>cases hx
   | cons a p=>exact List.mem_cons_self
  exact (c.rw p hp).eq (c.rw q hq) (h p (c.rw p hp)) (by rw [e];exact h q (c.rw q hq))
 have:=xaV nd (ys:=upto n) fun x hx=>by
  obtain ⟨p,hp,rfl⟩:=List.mem_map.mp hx
  have a:=c.rw p hp
  obtain ⟨x,hx⟩:=a.one
  cases p with
  | nil=>cases hx
  | cons y p=>exact yah.mpr (a.bound tx y List.mem_cons_self)
 rwa [List.length_map,xah] at this
theorem Ch.snoc (tx:Tn n xs) (ty:Tn n ys) {l:List Int} {b:List (List Int)} (c:Ch n xs ys l b) (hr:b[b.length - 1]?=some r) (hs:Sm xs ys r) (u:Up n xs ys r r') (ne:r'≠l):Ch n xs ys l (b ++ [r']):=by
 have hl:0 < b.length:=by have:=(List.getElem?_eq_some_iff.mp c.hd).1;omega
 refine ⟨by rw [List.getElem?_append_left hl];exact c.hd,?_,fun q hq=>?_,fun k q q' h1 h2=>?_⟩
 ·refine List.nodup_append.mpr ⟨c.nd,by simp,fun p hp q hq e=>?_⟩
  rw [List.mem_singleton.mp hq] at e
  subst e
  obtain ⟨k,hk,e⟩:=List.getElem_of_mem hp
  cases k with
  | zero =>
   have:=c.hd
   rw [List.getElem?_eq_getElem hk,e] at this
   exact ne (Option.some.inj this)
  | succ k =>
   have h1:b[k]?=some b[k]:=List.getElem?_eq_getElem (by omega)
   obtain ⟨s1,u1⟩:=c.st k b[k] p h1 (by rw [List.getElem?_eq_getElem hk,e])
   have e2:=u1.inj tx ty u (c.rw _ (List.getElem_mem _)) (c.rw _ (List.mem_of_getElem? hr)) s1 hs
   obtain ⟨h3,e3⟩:=List.getElem?_eq_some_iff.mp hr
   have:=(List.getElem_inj c.nd).mp (e2.trans e3.symm)
   omega
 ·rcases List.mem_append.mp hq with hq | hq
  ·exact c.rw q hq
  ·rw [List.mem_singleton.mp hq];exact u.1
 ·by_cases hk:k + 1 < b.length
  ·rw [List.getElem?_append_left hk] at h2
   rw [List.getElem?_append_left (by omega)] at h1
   exact c.st k q q' h1 h2
  ·have hk2:=(List.getElem?_eq_some_iff.mp h2).1
   rw [List.length_append,List.length_singleton] at hk2
   have ek:k=b.length - 1:=by omega
   rw [List.getElem?_append_left (by omega),ek,hr] at h1
   cases h1
   rw [List.getElem?_append_right (by omega),show k + 1 - b.length=0 by omega] at h2
   cases h2
   exact ⟨hs,u⟩
structure Bd (n:Nat) (xs ys l:List Int) (b:List (List Int)):Prop extends Ch n xs ys l b where
 en:∀ r,b[b.length - 1]?=some r→Sm xs ys r→Up n xs ys r l
theorem Bd.up {l:List Int} {b:List (List Int)} (c:Bd n xs ys l b) (hr:r∈b) (hs:Sm xs ys r) (u:Up n xs ys r r'):r'∈b:=by
 obtain ⟨k,hk,rfl⟩:=List.getElem_of_mem hr
 by_cases h:k + 1 < b.length
 ·obtain ⟨s1,u1⟩:=c.st k b[k] b[k + 1] (List.getElem?_eq_getElem hk) (List.getElem?_eq_getElem h)
  rw [u.uniq u1 (c.rw _ hr) hs]
  exact List.getElem_mem _
 ·have ek:k=b.length - 1:=by omega
  have:=c.en b[k] (by rw [← ek];exact List.getElem?_eq_getElem hk) hs
  rw [u.uniq this (c.rw _ hr) hs]
  exact List.mem_of_getElem? c.hd
theorem Bd.width (tx:Tn n xs) (ty:Tn n ys) {l:List Int} {b:List (List Int)} (c:Ch n xs ys l b):∀ r∈b,r.length=l.length:=by
 have key:∀ (k:Nat) (r:List Int),b[k]?=some r→r.length=l.length:=by
  intro k
  induction k with
  | zero=>intro r hr;rw [c.hd] at hr;cases hr;rfl
  | succ k ih =>
   intro r hr
   have hk:=(List.getElem?_eq_some_iff.mp hr).1
   have h1:b[k]?=some b[k]:=List.getElem?_eq_getElem (by omega)
   obtain ⟨s1,u1⟩:=c.st k _ r h1 hr
   rw [← u1.len tx ty (c.rw _ (List.getElem_mem _)) s1]
   exact ih _ h1
 intro r hr
 obtain ⟨k,hk⟩:=List.getElem?_of_mem hr
 exact key k r hk
theorem Bd.unique {l:List Int} {b b':List (List Int)} (c:Bd n xs ys l b) (d:Bd n xs ys l b'):b=b':=by
 have key:∀ k:Nat,b[k]?=b'[k]?:=by
  have half:∀ {b b':List (List Int)},Bd n xs ys l b→Bd n xs ys l b'→∀ (k:Nat) (r:List Int),b[k]?=some r→b'[k]?=some r→∀ q,b'[k + 1]?=some q→b[k + 1]?=some q:=by
   intro b b' c d k r h1 h2 q hq
   obtain ⟨s1,u1⟩:=d.st k r q h2 hq
   by_cases h:k + 1 < b.length
   ·have h3:b[k + 1]?=some b[k + 1]:=List.getElem?_eq_getElem h
    obtain ⟨s2,u2⟩:=c.st k r _ h1 h3
    rw [h3,u2.uniq u1 (c.rw r (List.mem_of_getElem? h1)) s1]
   ·have hk:=(List.getElem?_eq_some_iff.mp h1).1
    have ek:k=b.length - 1:=by omega
    have u2:=c.en r (by rw [← ek];exact h1) s1
    have e:=u2.uniq u1 (c.rw r (List.mem_of_getElem? h1)) s1
    obtain ⟨h5,e5⟩:=List.getElem?_eq_some_iff.mp hq
    obtain ⟨h6,e6⟩:=List.getElem?_eq_some_iff.mp d.hd
    have:=(List.getElem_inj d.nd).mp (e6.trans (e.trans e5.symm))
    omega
  intro k
  induction k with
  | zero=>rw [c.hd,d.hd]
  | succ k ih =>
   cases h:b[k]? with
   | none =>
    rw [h] at ih
    have h1:=List.getElem?_eq_none_iff.mp h
    have h2:=List.getElem?_eq_none_iff.mp ih.symm
    rw [List.getElem?_eq_none_iff.mpr (by omega),List.getElem?_eq_none_iff.mpr (by omega)]
   | some r =>
    rw [h] at ih
    cases h3:b[k + 1]? with
    | some q=>exact (half d c k r ih.symm h q h3).symm
    | none =>
     cases h4:b'[k + 1]? with
     | none=>rfl
     | some q=>rw [half c d k r h ih.symm q h4] at h3;cases h3
 exact List.ext_getElem? key
end
end Mth
namespace Mth
theorem Ybh {α:Type} [DecidableEq α]:∀ {xs ys:List α},xs.Nodup→(∀ x∈xs,x∈ys)→ys.length≤xs.length→xs.Perm ys
 | [],ys,_,_,h=>by
  have:ys=[]:=List.eq_nil_of_length_eq_zero (by simpa using h)
  subst this;exact List.Perm.refl _
 | x :: xs,ys,hn,hs,hl=>by
  obtain ⟨h1,h2⟩:=List.nodup_cons.mp hn
  have hx:x∈ys:=hs x List.mem_cons_self
  have hp:=List.perm_cons_erase hx
  have hlen:(ys.erase x).length + 1=ys.length:=by have:=hp.length_eq;simpa using this.symm
  refine List.Perm.trans (List.Perm.cons x (Ybh (ys:=ys.erase x) h2 (fun y hy=>?_) ?_)) hp.symm
  ·have hne:y≠x:=fun e=>h1 (e ▸ hy)
   exact (List.mem_erase_of_ne hne).mpr (hs y (List.mem_cons_of_mem _ hy))
  ·simp at hl;omega
theorem pick {α β:Type} [Inhabited β] {rs:List α} {rs':List β} {P:α→β→Prop} (tot:∀ r∈rs,∃ r'∈rs',P r r'):∃ F:α→β,∀ r∈rs,F r∈rs'∧P r (F r):=by
 have:∀ r,∃ r',r∈rs→r'∈rs'∧P r r':=fun r=>by
  by_cases h:r∈rs
  ·obtain ⟨r',h1,h2⟩:=tot r h
   exact ⟨r',fun _=>⟨h1,h2⟩⟩
  ·exact ⟨default,fun z=>absurd z h⟩
 exact ⟨fun r=>Classical.choose (this r),fun r hr=>Classical.choose_spec (this r) hr⟩
theorem ybV {α:Type} [DecidableEq α] [Inhabited α] {U:List α} (nd:U.Nodup) {P:α→α→Prop} (h1:∀ u∈U,∃ p∈U,P p u) (h2:∀ p∈U,∀ u∈U,∀ u'∈U,P p u→P p u'→u=u'):∀ p∈U,∃ u∈U,P p u:=by
 obtain ⟨F,hF⟩:=pick (P:=fun u p=>P p u) h1
 have nd':(U.map F).Nodup:=zbs nd fun a ha b hb e=>h2 (F a) (hF a ha).1 a ha b hb (hF a ha).2 (by rw [e];exact (hF b hb).2)
 have hp:=Ybh nd' (ys:=U) (fun x hx=>by
  obtain ⟨u,hu,rfl⟩:=List.mem_map.mp hx
  exact (hF u hu).1) (by rw [List.length_map];exact Nat.le_refl _)
 intro p hpU
 obtain ⟨u,hu,rfl⟩:=List.mem_map.mp (hp.symm.subset hpU)
 exact ⟨u,hu,(hF u hu).2⟩
section
variable {n:Nat} {xs ys:List Int} {rs:List (List Int)} {lows:List (List Int)} {B:List Int→List (List Int)}
theorem cover (tx:Tn n xs) (ty:Tn n ys) (all:∀ x:Int,0≤x→x < (n:Int)→Rch xs ys x) (g:Rgs xs (upto n) rs) (hB:∀ l∈lows,Bd n xs ys l (B l)) (ne:lows≠[]) (hl:∀ l∈lows,l∈rs)
  (H1:∀ r∈rs,r∈lows∨∃ p,Rw n xs p∧Sm xs ys p∧Up n xs ys p r):∀ r∈rs,∃ l∈lows,r∈B l:=by
 intro r0 hr0
 refine Classical.byContradiction fun hc=>?_
 let U:=rs.filter fun r=>lows.all fun l=>!(B l).contains r
 have mU:∀ r,r∈U↔r∈rs∧∀ l∈lows,r ∉ B l:=fun r=>by
  show r∈rs.filter _↔_
  rw [List.mem_filter,List.all_eq_true]
  refine and_congr_right fun _=>forall_congr' fun l=>imp_congr_right fun _=>?_
  simp
 have h0:r0∈U:=(mU r0).mpr ⟨hr0,fun l hl h=>hc ⟨l,hl,h⟩⟩
 have ndU:U.Nodup:=(g.nodup tx).filter _
 have own:∀ l∈lows,l∈B l:=fun l hl=>List.mem_of_getElem? (hB l hl).hd
 have nx:=ybV (P:=fun p u=>Rw n xs p∧Sm xs ys p∧Up n xs ys p u) ndU (fun u hu=>by
  obtain ⟨hu1,hu2⟩:=(mU u).mp hu
  rcases H1 u hu1 with h | ⟨p,a,s,up⟩
  ·exact absurd (own u h) (hu2 u h)
  ·refine ⟨p,(mU p).mpr ⟨(g.mem tx).mpr a,fun l hl' hp=>hu2 l hl' ((hB l hl').up hp s up)⟩,a,s,up⟩) (fun p _ u _ u' _ h h'=>h.2.2.uniq h'.2.2 h.1 h.2.1)
 have ndF:U.flatten.Nodup:=by
  have:=(g.yaD tx).nodup_iff.mpr (YaP n)
  obtain ⟨p1,p2⟩:=List.pairwise_flatten.mp this
  exact List.pairwise_flatten.mpr ⟨fun l hl=>p1 l (List.mem_filter.mp hl).1,p2.sublist List.filter_sublist⟩
 have bF:∀ x∈U.flatten,0≤x∧x < (n:Int):=fun x hx=>by
  obtain ⟨r,hr,hx⟩:=List.mem_flatten.mp hx
  exact (g.rw tx r ((mU r).mp hr).1).bound tx x hx
 have cF:Cl xs ys U.flatten:=fun x hx=>by
  obtain ⟨r,hr,hx⟩:=List.mem_flatten.mp hx
  have a:=g.rw tx r ((mU r).mp hr).1
  obtain ⟨u,hu,_,s,up⟩:=nx r hr
  exact ⟨List.mem_flatten.mpr ⟨r,hr,a.step hx⟩,List.mem_flatten.mpr ⟨u,hu,up.all a s x hx⟩⟩
 by_cases z:(0:Int)∈U.flatten
 ·obtain ⟨l,hl'⟩:=List.exists_mem_of_ne_nil lows ne
  have a:=g.rw tx l (hl l hl')
  obtain ⟨x,hx⟩:=a.one
  have bx:=a.bound tx x hx
  obtain ⟨u,hu,hxu⟩:=List.mem_flatten.mp (cF.all z (all x bx.1 bx.2))
  obtain ⟨u1,u2⟩:=(mU u).mp hu
  have e:=a.eq (g.rw tx u u1) hx hxu
  exact u2 l hl' (by rw [← e];exact own l hl')
 ·have no:∀ x,Rch xs ys x→(0≤x∧x < (n:Int))∧x ∉ U.flatten:=fun x h=>by
   induction h with
   | zero =>
    obtain ⟨x,hx⟩:=(g.rw tx r0 hr0).one
    have:=(g.rw tx r0 hr0).bound tx x hx
    exact ⟨by omega,z⟩
   | r _ ih=>exact ⟨tx.app ih.1.1 ih.1.2,fun q=>ih.2 (ZaS tx ndF bF (fun x hx=>(cF x hx).1) ih.1.1 ih.1.2 q)⟩
   | u _ ih=>exact ⟨ty.app ih.1.1 ih.1.2,fun q=>ih.2 (ZaS ty ndF bF (fun x hx=>(cF x hx).2) ih.1.1 ih.1.2 q)⟩
  obtain ⟨x,hx⟩:=(g.rw tx r0 hr0).one
  have bx:=(g.rw tx r0 hr0).bound tx x hx
  exact (no x (all x bx.1 bx.2)).2 (List.mem_flatten.mpr ⟨r0,h0,hx⟩)
theorem apart {l l':List Int} {b b':List (List Int)} (tx:Tn n xs) (ty:Tn n ys) (c:Bd n xs ys l b) (d:Bd n xs ys l' b') (h:∀ p,Rw n xs p→Sm xs ys p→¬ Up n xs ys p l) (h':∀ p,Rw n xs p→Sm xs ys p→¬ Up n xs ys p l') :
  ∀ (i j:Nat) (r:List Int),b[i]?=some r→b'[j]?=some r→l=l'
 | 0,0,r,h1,h2=>by rw [c.hd] at h1;rw [d.hd] at h2;cases h1;cases h2;rfl
 | 0,j + 1,r,h1,h2=>by
  rw [c.hd] at h1
  cases h1
  have hj:=(List.getElem?_eq_some_iff.mp h2).1
  obtain ⟨s,u⟩:=d.st j _ _ (List.getElem?_eq_getElem (by omega)) h2
  exact absurd u (h _ (d.rw _ (List.getElem_mem _)) s)
 | i + 1,0,r,h1,h2=>by
  rw [d.hd] at h2
  cases h2
  have hj:=(List.getElem?_eq_some_iff.mp h1).1
  obtain ⟨s,u⟩:=c.st i _ _ (List.getElem?_eq_getElem (by omega)) h1
  exact absurd u (h' _ (c.rw _ (List.getElem_mem _)) s)
 | i + 1,j + 1,r,h1,h2=>by
  have hi:=(List.getElem?_eq_some_iff.mp h1).1
  have hj:=(List.getElem?_eq_some_iff.mp h2).1
  have e1:b[i]?=some b[i]:=List.getElem?_eq_getElem (by omega)
  have e2:b'[j]?=some b'[j]:=List.getElem?_eq_getElem (by omega)
  obtain ⟨s,u⟩:=c.st i _ _ e1 h1
  obtain ⟨s',u'⟩:=d.st j _ _ e2 h2
  have e:=u.inj tx ty u' (c.rw _ (List.getElem_mem _)) (d.rw _ (List.getElem_mem _)) s s'
  rw [← e] at e2
  exact apart tx ty c d h h' i j _ e1 e2
structure Lw (n:Nat) (xs ys:List Int) (rs lows:List (List Int)):Prop where
 ne:lows≠[]
 sub:∀ l∈lows,l∈rs
 nd:lows.Nodup
 up:∀ r∈rs,r∈lows∨∃ p,Rw n xs p∧Sm xs ys p∧Up n xs ys p r
 lo:(∀ l∈lows,∀ p,Rw n xs p→Sm xs ys p→¬ Up n xs ys p l)∨lows.length=1
theorem Lw.parts (w:Lw n xs ys rs lows) (tx:Tn n xs) (ty:Tn n ys) (all:∀ x:Int,0≤x→x < (n:Int)→Rch xs ys x) (g:Rgs xs (upto n) rs) (hB:∀ l∈lows,Bd n xs ys l (B l)):(lows.map B).flatten.Perm rs:=by
 have cv:=cover tx ty all g hB w.ne w.sub w.up
 refine (List.perm_ext_iff_of_nodup ?_ (g.nodup tx)).mpr fun r=>?_
 ·refine List.pairwise_flatten.mpr ⟨fun b hb=>?_,?_⟩
  ·obtain ⟨l,hl,rfl⟩:=List.mem_map.mp hb
   exact (hB l hl).nd
  ·rw [List.pairwise_map]
   refine List.Pairwise.imp_of_mem (R:=fun a b=>a≠b) (fun {a b} ha hb hab=>?_) w.nd
   intro r h1 r2 h2 e
   subst e
   rcases w.lo with h | h
   ·obtain ⟨i,hi⟩:=List.getElem?_of_mem h1
    obtain ⟨j,hj⟩:=List.getElem?_of_mem h2
    exact hab (apart tx ty (hB a ha) (hB b hb) (h a ha) (h b hb) i j r hi hj)
   ·obtain ⟨c,rfl⟩:=List.length_eq_one_iff.mp h
    exact hab ((List.mem_singleton.mp ha).trans (List.mem_singleton.mp hb).symm)
 ·rw [List.mem_flatten]
  constructor
  ·rintro ⟨b,hb,hr⟩
   obtain ⟨l,hl,rfl⟩:=List.mem_map.mp hb
   exact (g.mem tx).mpr ((hB l hl).rw r hr)
  ·intro hr
   obtain ⟨l,hl,h⟩:=cv r hr
   exact ⟨B l,List.mem_map_of_mem hl,h⟩
theorem xbh {α:Type} (f:α→Nat) (c:Nat):∀ l:List α,(∀ a∈l,f a=c)→(l.map f).sum=c * l.length
 | [],_=>by simp
 | a :: l,h=>by
  rw [List.map_cons,List.sum_cons,h a List.mem_cons_self,xbh f c l fun b hb=>h b (List.mem_cons_of_mem _ hb),List.length_cons,Nat.mul_succ]
  omega
theorem sumF:∀ L:List (List Nat),L.flatten.sum=(L.map List.sum).sum
 | []=>rfl
 | l :: L=>by rw [List.flatten_cons,List.sum_append,sumF L,List.map_cons,List.sum_cons]
theorem Lw.sum (w:Lw n xs ys rs lows) (tx:Tn n xs) (ty:Tn n ys) (all:∀ x:Int,0≤x→x < (n:Int)→Rch xs ys x) (g:Rgs xs (upto n) rs) (hB:∀ l∈lows,Bd n xs ys l (B l)):(lows.map fun l=>l.length * (B l).length).sum=n:=by
 have p:=((w.parts tx ty all g hB).map List.length).sum_nat
 rw [g.sum tx] at p
 rw [← p,List.map_flatten,sumF,List.map_map,List.map_map]
 congr 1
 refine List.map_congr_left fun l hl=>?_
 exact (xbh List.length l.length (B l) (Bd.width tx ty (hB l hl).toCh)).symm
end
section
variable {n:Nat} {c g:List Int} {rs rs':List (List Int)}
end
section
variable {n:Nat} {p q:Flo} {g:List Int}
theorem Wh.itQ (w:Wh n p) (n0:0 < n):∀ j,Wh n (Mth.itQ j p)
 | 0=>w
 | j + 1=>(w.itQ n0 j).qt n0
theorem Wh.st (w:Wh n p) (n0:0 < n) (s:Sp):Wh n (stM p s):=by
 unfold stM
 split
 ·exact w.sh n0 _
 ·exact w.itQ n0 _
end
end Mth
namespace Mth
section
variable {n:Nat} {xs ys:List Int}
variable {g r r' u u':List Int}
variable {rs rs' lows lows':List (List Int)} {B B':List Int→List (List Int)}
end
section
variable {n:Nat} {xs ys r l:List Int}
end
end Mth
namespace L4
open PySem PySem.Spec L2
inductive D where
 | non | bl (b:Bool) | int (i:Int) | str (x:Str) | ty (n:String) | tup (ds:List D) | ref (i:Nat)
instance:Inhabited D:=⟨.non⟩
inductive O where
 | lst (ds:List D) | fzn (ds:List D) | dct (kvs:List (Key×D)) | dcu (kvs:List (List Int×D)) | rng (lo hi:Int)
abbrev Store:=List O
abbrev DSt:=List (Option D)
abbrev Dm (α:Type):=Store→Option (α×Store)
inductive Fl where
 | nx (δ:DSt) | bk (δ:DSt) | ct (δ:DSt) | rt (d:D)
mutual
inductive Rp (K:PySem.W.Frag) (ρ:List Addr) (H:Hp):V→D→Prop
 | non:Rp K ρ H .non .non
 | bl (b:Bool):Rp K ρ H (.bl b) (.bl b)
 | int (i:Int):Rp K ρ H (.int i) (.int i)
 | str (x:Str):Rp K ρ H (.str x) (.str x)
 | ty (n:String):Rp K ρ H (.ty n) (.ty n)
 | ref {a:Addr} {i:Nat}:ρ[i]?=some a→Rp K ρ H (.ref a) (.ref i)
 | tup {a:Addr} {vs:List V} {ds:List D}:SqT K H a vs→Rps K ρ H vs ds→Rp K ρ H (.ref a) (.tup ds)
inductive Rps (K:PySem.W.Frag) (ρ:List Addr) (H:Hp):List V→List D→Prop
 | nil:Rps K ρ H [] []
 | cons {v:V} {vs:List V} {d:D} {ds:List D}:Rp K ρ H v d→Rps K ρ H vs ds→Rps K ρ H (v :: vs) (d :: ds)
end
structure Mn (K:PySem.W.Frag) (ρ:List Addr) (H:Hp) (ρ':List Addr) (H':Hp):Prop where
 r:∀ (i:Nat) (a:Addr),ρ[i]?=some a→ρ'[i]?=some a
 t:∀ a vs,SqT K H a vs→SqT K H' a vs
section
variable {K:PySem.W.Frag} {ρ ρ' ρ2:List Addr} {H H' H2:Hp}
theorem Mn.refl:Mn K ρ H ρ H:=⟨fun _ _ h=>h,fun _ _ h=>h⟩
theorem Mn.trans (m:Mn K ρ H ρ' H') (n:Mn K ρ' H' ρ2 H2):Mn K ρ H ρ2 H2:=⟨fun i a h=>n.r i a (m.r i a h),fun a vs h=>n.t a vs (m.t a vs h)⟩
mutual
theorem Rp.mn (m:Mn K ρ H ρ' H'):∀ {v:V} {d:D},Rp K ρ H v d→Rp K ρ' H' v d
 | _,_,.non=>.non
 | _,_,.bl b=>.bl b
 | _,_,.int i=>.int i
 | _,_,.str x=>.str x
 | _,_,.ty n=>.ty n
 | _,_,.ref e=>.ref (m.r _ _ e)
 | _,_,.tup q r=>.tup (m.t _ _ q) (Rps.mn m r)
theorem Rps.mn (m:Mn K ρ H ρ' H'):∀ {vs:List V} {ds:List D},Rps K ρ H vs ds→Rps K ρ' H' vs ds
 | _,_,.nil=>.nil
 | _,_,.cons a b=>.cons (Rp.mn m a) (Rps.mn m b)
end
theorem Rps.length:∀ {vs:List V} {ds:List D},Rps K ρ H vs ds→vs.length=ds.length
 | _,_,.nil=>rfl
 | _,_,.cons _ r=>by rw [List.length_cons,List.length_cons,r.length]
theorem Rps.got:∀ {vs:List V} {ds:List D},Rps K ρ H vs ds→∀ {i:Nat} {d:D},ds[i]?=some d→∃ v,vs[i]?=some v∧Rp K ρ H v d
 | _,_,.nil,i,v,e=>by simp at e
 | _,_,.cons (v:=v) a b,0,d,e=>⟨v,by simp,by have:_=d:=Option.some.inj (by simpa using e);rw [← this];exact a⟩
 | _,_,.cons a b,i + 1,d,e=>by
  obtain ⟨v,e1,r⟩:=Rps.got b (i:=i) (by simpa using e)
  exact ⟨v,by simpa using e1,r⟩
theorem Rps.append:∀ {vs:List V} {ds:List D} {ws:List V} {es:List D},Rps K ρ H vs ds→Rps K ρ H ws es→Rps K ρ H (vs ++ ws) (ds ++ es)
 | _,_,_,_,.nil,s=>s
 | _,_,_,_,.cons a b,s=>.cons a (Rps.append b s)
theorem Rps.one {v:V} {d:D} (r:Rp K ρ H v d):Rps K ρ H [v] [d]:=.cons r .nil
theorem Rps.take:∀ {vs:List V} {ds:List D} (n:Nat),Rps K ρ H vs ds→Rps K ρ H (vs.take n) (ds.take n)
 | _,_,0,_=>.nil
 | _,_,_ + 1,.nil=>.nil
 | _,_,n + 1,.cons r t=>.cons r (Rps.take n t)
theorem Rps.drop:∀ {vs:List V} {ds:List D} (n:Nat),Rps K ρ H vs ds→Rps K ρ H (vs.drop n) (ds.drop n)
 | _,_,0,r=>r
 | _,_,_ + 1,.nil=>.nil
 | _,_,n + 1,.cons _ t=>Rps.drop n t
theorem Rps.set {v:V} {d:D} (r:Rp K ρ H v d):∀ {vs:List V} {ds:List D} (i:Nat),Rps K ρ H vs ds→Rps K ρ H (vs.set i v) (ds.set i d)
 | _,_,_,.nil=>.nil
 | _,_,0,.cons _ t=>.cons r t
 | _,_,i + 1,.cons q t=>.cons q (Rps.set r i t)
theorem Rps.erase:∀ {vs:List V} {ds:List D} (i:Nat),Rps K ρ H vs ds→Rps K ρ H (vs.eraseIdx i) (ds.eraseIdx i)
 | _,_,_,.nil=>.nil
 | _,_,0,.cons _ t=>t
 | _,_,i + 1,.cons q t=>.cons q (Rps.erase i t)
theorem Rps.reverse:∀ {vs:List V} {ds:List D},Rps K ρ H vs ds→Rps K ρ H vs.reverse ds.reverse
 | _,_,.nil=>.nil
 | _,_,.cons r t=>by rw [List.reverse_cons,List.reverse_cons];exact (Rps.reverse t).append (.one r)
theorem Rps.flat {vs:List V} {ds:List D} (r:Rps K ρ H vs ds):∀ n:Nat,Rps K ρ H (List.replicate n vs).flatten (List.replicate n ds).flatten
 | 0=>.nil
 | n + 1=>by rw [List.replicate_succ,List.replicate_succ,List.flatten_cons,List.flatten_cons];exact r.append (r.flat n)
theorem Rps.ints:∀ (ns:List Int),Rps K ρ H (ns.map V.int) (ns.map D.int)
 | []=>.nil
 | n :: r=>.cons (.int n) (Rps.ints r)
end
noncomputable def Rs (K:PySem.W.Frag) (ρ:List Addr) (H:Hp) (σ:St) (δ:DSt):Prop:=σ.length=δ.length∧∀ (i:Nat) (d:D),δ[i]?=some (some d)→∃ v,σ[i]?=some (some v)∧Rp K ρ H v d
noncomputable def Rk (K:PySem.W.Frag) (ρ:List Addr) (H:Hp):List (Key×V)→List (Key×D)→Prop:=Paired fun p q=>p.1=q.1∧Rp K ρ H p.2 q.2
noncomputable def Ru (K:PySem.W.Frag) (ρ:List Addr) (H:Hp):List (List Int×D)→List (List Int×Addr×Value)→Prop:=Paired fun q x=>q.1=x.1∧SqT K H x.2.1 (x.1.map V.int)∧∃ v,RelV v x.2.2∧Rp K ρ H v q.2
noncomputable def RpO (K:PySem.W.Frag) (ρ:List Addr) (H:Hp) (a:Addr):O→Prop
 | .lst ds=>∃ vs,H a=some (.lst vs)∧Rps K ρ H vs ds
 | .fzn ds=>∃ vs,SqF K H a vs∧Rps K ρ H vs ds
 | .dct kvs=>∃ ws,H a=some (.dK ws)∧Rk K ρ H ws kvs
 | .dcu kvs=>∃ xs,H a=some (DU a xs)∧Ru K ρ H kvs xs
 | .rng lo hi=>H a=some (.rng lo hi)
noncomputable def O.mut:O→Bool
 | .fzn _=>false
 | _=>true
structure Rl (K:PySem.W.Frag) (ρ:List Addr) (H:Hp) (st:Store):Prop where
 len:ρ.length=st.length
 nd:∀ (i j:Nat) (a:Addr) (o o':O),ρ[i]?=some a→ρ[j]?=some a→st[i]?=some o→st[j]?=some o'→o.mut=true→o'.mut=true→i=j
 obj:∀ (i:Nat) (a:Addr) (o:O),ρ[i]?=some a→st[i]?=some o→RpO K ρ H a o
section
variable {K:PySem.W.Frag} {ρ ρ' ρ2:List Addr} {H H' H2:Hp} {st st':Store} {a p:Addr} {i:Nat} {o o':O} {ho:HO} {σ:St} {δ:DSt}
theorem Rs.mn (h:Rs K ρ H σ δ) (m:Mn K ρ H ρ' H'):Rs K ρ' H' σ δ:=⟨h.1,fun i d e=>let ⟨v,e1,r⟩:=h.2 i d e;⟨v,e1,r.mn m⟩⟩
theorem Rk.mn (m:Mn K ρ H ρ' H') {ws:List (Key×V)} {kvs:List (Key×D)} (h:Rk K ρ H ws kvs):Rk K ρ' H' ws kvs:=by
 induction h with
 | nil=>exact .nil
 | cons a _ ih=>exact .cons ⟨a.1,a.2.mn m⟩ ih
theorem Ru.mn (m:Mn K ρ H ρ' H') {kvs:List (List Int×D)} {xs:List (List Int×Addr×Value)} (h:Ru K ρ H kvs xs):Ru K ρ' H' kvs xs:=by
 induction h with
 | nil=>exact .nil
 | cons a _ ih=>obtain ⟨a1,a2,v,a3,a4⟩:=a;exact .cons ⟨a1,m.t _ _ a2,v,a3,a4.mn m⟩ ih
theorem RpO.keep (m:Mn K ρ H ρ' H') (h:∀ u,H a=some u→H' a=some u) (r:RpO K ρ H a o):RpO K ρ' H' a o:=by
 cases o with
 | lst ds=>obtain ⟨vs,e,q⟩:=r;exact ⟨vs,h _ e,q.mn m⟩
 | fzn ds =>
  obtain ⟨vs,e,q⟩:=r
  refine ⟨vs,?_,q.mn m⟩
  rcases e with ⟨u,e⟩ | e
  ·exact .inl ⟨u,h _ e⟩
  ·exact .inr e
 | dct kvs=>obtain ⟨ws,e,q⟩:=r;exact ⟨ws,h _ e,q.mn m⟩
 | dcu kvs=>obtain ⟨ws,e,q⟩:=r;exact ⟨ws,h _ e,q.mn m⟩
 | rng lo hi=>exact h _ r
theorem Mn.same (s:Same H H'):Mn K ρ H ρ H':=⟨fun _ _ h=>h,fun _ _ h=>(Kp.of_same (ch:=[]) s).sqT h⟩
theorem Rl.same (l:Rl K ρ H st) (s:Same H H'):Rl K ρ H' st:=⟨l.len,l.nd,fun i a o h1 h2=>(l.obj i a o h1 h2).keep (Mn.same s) fun u e=>s _ _ e⟩
theorem Rl.at (l:Rl K ρ H st) (h1:ρ[i]?=some a) (h2:st[i]?=some o) (hm:o.mut=true):∃ u,H a=some u∧∀ x y,u≠.frz x y:=by
 have r:=l.obj i a o h1 h2
 cases o with
 | lst ds=>obtain ⟨vs,e,_⟩:=r;exact ⟨_,e,fun x y z=>nomatch z⟩
 | fzn ds=>cases hm
 | dct kvs=>obtain ⟨ws,e,_⟩:=r;exact ⟨_,e,fun x y z=>nomatch z⟩
 | dcu kvs=>obtain ⟨ws,e,_⟩:=r;exact ⟨_,e,fun x y z=>by cases z⟩
 | rng lo hi=>exact ⟨_,r,fun x y z=>nomatch z⟩
theorem Mn.new (hp:H p=none):Mn K ρ H (ρ ++ [p]) (upd H p ho):=⟨fun i a h=>by
  obtain ⟨hi,_⟩:=List.getElem?_eq_some_iff.mp h
  rw [List.getElem?_append_left hi];exact h,fun _ _ h=>(Kp.of_same (ch:=[]) (Same.up hp)).sqT h⟩
theorem Rl.new (l:Rl K ρ H st) (hp:H p=none) (mk:RpO K (ρ ++ [p]) (upd H p ho) p o):Rl K (ρ ++ [p]) (upd H p ho) (st ++ [o]):=by
 have m:Mn K ρ H (ρ ++ [p]) (upd H p ho):=Mn.new hp
 have split:∀ (i:Nat) (a:Addr) (o':O),(ρ ++ [p])[i]?=some a→(st ++ [o])[i]?=some o'→(ρ[i]?=some a∧st[i]?=some o')∨(i=ρ.length∧a=p∧o'=o):=fun i a o' h1 h2=>by
  by_cases hi:i < ρ.length
  ·rw [List.getElem?_append_left hi] at h1
   rw [List.getElem?_append_left (by rw [← l.len];exact hi)] at h2
   exact .inl ⟨h1,h2⟩
  ·obtain ⟨hb,_⟩:=List.getElem?_eq_some_iff.mp h1
   rw [List.length_append,List.length_singleton] at hb
   have e:i=ρ.length:=by omega
   subst e
   rw [List.getElem?_append_right (Nat.le_refl _),Nat.sub_self] at h1
   rw [l.len,List.getElem?_append_right (Nat.le_refl _),Nat.sub_self] at h2
   exact .inr ⟨rfl,(Option.some.inj h1).symm,(Option.some.inj h2).symm⟩
 refine ⟨by rw [List.length_append,List.length_append,l.len];rfl,fun i j a u u' h1 h2 h3 h4 m1 m2=>?_,fun i a u h1 h2=>?_⟩
 ·rcases split i a u h1 h3 with ⟨g1,g2⟩ | ⟨rfl,rfl,rfl⟩ <;> rcases split j _ u' h2 h4 with ⟨k1,k2⟩ | ⟨k1,k2,k3⟩
  ·exact l.nd i j a u u' g1 k1 g2 k2 m1 m2
  ·subst k2
   obtain ⟨w,e,_⟩:=l.at g1 g2 m1
   rw [e] at hp;cases hp
  ·obtain ⟨w,e,_⟩:=l.at k1 k2 m2
   rw [e] at hp;cases hp
  ·exact k1.symm
 ·rcases split i a u h1 h2 with ⟨g1,g2⟩ | ⟨rfl,rfl,rfl⟩
  ·exact (l.obj i a u g1 g2).keep m fun w e=>Same.up hp _ _ e
  ·exact mk
theorem Rl.put (l:Rl K ρ H st) (hi:ρ[i]?=some a) (hs:st[i]?=some o) (hm:o.mut=true) (hm':o'.mut=true) (m:Mn K ρ H ρ (upd H a ho)) (r:RpO K ρ (upd H a ho) a o'):Rl K ρ (upd H a ho) (st.set i o'):=by
 obtain ⟨w,ew,nf⟩:=l.at hi hs hm
 have ils:i < st.length:=(List.getElem?_eq_some_iff.mp hs).1
 have old:∀ (j:Nat) (u:O),(st.set i o')[j]?=some u→(j=i∧u=o')∨(j≠i∧st[j]?=some u):=fun j u h=>by
  by_cases hj:i=j
  ·subst hj
   rw [List.getElem?_set_self ils] at h
   exact .inl ⟨rfl,(Option.some.inj h).symm⟩
  ·rw [List.getElem?_set_ne hj] at h
   exact .inr ⟨fun z=>hj z.symm,h⟩
 refine ⟨by rw [List.length_set];exact l.len,fun j k b u u' h1 h2 h3 h4 m1 m2=>?_,fun j b u h1 h2=>?_⟩
 ·rcases old j u h3 with ⟨rfl,rfl⟩ | ⟨nj,g3⟩ <;> rcases old k u' h4 with ⟨rfl,rfl⟩ | ⟨nk,g4⟩
  ·rfl
  ·exact l.nd _ _ b o u' h1 h2 hs g4 hm m2
  ·exact l.nd _ _ b u o h1 h2 g3 hs m1 hm
  ·exact l.nd _ _ b u u' h1 h2 g3 g4 m1 m2
 ·rcases old j u h2 with ⟨rfl,rfl⟩ | ⟨nj,g2⟩
  ·rw [hi] at h1;cases h1;exact r
  ·by_cases hb:b=a
   ·subst hb
    cases u with
    | fzn ds =>
     obtain ⟨vs,e,q⟩:=l.obj j b _ h1 g2
     refine ⟨vs,?_,q.mn m⟩
     rcases e with ⟨x,e⟩ | e
     ·rw [ew] at e;cases e;exact absurd rfl (nf _ _)
     ·exact .inr e
    | lst ds=>exact absurd (l.nd j i b _ o h1 hi g2 hs rfl hm) nj
    | dcu ds=>exact absurd (l.nd j i b _ o h1 hi g2 hs rfl hm) nj
    | dct ds=>exact absurd (l.nd j i b _ o h1 hi g2 hs rfl hm) nj
    | rng lo up=>exact absurd (l.nd j i b _ o h1 hi g2 hs rfl hm) nj
   ·exact (l.obj j b u h1 g2).keep m fun w e=>by rw [zaj hb];exact e
theorem Mn.put {xs:List V} (e:H a=some (.lst xs)):Mn K ρ H ρ (upd H a ho):=⟨fun _ _ h=>h,fun b vs h=>(Kp.put (ch:=[a]) (o:=ho) Kp.refl (by simp) e).sqT h⟩
theorem Mn.putD {ws:List (Key×V)} (e:H a=some (.dK ws)):Mn K ρ H ρ (upd H a ho):=⟨fun _ _ h=>h,fun b vs q=>by
 have ne:∀ u,H b=some u→(∀ w,u≠.dK w)→b≠a:=fun u hu n z=>by rw [z,e] at hu;cases hu;exact n _ rfl
 rcases q with (q | ⟨o,q⟩) | q
 ·exact .inl (.inl (by rw [zaj (ne _ q fun w z=>nomatch z)];exact q))
 ·exact .inl (.inr ⟨o,by rw [zaj (ne _ q fun w z=>nomatch z)];exact q⟩)
 ·exact .inr q⟩
theorem Rl.newL {vs:List V} {ds:List D} (l:Rl K ρ H st) (hp:H p=none) (r:Rps K ρ H vs ds):Rl K (ρ ++ [p]) (upd H p (.lst vs)) (st ++ [.lst ds]):=l.new hp ⟨vs,zao,r.mn (Mn.new hp)⟩
theorem Rl.newD {vs:List (Key×V)} {ds:List (Key×D)} (l:Rl K ρ H st) (hp:H p=none) (r:Rk K ρ H vs ds):Rl K (ρ ++ [p]) (upd H p (.dK vs)) (st ++ [.dct ds]):=l.new hp ⟨vs,zao,r.mn (Mn.new hp)⟩
theorem newR (l:Rl K ρ H st) (v:D:=.ref st.length):(ρ ++ [p])[st.length]?=some p:=by rw [← l.len,List.getElem?_append_right (Nat.le_refl _),Nat.sub_self];rfl
theorem Rl.putL {vs:List V} {ds xs:List D} (l:Rl K ρ H st) (hi:ρ[i]?=some a) (hs:st[i]?=some (.lst xs)) (r:Rps K ρ H vs ds):Rl K ρ (upd H a (.lst vs)) (st.set i (.lst ds))∧Mn K ρ H ρ (upd H a (.lst vs)):=by
 obtain ⟨ws,e,_⟩:=l.obj i a _ hi hs
 have m:Mn K ρ H ρ (upd H a (.lst vs)):=Mn.put e
 exact ⟨l.put hi hs rfl rfl m ⟨vs,zao,r.mn m⟩,m⟩
theorem Rl.putDct {vs:List (Key×V)} {ds xs:List (Key×D)} (l:Rl K ρ H st) (hi:ρ[i]?=some a) (hs:st[i]?=some (.dct xs)) (r:Rk K ρ H vs ds):Rl K ρ (upd H a (.dK vs)) (st.set i (.dct ds))∧Mn K ρ H ρ (upd H a (.dK vs)):=by
 obtain ⟨ws,e,_⟩:=l.obj i a _ hi hs
 have m:Mn K ρ H ρ (upd H a (.dK vs)):=Mn.putD e
 exact ⟨l.put hi hs rfl rfl m ⟨vs,zao,r.mn m⟩,m⟩
theorem Mn.putE {φ:Heap→Prop} (e:H a=some (.ext φ)):Mn K ρ H ρ (upd H a ho):=⟨fun _ _ h=>h,fun b vs q=>by
 have ne:∀ u,H b=some u→(∀ w,u≠.ext w)→b≠a:=fun u hu n z=>by rw [z,e] at hu;cases hu;exact n _ rfl
 rcases q with (q | ⟨o,q⟩) | q
 ·exact .inl (.inl (by rw [zaj (ne _ q fun w z=>nomatch z)];exact q))
 ·exact .inl (.inr ⟨o,by rw [zaj (ne _ q fun w z=>nomatch z)];exact q⟩)
 ·exact .inr q⟩
theorem Rl.putU {vs:List (List Int×Addr×Value)} {ds xs:List (List Int×D)} (l:Rl K ρ H st) (hi:ρ[i]?=some a) (hs:st[i]?=some (.dcu xs)) (r:Ru K ρ H ds vs):Rl K ρ (upd H a (DU a vs)) (st.set i (.dcu ds))∧Mn K ρ H ρ (upd H a (DU a vs)):=by
 obtain ⟨ws,e,_⟩:=l.obj i a _ hi hs
 have m:Mn K ρ H ρ (upd H a (DU a vs)):=Mn.putE e
 exact ⟨l.put hi hs rfl rfl m ⟨vs,zao,r.mn m⟩,m⟩
noncomputable def items (st:Store) (i:Nat):Option (List D):=match st[i]? with
 | some (.lst ds)=>some ds
 | some (.fzn ds)=>some ds
 | _=>none
theorem Rl.items {ds:List D} (l:Rl K ρ H st) (hi:ρ[i]?=some a) (h:items st i=some ds):∃ vs,SqL K H a vs∧Rps K ρ H vs ds:=by
 unfold L4.items at h
 split at h
 ·next ds' hs=>cases h;obtain ⟨vs,e,r⟩:=l.obj i a _ hi hs;exact ⟨vs,.inl (.inl e),r⟩
 ·next ds' hs=>cases h;obtain ⟨vs,e,r⟩:=l.obj i a _ hi hs;exact ⟨vs,e.sq,r⟩
 ·cases h
end
noncomputable def So (K:PySem.W.Frag) {α β:Type} (R:List Addr→Hp→α→β→Prop) (t:St→Hp→(α→Hp→Prop)→Prop) (f:DSt→Dm β):Prop :=
 ∀ (ρ:List Addr) (σ:St) (H:Hp) (δ:DSt) (st:Store) (b:β) (st':Store) (Q:α→Hp→Prop),Rl K ρ H st→Rs K ρ H σ δ→f δ st=some (b,st') →
  (∀ a H' ρ',Mn K ρ H ρ' H'→Rl K ρ' H' st'→R ρ' H' a b→Q a H')→t σ H Q
abbrev SoE (K:PySem.W.Frag) (t:TE) (f:DSt→Dm D):Prop:=So K (Rp K) t f
abbrev SoT (K:PySem.W.Frag) (t:TT) (f:DSt→Dm Bool):Prop:=So K (fun _ _=>Eq) t f
abbrev SoA (K:PySem.W.Frag) (t:TA) (f:DSt→Dm (List D)):Prop:=So K (Rps K) t f
abbrev SoO (K:PySem.W.Frag) (t:TO) (f:DSt→Dm (Option Int)):Prop:=So K (fun _ _=>Eq) t f
noncomputable def So1 (K:PySem.W.Frag) (r:V→Hp→VK→Prop) (g:D→Dm D):Prop :=
 ∀ (ρ:List Addr) (H:Hp) (st:Store) (x:V) (a:D) (b:D) (st':Store) (Q:VK),Rl K ρ H st→Rp K ρ H x a→g a st=some (b,st')→(∀ v H' ρ',Mn K ρ H ρ' H'→Rl K ρ' H' st'→Rp K ρ' H' v b→Q v H')→r x H Q
noncomputable def So2 (K:PySem.W.Frag) (r:R2) (g:D→D→Dm D):Prop :=
 ∀ (ρ:List Addr) (H:Hp) (st:Store) (x y:V) (a c:D) (b:D) (st':Store) (Q:VK),Rl K ρ H st→Rp K ρ H x a→Rp K ρ H y c→g a c st=some (b,st')→(∀ v H' ρ',Mn K ρ H ρ' H'→Rl K ρ' H' st'→Rp K ρ' H' v b→Q v H')→r x y H Q
noncomputable def SoC (K:PySem.W.Frag) (r:List V→Hp→VK→Prop) (g:List D→Dm D):Prop :=
 ∀ (ρ:List Addr) (H:Hp) (st:Store) (xs:List V) (as:List D) (b:D) (st':Store) (Q:VK),Rl K ρ H st→Rps K ρ H xs as→g as st=some (b,st')→(∀ v H' ρ',Mn K ρ H ρ' H'→Rl K ρ' H' st'→Rp K ρ' H' v b→Q v H')→r xs H Q
noncomputable def SoM (K:PySem.W.Frag) (T:String) (r:V→List V→Hp→VK→Prop) (g:D→List D→Dm D):Prop :=
 ∀ (ρ:List Addr) (H:Hp) (st:Store) (x:V) (xs:List V) (a:D) (as:List D) (b:D) (st':Store) (Q:VK),Rl K ρ H st→Rp K ρ H x a→Rps K ρ H xs as→g a as st=some (b,st')→(∀ v H' ρ',Mn K ρ H ρ' H'→Rl K ρ' H' st'→Rp K ρ' H' v b→Q v H')→r x xs H Q
noncomputable def bnd {α β:Type} (m:Option (α×Store)) (k:α→Dm β):Option (β×Store):=match m with
 | some (a,st)=>k a st
 | none=>none
theorem xac {α β:Type} {m:Option (α×Store)} {k:α→Dm β} {r:β×Store} (h:bnd m k=some r):∃ a st,m=some (a,st)∧k a st=some r:=by
 cases m with
 | none=>cases h
 | some p=>exact ⟨p.1,p.2,rfl,h⟩
section
variable {K:PySem.W.Frag}
noncomputable def fVar (i:Nat):DSt→Dm D:=fun δ st=>match δ[i]? with
 | some (some d)=>some (d,st)
 | _=>none
theorem Zaa (i:Nat):SoE K (tVar i) (fVar i):=by
 intro ρ σ H δ st b st' Q l rs e q
 unfold fVar at e
 split at e
 ·next d hd=>cases e;obtain ⟨v,ev,r⟩:=rs.2 i _ hd;exact ⟨v,ev,q v H ρ .refl l r⟩
 ·cases e
noncomputable def fC (d:D):DSt→Dm D:=fun _ st=>some (d,st)
theorem so_c {v:V} {d:D} (h:∀ ρ H,Rp K ρ H v d):SoE K (tC v) (fC d):=by
 intro ρ σ H δ st b st' Q l rs e q
 cases e
 exact q v H ρ .refl l (h ρ H)
theorem Xac (i:Int):SoE K (tC (.int i)) (fC (.int i)):=so_c fun _ _=>.int i
theorem zbK (b:Bool):SoE K (tC (.bl b)) (fC (.bl b)):=so_c fun _ _=>.bl b
theorem Xbh (x:Str):SoE K (tC (.str x)) (fC (.str x)):=so_c fun _ _=>.str x
noncomputable def fOp (g:D→D→Dm D) (fa fb:DSt→Dm D):DSt→Dm D:=fun δ st=>bnd (fa δ st) fun a st1=>bnd (fb δ st1) fun b st2=>g a b st2
theorem Zac {r:R2} {g:D→D→Dm D} {ta tb:TE} {fa fb:DSt→Dm D} (hr:So2 K r g) (ha:SoE K ta fa) (hb:SoE K tb fb):SoE K (tOp r ta tb) (fOp g fa fb):=by
 intro ρ σ H δ st b st' Q l rs e q
 obtain ⟨a,st1,e1,e⟩:=xac e
 obtain ⟨c,st2,e2,e⟩:=xac e
 refine ha ρ σ H δ st a st1 _ l rs e1 fun x H1 ρ1 m1 l1 r1=>hb ρ1 σ H1 δ st1 c st2 _ l1 (rs.mn m1) e2 fun y H2 ρ2 m2 l2 r2=>?_
 exact hr ρ2 H2 st2 x y a c b st' Q l2 (r1.mn m2) r2 e fun v H3 ρ3 m3 l3 r3=>q v H3 ρ3 ((m1.trans m2).trans m3) l3 r3
noncomputable def fUn (g:D→Dm D) (fa:DSt→Dm D):DSt→Dm D:=fun δ st=>bnd (fa δ st) fun a st1=>g a st1
theorem ya3 {r:V→Hp→VK→Prop} {g:D→Dm D} {ta:TE} {fa:DSt→Dm D} (hr:So1 K r g) (ha:SoE K ta fa):SoE K (tUn r ta) (fUn g fa):=by
 intro ρ σ H δ st b st' Q l rs e q
 obtain ⟨a,st1,e1,e⟩:=xac e
 exact ha ρ σ H δ st a st1 _ l rs e1 fun x H1 ρ1 m1 l1 r1=>hr ρ1 H1 st1 x a b st' Q l1 r1 e fun v H3 ρ3 m3 l3 r3=>q v H3 ρ3 (m1.trans m3) l3 r3
theorem so_un' {r:V→Hp→VK→Prop} {g:D→Dm D} {ta:TE} {fa:DSt→Dm D} (hr:So1 K r g) (ha:SoE K ta fa):SoE K (fun σ H Q=>ta σ H fun x H1=>r x H1 Q) (fUn g fa):=ya3 hr ha
noncomputable def fNil:DSt→Dm (List D):=fun _ st=>some ([],st)
noncomputable def fCons (fa:DSt→Dm D) (fr:DSt→Dm (List D)):DSt→Dm (List D):=fun δ st=>bnd (fa δ st) fun a st1=>bnd (fr δ st1) fun r st2=>some (a :: r,st2)
theorem Xaa:SoA K tNil fNil:=by
 intro ρ σ H δ st b st' Q l rs e q
 cases e
 exact q [] H ρ .refl l .nil
theorem yaa {ta:TE} {tr:TA} {fa:DSt→Dm D} {fr:DSt→Dm (List D)} (ha:SoE K ta fa) (hr:SoA K tr fr):SoA K (tCons ta tr) (fCons fa fr):=by
 intro ρ σ H δ st b st' Q l rs e q
 obtain ⟨a,st1,e1,e⟩:=xac e
 obtain ⟨c,st2,e2,e⟩:=xac e
 cases e
 exact ha ρ σ H δ st a st1 _ l rs e1 fun x H1 ρ1 m1 l1 r1=>hr ρ1 σ H1 δ st1 c _ _ l1 (rs.mn m1) e2 fun y H2 ρ2 m2 l2 r2=>q _ H2 ρ2 (m1.trans m2) l2 (.cons (r1.mn m2) r2)
noncomputable def lim (n:Nat):Bool:=Nat.ble n 100000
theorem Ya0 {n:Nat} (h:lim n=true):n≤sizeLine:=Nat.le_trans (Nat.le_of_ble_eq_true h) (by decide)
theorem ybs {n:Nat} (h:lim n=true):n < sizeLine:=Nat.lt_of_le_of_lt (Nat.le_of_ble_eq_true h) (by decide)
noncomputable def fTup (fa:DSt→Dm (List D)):DSt→Dm D:=fun δ st=>bnd (fa δ st) fun as st1=>if lim as.length=true then some (.tup as,st1) else none
theorem XaA {ta:TA} {fa:DSt→Dm (List D)} (ha:SoA K ta fa):SoE K (tTup ta) (fTup fa):=by
 intro ρ σ H δ st b st' Q l rs e q
 obtain ⟨as,st1,e1,e⟩:=xac e
 split at e
 ·next hl =>
  cases e
  refine ha ρ σ H δ st as _ _ l rs e1 fun xs H1 ρ1 m1 l1 r1=>⟨by rw [r1.length];exact Ya0 hl,fun p hp=>?_⟩
  have m2:Mn K ρ1 H1 ρ1 (upd H1 p (.tup xs)):=Mn.same (Same.up hp)
  exact q _ _ ρ1 (m1.trans m2) (l1.same (Same.up hp)) (.tup (SqT.of zao) (r1.mn m2))
 ·cases e
noncomputable def fLst (fa:DSt→Dm (List D)):DSt→Dm D:=fun δ st=>bnd (fa δ st) fun as st1=>if lim as.length=true then some (.ref st1.length,st1 ++ [.lst as]) else none
theorem Yan {ta:TA} {fa:DSt→Dm (List D)} (ha:SoA K ta fa):SoE K (tLst ta) (fLst fa):=by
 intro ρ σ H δ st b st' Q l rs e q
 obtain ⟨as,st1,e1,e⟩:=xac e
 split at e
 ·next hl =>
  cases e
  refine ha ρ σ H δ st as _ _ l rs e1 fun xs H1 ρ1 m1 l1 r1=>⟨by rw [r1.length];exact Ya0 hl,fun p hp=>?_⟩
  exact q _ _ _ (m1.trans (Mn.new hp)) (l1.newL hp r1) (.ref (newR l1))
 ·cases e
noncomputable def fTest (fa:DSt→Dm D):DSt→Dm Bool:=fun δ st=>bnd (fa δ st) fun a st1=>match a with
 | .bl b=>some (b,st1)
 | _=>none
theorem Xag {ta:TE} {fa:DSt→Dm D} (ha:SoE K ta fa):SoT K (tTest ta) (fTest fa):=by
 intro ρ σ H δ st b st' Q l rs e q
 obtain ⟨a,st1,e1,e⟩:=xac e
 cases a <;> simp at e
 obtain ⟨rfl,rfl⟩:=e
 refine ha ρ σ H δ st _ _ _ l rs e1 fun x H1 ρ1 m1 l1 r1=>?_
 cases r1
 exact ⟨_,rfl,q _ H1 ρ1 m1 l1 rfl⟩
theorem ybK {ta:TE} {fa:DSt→Dm D} (ha:SoE K ta fa):SoT K (tB ta) (fTest fa):=Xag ha
noncomputable def fNot (fa:DSt→Dm Bool):DSt→Dm Bool:=fun δ st=>bnd (fa δ st) fun a st1=>some (!a,st1)
theorem so_not {ta:TT} {fa:DSt→Dm Bool} (ha:SoT K ta fa):SoT K (tNot ta) (fNot fa):=by
 intro ρ σ H δ st b st' Q l rs e q
 obtain ⟨a,st1,e1,e⟩:=xac e
 cases e
 exact ha ρ σ H δ st _ _ _ l rs e1 fun x H1 ρ1 m1 l1 r1=>q _ H1 ρ1 m1 l1 (by rw [r1])
noncomputable def fAnd (fa fb:DSt→Dm Bool):DSt→Dm Bool:=fun δ st=>bnd (fa δ st) fun a st1=>if a=true then fb δ st1 else some (false,st1)
noncomputable def fOr (fa fb:DSt→Dm Bool):DSt→Dm Bool:=fun δ st=>bnd (fa δ st) fun a st1=>if a=true then some (true,st1) else fb δ st1
theorem so_and {ta tb:TT} {fa fb:DSt→Dm Bool} (ha:SoT K ta fa) (hb:SoT K tb fb):SoT K (tAnd ta tb) (fAnd fa fb):=by
 intro ρ σ H δ st b st' Q l rs e q
 obtain ⟨a,st1,e1,e⟩:=xac e
 refine ha ρ σ H δ st _ _ _ l rs e1 fun x H1 ρ1 m1 l1 r1=>?_
 subst r1
 cases x with
 | true =>
  refine iteT ?_
  rw [if_pos rfl] at e
  exact hb ρ1 σ H1 δ st1 b st' _ l1 (rs.mn m1) e fun y H2 ρ2 m2 l2 r2=>q y H2 ρ2 (m1.trans m2) l2 r2
 | false =>
  refine iteF ?_
  rw [if_neg Bool.false_ne_true] at e
  cases e
  exact q _ H1 ρ1 m1 l1 rfl
theorem so_or {ta tb:TT} {fa fb:DSt→Dm Bool} (ha:SoT K ta fa) (hb:SoT K tb fb):SoT K (tOr ta tb) (fOr fa fb):=by
 intro ρ σ H δ st b st' Q l rs e q
 obtain ⟨a,st1,e1,e⟩:=xac e
 refine ha ρ σ H δ st _ _ _ l rs e1 fun x H1 ρ1 m1 l1 r1=>?_
 subst r1
 cases x with
 | false =>
  refine iteF ?_
  rw [if_neg Bool.false_ne_true] at e
  exact hb ρ1 σ H1 δ st1 b st' _ l1 (rs.mn m1) e fun y H2 ρ2 m2 l2 r2=>q y H2 ρ2 (m1.trans m2) l2 r2
 | true =>
  refine iteT ?_
  rw [if_pos rfl] at e
  cases e
  exact q _ H1 ρ1 m1 l1 rfl
noncomputable def fAndV (fa fb:DSt→Dm D):DSt→Dm D:=fun δ st=>bnd (fTest fa δ st) fun a st1=>if a=true then fb δ st1 else some (.bl false,st1)
noncomputable def fOrV (fa fb:DSt→Dm D):DSt→Dm D:=fun δ st=>bnd (fTest fa δ st) fun a st1=>if a=true then some (.bl true,st1) else fb δ st1
noncomputable def fNotV (fa:DSt→Dm D):DSt→Dm D:=fun δ st=>bnd (fTest fa δ st) fun a st1=>some (.bl (!a),st1)
noncomputable def fIf {β:Type} (c:DSt→Dm Bool) (fa fb:DSt→Dm β):DSt→Dm β:=fun δ st=>bnd (c δ st) fun a st1=>if a=true then fa δ st1 else fb δ st1
noncomputable def fNoPart:DSt→Dm (Option Int):=fun _ st=>some (none,st)
noncomputable def fPart (fa:DSt→Dm D):DSt→Dm (Option Int):=fun δ st=>bnd (fa δ st) fun a st1=>match a with
 | .int i=>some (some i,st1)
 | _=>none
theorem zbi:SoO K tNoPart fNoPart:=by
 intro ρ σ H δ st b st' Q l rs e q
 cases e
 exact q _ H ρ .refl l rfl
theorem ZbK {ta:TE} {fa:DSt→Dm D} (ha:SoE K ta fa):SoO K (tPart ta) (fPart fa):=by
 intro ρ σ H δ st b st' Q l rs e q
 obtain ⟨a,st1,e1,e⟩:=xac e
 cases a <;> simp at e
 obtain ⟨rfl,rfl⟩:=e
 refine ha ρ σ H δ st _ _ _ l rs e1 fun x H1 ρ1 m1 l1 r1=>?_
 cases r1
 exact ⟨_,rfl,q _ H1 ρ1 m1 l1 rfl⟩
noncomputable def SoS3 (K:PySem.W.Frag) (r:V→Option Int→Option Int→Hp→VK→Prop) (g:D→Option Int→Option Int→Dm D):Prop :=
 ∀ lo hi,So1 K (fun x=>r x lo hi) (fun a=>g a lo hi)
noncomputable def fSl (g:D→Option Int→Option Int→Dm D) (fa:DSt→Dm D) (fl fh:DSt→Dm (Option Int)):DSt→Dm D:=fun δ st=>bnd (fa δ st) fun a st1=>bnd (fl δ st1) fun lo st2=>bnd (fh δ st2) fun hi st3=>g a lo hi st3
theorem so_sl {r:V→Option Int→Option Int→Hp→VK→Prop} {g:D→Option Int→Option Int→Dm D} {ta:TE} {tl th:TO} {fa:DSt→Dm D} {fl fh:DSt→Dm (Option Int)} (hr:SoS3 K r g) (ha:SoE K ta fa) (hl:SoO K tl fl) (hh:SoO K th fh):SoE K (tSl r ta tl th) (fSl g fa fl fh):=by
 intro ρ σ H δ st b st' Q l rs e q
 obtain ⟨a,st1,e1,e⟩:=xac e
 obtain ⟨lo,st2,e2,e⟩:=xac e
 obtain ⟨hi,st3,e3,e⟩:=xac e
 refine ha ρ σ H δ st a st1 _ l rs e1 fun x H1 ρ1 m1 l1 r1=>hl ρ1 σ H1 δ st1 lo st2 _ l1 (rs.mn m1) e2 fun y H2 ρ2 m2 l2 r2=>hh ρ2 σ H2 δ st2 hi st3 _ l2 (rs.mn (m1.trans m2)) e3 fun z H3 ρ3 m3 l3 r3=>?_
 subst r2 r3
 exact hr y z ρ3 H3 st3 x a b st' Q l3 (r1.mn (m2.trans m3)) e fun v H4 ρ4 m4 l4 r4=>q v H4 ρ4 (((m1.trans m2).trans m3).trans m4) l4 r4
noncomputable def fCB (g:List D→Dm D) (fa:DSt→Dm (List D)):DSt→Dm D:=fun δ st=>bnd (fa δ st) fun as st1=>g as st1
theorem zag {r:List V→Hp→VK→Prop} {g:List D→Dm D} {ta:TA} {fa:DSt→Dm (List D)} (hr:SoC K r g) (ha:SoA K ta fa):SoE K (tCB r ta) (fCB g fa):=by
 intro ρ σ H δ st b st' Q l rs e q
 obtain ⟨as,st1,e1,e⟩:=xac e
 exact ha ρ σ H δ st as st1 _ l rs e1 fun x H1 ρ1 m1 l1 r1=>hr ρ1 H1 st1 x as b st' Q l1 r1 e fun v H3 ρ3 m3 l3 r3=>q v H3 ρ3 (m1.trans m3) l3 r3
noncomputable def spF (K:PySem.W.Frag) (n:Nat) (F:List D→Dm D):Sp:=fun vs H Q _=>vs.length=n∧∃ (ρ:List Addr) (st:Store) (ds:List D) (b:D) (st':Store),Rl K ρ H st∧Rps K ρ H vs ds∧F ds st=some (b,st') ∧
 ∀ v H' ρ',Mn K ρ H ρ' H'→Rl K ρ' H' st'→Rp K ρ' H' v b→Q v H'
theorem yaf {n:Nat} {F:List D→Dm D} {ta:TA} {fa:DSt→Dm (List D)} {E:XK} (ha:SoA K ta fa) (hn:∀ δ st as st',fa δ st=some (as,st')→as.length=n):SoE K (tCall (spF K n F) [] E ta) (fCB F fa):=by
 intro ρ σ H δ st b st' Q l rs e q
 obtain ⟨as,st1,e1,e⟩:=xac e
 refine ha ρ σ H δ st as st1 _ l rs e1 fun vs H1 ρ1 m1 l1 r1=>⟨?_,ρ1,st1,as,b,st',l1,?_,e,fun v H3 ρ3 m3 l3 r3=>q v H3 ρ3 (m1.trans m3) l3 r3⟩
 ·rw [List.append_nil,r1.length];exact hn _ _ _ _ e1
 ·rw [List.append_nil];exact r1
theorem Zaf {δ:DSt} {st st':Store} {as:List D} (h:fNil δ st=some (as,st')):as.length=0:=by cases h;rfl
theorem xab {fa:DSt→Dm D} {fr:DSt→Dm (List D)} {n:Nat} (hr:∀ δ st as st',fr δ st=some (as,st')→as.length=n):∀ δ st as st',fCons fa fr δ st=some (as,st')→as.length=n + 1:=fun δ st as st' h=>by
 obtain ⟨a,st1,e1,e⟩:=xac h
 obtain ⟨c,st2,e2,e⟩:=xac e
 cases e
 rw [List.length_cons,hr _ _ _ _ e2]
end
end L4
namespace L4
open PySem PySem.Spec L2
section
variable {K:PySem.W.Frag}
noncomputable def gI0 (h:Int→Int→D):D→D→Dm D
 | .int i,.int j,st=>some (h i j,st)
 | _,_,_=>none
theorem YbK {gv:Int→Int→V} {h:Int→Int→D} (hh:∀ i j ρ H,Rp K ρ H (gv i j) (h i j)):So2 K (rI0 gv) (gI0 h):=by
 intro ρ H st x y a c b st' Q l rx ry e q
 unfold gI0 at e
 split at e
 ·cases e;cases rx;cases ry;exact ⟨_,_,rfl,rfl,q _ H ρ .refl l (hh _ _ ρ H)⟩
 ·cases e
noncomputable def gIC (c:Int→Int→Bool) (h:Int→Int→D):D→D→Dm D
 | .int i,.int j,st=>if c i j=true then some (h i j,st) else none
 | _,_,_=>none
theorem ZbV {C:Int→Int→Prop} {c:Int→Int→Bool} {gv:Int→Int→V} {h:Int→Int→D} (hc:∀ i j,c i j=true→C i j) (hh:∀ i j ρ H,Rp K ρ H (gv i j) (h i j)):So2 K (rI C gv) (gIC c h):=by
 intro ρ H st x y a d b st' Q l rx ry e q
 unfold gIC at e
 split at e
 ·split at e
  ·next hcc=>cases e;cases rx;cases ry;exact ⟨_,_,rfl,rfl,hc _ _ hcc,q _ H ρ .refl l (hh _ _ ρ H)⟩
  ·cases e
 ·cases e
noncomputable def gAdd:D→D→Dm D:=gI0 fun i j=>.int (i + j)
noncomputable def gSub:D→D→Dm D:=gI0 fun i j=>.int (i - j)
noncomputable def gMul:D→D→Dm D:=gIC (fun i j=>decide (-18446744073709551616 < i∧i < 18446744073709551616) || decide (-18446744073709551616 < j∧j < 18446744073709551616)) fun i j=>.int (i * j)
noncomputable def gFdiv:D→D→Dm D:=gIC (fun i j=>decide (0 < j∧j < 1073741824)) fun i j=>.int (i / j)
noncomputable def gMod:D→D→Dm D:=gIC (fun i j=>decide (0 < j)) fun i j=>.int (i % j)
noncomputable def gPow:D→D→Dm D:=gIC (fun i j=>decide (0≤j∧j≤1000000∧i.natAbs < 18446744073709551616)) fun i j=>.int (i ^ j.toNat)
noncomputable def gLt:D→D→Dm D:=gI0 fun i j=>.bl (decide (i < j))
noncomputable def gLe:D→D→Dm D:=gI0 fun i j=>.bl (decide (i≤j))
noncomputable def gGt:D→D→Dm D:=gI0 fun i j=>.bl (decide (j < i))
noncomputable def gGe:D→D→Dm D:=gI0 fun i j=>.bl (decide (j≤i))
theorem yaw:So2 K (rI0 fun i j=>.int (i + j)) gAdd:=YbK fun _ _ _ _=>.int _
theorem Zbs:So2 K (rI0 fun i j=>.int (i - j)) gSub:=YbK fun _ _ _ _=>.int _
theorem yaR:So2 K (rI CMul fun i j=>.int (i * j)) gMul:=ZbV (fun i j h=>by
 rw [Bool.or_eq_true,decide_eq_true_eq,decide_eq_true_eq] at h
 exact h) fun _ _ _ _=>.int _
theorem Zbn:So2 K (rI CDiv fun i j=>.int (i / j)) gFdiv:=ZbV (fun i j h=>of_decide_eq_true (p:=0 < j∧j < 1073741824) h) fun _ _ _ _=>.int _
theorem ZaH:So2 K (rI (fun _ j=>0 < j) fun i j=>.int (i % j)) gMod:=ZbV (fun i j h=>of_decide_eq_true h) fun _ _ _ _=>.int _
theorem zb2:So2 K (rI CPow fun i j=>.int (i ^ j.toNat)) gPow:=ZbV (fun i j h=>by have h:=of_decide_eq_true (p:=0≤j∧j≤1000000∧i.natAbs < 18446744073709551616) h;exact ⟨h.1,h.2.1,by omega⟩) fun _ _ _ _=>.int _
theorem so_lt:So2 K (rI0 fun i j=>.bl (decide (i < j))) gLt:=YbK fun _ _ _ _=>.bl _
theorem so_gt:So2 K (rI0 fun i j=>.bl (decide (j < i))) gGt:=YbK fun _ _ _ _=>.bl _
theorem so_ge:So2 K (rI0 fun i j=>.bl (decide (j≤i))) gGe:=YbK fun _ _ _ _=>.bl _
noncomputable def gNeg:D→Dm D
 | .int i,st=>some (.int (-i),st)
 | _,_=>none
theorem yaU:So1 K (rU fun i=>.int (-i)) gNeg:=by
 intro ρ H st x a b st' Q l rx e q
 unfold gNeg at e
 split at e
 ·cases e;cases rx;exact ⟨_,rfl,q _ H ρ .refl l (.int _)⟩
 ·cases e
noncomputable def sV:D→Option V
 | .non=>some .non
 | .bl b=>some (.bl b)
 | .int i=>some (.int i)
 | .str x=>some (.str x)
 | _=>none
theorem Yby {ρ:List Addr} {H:Hp} {x v:V} {a:D} (r:Rp K ρ H x a) (h:sV a=some v):x=v:=by
 cases r <;> first | (cases h;rfl) | cases h
noncomputable def gEq (neg:Bool):D→D→Dm D:=fun a b st=>match sV a,sV b with
 | some x,some y=>if scal x y=true then some (.bl (if neg then !decide (x=y) else decide (x=y)),st) else none
 | _,_=>none
theorem xa9:So2 K rEq (gEq false):=by
 intro ρ H st x y a c b st' Q l rx ry e q
 unfold gEq at e
 split at e
 ·next u v h1 h2 =>
  split at e
  ·next hs=>cases e;cases Yby rx h1;cases Yby ry h2;exact ⟨hs,q _ H ρ .refl l (.bl _)⟩
  ·cases e
 ·cases e
theorem xby:So2 K rNe (gEq true):=by
 intro ρ H st x y a c b st' Q l rx ry e q
 unfold gEq at e
 split at e
 ·next u v h1 h2 =>
  split at e
  ·next hs=>cases e;cases Yby rx h1;cases Yby ry h2;exact ⟨hs,q _ H ρ .refl l (.bl _)⟩
  ·cases e
 ·cases e
noncomputable def mapO {α β:Type} (f:α→Option β):List α→Option (List β)
 | []=>some []
 | a :: r=>match f a,mapO f r with
  | some b,some s=>some (b :: s)
  | _,_=>none
theorem yar {α β:Type} {f:α→Option β} {a:α} {r:List α} {s:List β} (h:mapO f (a :: r)=some s):∃ b t,f a=some b∧mapO f r=some t∧s=b :: t:=by
 unfold mapO at h
 split at h
 ·next b t h1 h2=>cases h;exact ⟨b,t,h1,h2,rfl⟩
 ·cases h
theorem Zam {α β γ:Type} {f:α→Option β} {g:γ→α} {k:γ→β} (h:∀ c,f (g c)=some (k c)):∀ l:List γ,mapO f (l.map g)=some (l.map k)
 | []=>rfl
 | c :: r=>by
  show mapO f (g c :: r.map g)=_
  unfold mapO
  rw [h c,Zam h r]
  rfl
noncomputable def toP (st:Store):Nat→D→Option PyData
 | 0,_=>none
 | _ + 1,.non=>some .none
 | _ + 1,.bl b=>some (.bool b)
 | _ + 1,.int i=>some (.int i)
 | _ + 1,.str x=>some (.str x)
 | _ + 1,.ty _=>none
 | n + 1,.tup ds=>(mapO (toP st n) ds).map PyData.tuple
 | n + 1,.ref i=>match items st i with
  | some ds=>(mapO (toP st n) ds).map PyData.list
  | none=>none
theorem za6 {ρ:List Addr} {H:Hp} {st:Store} (l:Rl K ρ H st):∀ (n:Nat) {v:V} {d:D} {p:PyData},Rp K ρ H v d→toP st n d=some p→Rep K H v p
 | 0,_,_,_,_,h=>by simp [toP] at h
 | n + 1,v,d,p,r,h=>by
  have all:∀ {vs:List V} {ds:List D} {ps:List PyData},Rps K ρ H vs ds→mapO (toP st n) ds=some ps→Reps K H vs ps:=by
   intro vs ds ps rr
   induction vs generalizing ds ps with
   | nil=>intro hm;cases rr;cases hm;exact .nil
   | cons w ws ih =>
    intro hm
    cases rr with
    | cons ra rb =>
     obtain ⟨b,t,h1,h2,rfl⟩:=yar hm
     exact .cons (za6 l n ra h1) (ih rb h2)
  cases r with
  | non=>simp [toP] at h;subst h;exact .non
  | bl b=>simp [toP] at h;subst h;exact .bl b
  | int i=>simp [toP] at h;subst h;exact .int i
  | str x=>simp [toP] at h;subst h;exact .str x
  | ty n=>simp [toP] at h
  | ref hi =>
   simp only [toP] at h
   split at h
   ·next ds hd =>
    obtain ⟨ps,h1,rfl⟩:=Option.map_eq_some_iff.mp h
    obtain ⟨vs,e,rr⟩:=l.items hi hd
    exact .lst e (all rr h1)
   ·cases h
  | tup q rr =>
   simp only [toP] at h
   obtain ⟨ps,h1,rfl⟩:=Option.map_eq_some_iff.mp h
   exact .tup q (all rr h1)
noncomputable def gEqD (neg:Bool):D→D→Dm D:=fun a b st=>match toP st 20 a,toP st 20 b with
 | some p,some q=>if (PyData.canLay0 p && PyData.canLay0 q && decide (min p.depth q.depth≤60))=true then some (.bl (if neg then !PyData.eqv p q else PyData.eqv p q),st) else none
 | _,_=>none
theorem ya6 (neg:Bool):So2 K (rEqD K neg) (gEqD neg):=by
 intro ρ H st x y a c b st' Q l rx ry e q
 unfold gEqD at e
 split at e
 ·next u v h1 h2 =>
  split at e
  ·next hs =>
   cases e
   rw [Bool.and_eq_true,Bool.and_eq_true,decide_eq_true_eq] at hs
   exact ⟨u,v,za6 l 20 rx h1,za6 l 20 ry h2,hs.1.1,hs.1.2,hs.2,q _ H ρ .refl l (.bl _)⟩
  ·cases e
 ·cases e
theorem at_of {ρ:List Addr} {H:Hp} {vs:List V} {ds:List D} {i:Int} {d:D} (r:Rps K ρ H vs ds) (h:atI ds i=some d):∃ v,atI vs i=some v∧Rp K ρ H v d:=by
 unfold atI at h ⊢
 rw [r.length]
 cases hx:ixN ds.length i with
 | none=>rw [hx] at h;cases h
 | some j =>
  rw [hx] at h
  exact r.got h
noncomputable def gIxT:D→D→Dm D
 | .tup ds,.int i,st=>match atI ds i with
  | some d=>some (d,st)
  | none=>none
 | _,_,_=>none
theorem Yai:So2 K (rIxT K) gIxT:=by
 intro ρ H st x y a c b st' Q l rx ry e q
 unfold gIxT at e
 split at e
 ·split at e
  ·next d hd =>
   cases e
   cases ry
   cases rx with
   | tup s r =>
    obtain ⟨v,hv,rv⟩:=at_of r hd
    exact ⟨_,_,_,v,rfl,rfl,s,hv,q v H ρ .refl l rv⟩
  ·cases e
 ·cases e
noncomputable def gIxL:D→D→Dm D
 | .ref r,.int i,st=>match items st r with
  | some ds=>match atI ds i with
   | some d=>some (d,st)
   | none=>none
  | none=>none
 | _,_,_=>none
theorem Yaq:So2 K (rIxL K) gIxL:=by
 intro ρ H st x y a c b st' Q l rx ry e q
 unfold gIxL at e
 split at e
 ·split at e
  ·next ds hi =>
   split at e
   ·next d hd =>
    cases e
    cases ry
    cases rx with
    | ref hr =>
     obtain ⟨vs,s,r⟩:=l.items hr hi
     obtain ⟨v,hv,rv⟩:=at_of r hd
     exact ⟨_,_,_,v,rfl,rfl,s,hv,q v H ρ .refl l rv⟩
   ·cases e
  ·cases e
 ·cases e
noncomputable def gIxS:D→D→Dm D
 | .str z,.int i,st=>if lim z.length=true then match atI z.cps.toList i with
   | some c=>some (.str ⟨#[c]⟩,st)
   | none=>none
  else none
 | _,_,_=>none
noncomputable def cutD (xs:List D) (lo hi:Option Int):List D:=(xs.drop (HT.sIx xs.length 0 lo)).take (HT.sIx xs.length xs.length hi - HT.sIx xs.length 0 lo)
theorem Rps.cut {ρ:List Addr} {H:Hp} {vs:List V} {ds:List D} (r:Rps K ρ H vs ds) (lo hi:Option Int):Rps K ρ H (cutV vs lo hi) (cutD ds lo hi):=by
 unfold cutV cutD
 rw [r.length]
 exact (r.drop _).take _
noncomputable def gSlT:D→Option Int→Option Int→Dm D
 | .tup ds,lo,hi,st=>some (.tup (cutD ds lo hi),st)
 | _,_,_,_=>none
theorem got {ρ:List Addr} {H:Hp} {st:Store} {vs:List V} {ds:List D} {Q:VK} (l:Rl K ρ H st) (r:Rps K ρ H vs ds) (q:∀ v H' ρ',Mn K ρ H ρ' H'→Rl K ρ' H' st→Rp K ρ' H' v (.tup ds)→Q v H'):GotT K H vs Q :=
 fun p H' s e=>q _ H' ρ (Mn.same e) (l.same e) (.tup s (r.mn (Mn.same e)))
theorem so_slT:SoS3 K (rSlTA K) gSlT:=by
 intro lo hi ρ H st x a b st' Q l rx e q
 cases a with
 | tup ds =>
  cases e
  cases rx with
  | tup s r=>exact ⟨_,_,rfl,s,got l (r.cut lo hi) q⟩
 | _=>cases e
noncomputable def gSlL:D→Option Int→Option Int→Dm D
 | .ref r,lo,hi,st=>match items st r with
  | some ds=>some (.ref st.length,st ++ [.lst (cutD ds lo hi)])
  | none=>none
 | _,_,_,_=>none
theorem so_slL:SoS3 K (rSlL K) gSlL:=by
 intro lo hi ρ H st x a b st' Q l rx e q
 cases a with
 | ref i =>
  simp only [gSlL] at e
  split at e
  ·next ds hd =>
   cases e
   cases rx with
   | ref hr =>
    obtain ⟨vs,s,r⟩:=l.items hr hd
    exact ⟨_,_,rfl,s,fun p hp=>q _ _ _ (Mn.new hp) (l.newL hp (r.cut lo hi)) (.ref (newR l))⟩
  ·cases e
 | _=>cases e
noncomputable def gRevL:D→Dm D
 | .ref i,st=>match items st i with
  | some ds=>some (.ref st.length,st ++ [.lst ds.reverse])
  | none=>none
 | _,_=>none
theorem yb9:So1 K (fun x H Q=>∃ a xs,x=.ref a∧SqL K H a xs∧∀ p,H p=none→Q (.ref p) (upd H p (.lst xs.reverse))) gRevL:=by
 intro ρ H st x a b st' Q l rx e q
 cases a with
 | ref i =>
  simp only [gRevL] at e
  split at e
  ·next ds hd =>
   cases e
   cases rx with
   | ref hr =>
    obtain ⟨vs,s,r⟩:=l.items hr hd
    exact ⟨_,_,rfl,s,fun p hp=>q _ _ _ (Mn.new hp) (l.newL hp r.reverse) (.ref (newR l))⟩
  ·cases e
 | _=>cases e
noncomputable def gCatT:D→D→Dm D
 | .tup a,.tup b,st=>if lim (a.length + b.length)=true then some (.tup (a ++ b),st) else none
 | _,_,_=>none
theorem Zb9:So2 K (rCatTA K) gCatT:=by
 intro ρ H st x y a c b st' Q l rx ry e q
 unfold gCatT at e
 split at e
 ·split at e
  ·next hl =>
   cases e
   cases rx with
   | tup s r =>
    cases ry with
    | tup s' r'=>exact ⟨_,_,_,_,rfl,rfl,s,s',by rw [r.length,r'.length];exact Ya0 hl,got l (r.append r') q⟩
  ·cases e
 ·cases e
noncomputable def own (st:Store) (i:Nat):Option (List D):=match st[i]? with
 | some (.lst ds)=>some ds
 | _=>none
theorem Zal {st:Store} {i:Nat} {ds:List D} (h:own st i=some ds):st[i]?=some (.lst ds):=by
 unfold own at h
 split at h
 ·next ds' hs=>cases h;exact hs
 ·cases h
noncomputable def gCat:D→D→Dm D
 | .ref i,.ref j,st=>match own st i,own st j with
  | some a,some b=>if lim (a.length + b.length)=true then some (.ref st.length,st ++ [.lst (a ++ b)]) else none
  | _,_=>none
 | _,_,_=>none
theorem ZaR:So2 K rCat gCat:=by
 intro ρ H st x y a c b st' Q l rx ry e q
 unfold gCat at e
 split at e
 ·split at e
  ·next a b h1 h2 =>
   split at e
   ·next hl =>
    cases e
    cases rx with
    | ref hi =>
     cases ry with
     | ref hj =>
      obtain ⟨vs,e1,r1⟩:=l.obj _ _ _ hi (Zal h1)
      obtain ⟨ws,e2,r2⟩:=l.obj _ _ _ hj (Zal h2)
      exact ⟨_,_,_,_,rfl,rfl,e1,e2,by rw [r1.length,r2.length];exact Ya0 hl,fun p hp=>q _ _ _ (Mn.new hp) (l.newL hp (r1.append r2)) (.ref (newR l))⟩
   ·cases e
  ·cases e
 ·cases e
noncomputable def gRep:D→D→Dm D
 | .ref i,.int k,st=>match own st i with
  | some a=>if (decide (-9223372036854775808≤k∧k < 9223372036854775808) && lim (a.length * k.toNat))=true then some (.ref st.length,st ++ [.lst (List.replicate k.toNat a).flatten]) else none
  | _=>none
 | _,_,_=>none
theorem yb2 {ρ:List Addr} {H:Hp}:∀ {ws vs:List V} {ds:List D},Rps K ρ H ws ds→mapO sV ds=some vs→ws=vs
 | _,_,_,.nil,h=>by cases h;rfl
 | _,_,_,.cons a b,h=>by
  obtain ⟨x,t,h1,h2,rfl⟩:=yar h
  rw [Yby a h1,yb2 b h2]
theorem xbK {a:D} {v:V} (h:sV a=some v):flatV v=true:=by cases a <;> first | (cases h;rfl) | cases h
theorem Ybs:∀ {ds:List D} {vs:List V},mapO sV ds=some vs→vs.all flatV=true
 | [],_,h=>by cases h;rfl
 | d :: r,_,h=>by
  obtain ⟨x,t,h1,h2,rfl⟩:=yar h
  rw [List.all_cons,xbK h1,Ybs h2];rfl
noncomputable def seqOf (st:Store):D→Option (List D)
 | .tup ds=>some ds
 | .ref i=>items st i
 | _=>none
theorem xbs {ρ:List Addr} {H:Hp} {st:Store} {x:V} {a:D} {ds:List D} (l:Rl K ρ H st) (r:Rp K ρ H x a) (h:seqOf st a=some ds):∃ p vs,x=.ref p∧(SqL K H p vs∨SqT K H p vs)∧Rps K ρ H vs ds:=by
 cases r <;> first | (cases h;done) | skip
 ·next hi=>obtain ⟨vs,s,r⟩:=l.items hi h;exact ⟨_,vs,rfl,.inl s,r⟩
 ·next s r=>cases h;exact ⟨_,_,rfl,.inr s,r⟩
noncomputable def gIn (neg:Bool):D→D→Dm D:=fun a c st=>match sV a,(seqOf st c).bind (mapO sV) with
 | some x,some vs=>some (.bl (if neg then !inV x vs else inV x vs),st)
 | _,_=>none
theorem XbK (neg:Bool):So2 K (rIn K neg) (gIn neg):=by
 intro ρ H st x y a c b st' Q l rx ry e q
 unfold gIn at e
 split at e
 ·next u vs h1 h2 =>
  cases e
  obtain ⟨ds,h3,h4⟩:=Option.bind_eq_some_iff.mp h2
  obtain ⟨p,ws,rfl,s,r⟩:=xbs l ry h3
  cases Yby rx h1
  cases yb2 r h4
  exact ⟨p,_,rfl,s,xbK h1,Ybs h4,q _ H ρ .refl l (.bl _)⟩
 ·cases e
theorem Rps.one' {ρ:List Addr} {H:Hp} {vs:List V} {d:D} (r:Rps K ρ H vs [d]):∃ v,vs=[v]∧Rp K ρ H v d:=by cases r with | cons a b=>cases b;exact ⟨_,rfl,a⟩
theorem Rps.two' {ρ:List Addr} {H:Hp} {vs:List V} {d e:D} (r:Rps K ρ H vs [d,e]):∃ v w,vs=[v,w]∧Rp K ρ H v d∧Rp K ρ H w e:=by
 cases r with
 | cons a b=>obtain ⟨w,rfl,r⟩:=b.one';exact ⟨_,_,rfl,a,r⟩
noncomputable def gLen:List D→Dm D
 | [a],st=>match seqOf st a with
  | some ds=>some (.int ds.length,st)
  | none=>none
 | _,_=>none
theorem Zar:SoC K (fun xs H Q=>∃ p ys,xs=[.ref p]∧(SqL K H p ys∨SqT K H p ys)∧Q (.int ys.length) H) gLen:=by
 intro ρ H st xs as b st' Q l rx e q
 unfold gLen at e
 split at e
 ·split at e
  ·next ds hd =>
   cases e
   obtain ⟨v,rfl,r⟩:=rx.one'
   obtain ⟨p,vs,rfl,s,r⟩:=xbs l r hd
   exact ⟨p,vs,rfl,s,q _ H ρ .refl l (by rw [r.length];exact .int _)⟩
  ·cases e
 ·cases e
noncomputable def gList:List D→Dm D
 | [a],st=>match seqOf st a with
  | some ds=>some (.ref st.length,st ++ [.lst ds])
  | none=>none
 | _,_=>none
theorem xa0:SoC K (fun xs H Q=>∃ p ys,xs=[.ref p]∧(SqL K H p ys∨SqT K H p ys)∧∀ l,H l=none→Q (.ref l) (upd H l (.lst ys))) gList:=by
 intro ρ H st xs as b st' Q l rx e q
 unfold gList at e
 split at e
 ·split at e
  ·next ds hd =>
   cases e
   obtain ⟨v,rfl,r⟩:=rx.one'
   obtain ⟨p,vs,rfl,s,r⟩:=xbs l r hd
   exact ⟨p,vs,rfl,s,fun p hp=>q _ _ _ (Mn.new hp) (l.newL hp r) (.ref (newR l))⟩
  ·cases e
 ·cases e
noncomputable def gTuple:List D→Dm D
 | [a],st=>match seqOf st a with
  | some ds=>some (.tup ds,st)
  | none=>none
 | _,_=>none
theorem yai:SoC K (fun xs H Q=>∃ p ys,xs=[.ref p]∧((SqL K H p ys∧∀ l,H l=none→Q (.ref l) (upd H l (.tup ys)))∨(SqT K H p ys∧Q (.ref p) H))) gTuple:=by
 intro ρ H st xs as b st' Q l rx e q
 unfold gTuple at e
 split at e
 ·split at e
  ·next ds hd =>
   cases e
   obtain ⟨v,rfl,r⟩:=rx.one'
   obtain ⟨p,vs,rfl,s,r'⟩:=xbs l r hd
   refine ⟨p,vs,rfl,?_⟩
   rcases s with s | s
   ·exact .inl ⟨s,(got l r' q).new⟩
   ·exact .inr ⟨s,(got l r' q).it s⟩
  ·cases e
 ·cases e
noncomputable def gMax2:List D→Dm D
 | [.int i,.int j],st=>some (.int (if j > i then j else i),st)
 | _,_=>none
noncomputable def gMin2:List D→Dm D
 | [.int i,.int j],st=>some (.int (if j < i then j else i),st)
 | _,_=>none
theorem Yb9:SoC K (fun xs H Q=>∃ i j,xs=[.int i,.int j]∧Q (.int (if j > i then j else i)) H) gMax2:=by
 intro ρ H st xs as b st' Q l rx e q
 unfold gMax2 at e
 split at e
 ·cases e
  obtain ⟨v,w,rfl,r1,r2⟩:=rx.two'
  cases r1;cases r2
  exact ⟨_,_,rfl,q _ H ρ .refl l (.int _)⟩
 ·cases e
theorem xb9:SoC K (fun xs H Q=>∃ i j,xs=[.int i,.int j]∧Q (.int (if j < i then j else i)) H) gMin2:=by
 intro ρ H st xs as b st' Q l rx e q
 unfold gMin2 at e
 split at e
 ·cases e
  obtain ⟨v,w,rfl,r1,r2⟩:=rx.two'
  cases r1;cases r2
  exact ⟨_,_,rfl,q _ H ρ .refl l (.int _)⟩
 ·cases e
noncomputable def gInt1:List D→Dm D
 | [.int i],st=>some (.int i,st)
 | [.bl k],st=>some (.int (if k then 1 else 0),st)
 | _,_=>none
theorem Xb9:SoC K (fun xs H Q=>(∃ i,xs=[.int i]∧Q (.int i) H)∨∃ k,xs=[.bl k]∧Q (.int (if k then 1 else 0)) H) gInt1:=by
 intro ρ H st xs as b st' Q l rx e q
 unfold gInt1 at e
 split at e
 ·cases e
  obtain ⟨v,rfl,r⟩:=rx.one'
  cases r
  exact .inl ⟨_,rfl,q _ H ρ .refl l (.int _)⟩
 ·cases e
  obtain ⟨v,rfl,r⟩:=rx.one'
  cases r
  exact .inr ⟨_,rfl,q _ H ρ .refl l (.int _)⟩
 ·cases e
noncomputable def gRange1:List D→Dm D
 | [.int j],st=>some (.ref st.length,st ++ [.rng 0 j])
 | _,_=>none
noncomputable def gRange2:List D→Dm D
 | [.int i,.int j],st=>some (.ref st.length,st ++ [.rng i j])
 | _,_=>none
theorem Xa0:SoC K (fun xs H Q=>∃ j:Int,xs=[.int j]∧∀ p,H p=none→Q (.ref p) (upd H p (.rng 0 j))) gRange1:=by
 intro ρ H st xs as b st' Q l rx e q
 unfold gRange1 at e
 split at e
 ·cases e
  obtain ⟨v,rfl,r⟩:=rx.one'
  cases r
  exact ⟨_,rfl,fun p hp=>q _ _ _ (Mn.new hp) (l.new hp (show RpO K _ _ p (.rng _ _) from zao)) (.ref (newR l))⟩
 ·cases e
theorem YaH:SoC K (fun xs H Q=>∃ i j:Int,xs=[.int i,.int j]∧∀ p,H p=none→Q (.ref p) (upd H p (.rng i j))) gRange2:=by
 intro ρ H st xs as b st' Q l rx e q
 unfold gRange2 at e
 split at e
 ·cases e
  obtain ⟨v,w,rfl,r1,r2⟩:=rx.two'
  cases r1;cases r2
  exact ⟨_,_,rfl,fun p hp=>q _ _ _ (Mn.new hp) (l.new hp (show RpO K _ _ p (.rng _ _) from zao)) (.ref (newR l))⟩
 ·cases e
noncomputable def rangeD (lo:Int) (n:Nat):List D:=(List.range n).map fun (k:Nat)=>D.int (lo + k)
theorem zbL {ρ:List Addr} {H:Hp} (lo:Int) (n:Nat):Rps K ρ H (rangeV lo n) (rangeD lo n):=by
 unfold rangeV rangeD
 induction (List.range n) with
 | nil=>exact .nil
 | cons a r ih=>exact .cons (.int _) ih
noncomputable def okR (lo hi:Int):Bool:=decide (-4611686018427387904≤lo∧lo < 4611686018427387904∧-4611686018427387904≤hi∧hi < 4611686018427387904) && lim (hi - lo).toNat
theorem Zb2 {lo hi:Int} (h:okR lo hi=true):(-(2 ^ 62)≤lo∧lo < 2 ^ 62∧-(2 ^ 62)≤hi∧hi < 2 ^ 62)∧(hi - lo).toNat≤2 ^ 24:=by
 unfold okR at h
 rw [Bool.and_eq_true,decide_eq_true_eq] at h
 exact ⟨by omega,Nat.le_trans (Nat.le_of_ble_eq_true h.2) (by decide)⟩
noncomputable def rngOf (st:Store):D→Option (Int×Int)
 | .ref i=>match st[i]? with
  | some (.rng lo hi)=>some (lo,hi)
  | _=>none
 | _=>none
theorem rng_of {ρ:List Addr} {H:Hp} {st:Store} {x:V} {a:D} {lo hi:Int} (l:Rl K ρ H st) (r:Rp K ρ H x a) (h:rngOf st a=some (lo,hi)):∃ p,x=.ref p∧H p=some (.rng lo hi):=by
 cases r <;> first | (cases h;done) | skip
 ·next hi' =>
  simp only [rngOf] at h
  split at h
  ·next lo' hi'' hs=>cases h;exact ⟨_,rfl,l.obj _ _ _ hi' hs⟩
  ·cases h
noncomputable def gListR:List D→Dm D
 | [a],st=>match rngOf st a with
  | some (lo,hi)=>if okR lo hi=true then some (.ref st.length,st ++ [.lst (rangeD lo (hi - lo).toNat)]) else none
  | none=>none
 | _,_=>none
theorem YaB:SoC K (fun xs H Q=>∃ p lo hi,xs=[.ref p]∧H p=some (.rng lo hi)∧(-(2 ^ 62)≤lo∧lo < 2 ^ 62∧-(2 ^ 62)≤hi∧hi < 2 ^ 62)∧(hi - lo).toNat≤2 ^ 24 ∧
  ∀ l,H l=none→Q (.ref l) (upd H l (.lst (rangeV lo (hi - lo).toNat)))) gListR:=by
 intro ρ H st xs as b st' Q l rx e q
 unfold gListR at e
 split at e
 ·split at e
  ·next lo hi hd =>
   split at e
   ·next ok =>
    cases e
    obtain ⟨v,rfl,r⟩:=rx.one'
    obtain ⟨p,rfl,s⟩:=rng_of l r hd
    exact ⟨p,lo,hi,rfl,s,(Zb2 ok).1,(Zb2 ok).2,fun p hp=>q _ _ _ (Mn.new hp) (l.newL hp (zbL lo _)) (.ref (newR l))⟩
   ·cases e
  ·cases e
 ·cases e
noncomputable def gTupleR:List D→Dm D
 | [a],st=>match rngOf st a with
  | some (lo,hi)=>if okR lo hi=true then some (.tup (rangeD lo (hi - lo).toNat),st) else none
  | none=>none
 | _,_=>none
noncomputable def iV:D→Option Int
 | .int i=>some i
 | _=>none
theorem ybL {ρ:List Addr} {H:Hp}:∀ {ws:List V} {ds:List D} {ns:List Int},Rps K ρ H ws ds→mapO iV ds=some ns→ws=ns.map V.int
 | _,_,_,.nil,h=>by cases h;rfl
 | _,_,_,.cons a b,h=>by
  obtain ⟨x,t,h1,h2,rfl⟩:=yar h
  rw [ybL b h2]
  cases a <;> first | (cases h1;rfl) | cases h1
noncomputable def sortI (ns:List Int):List Int:=ns.mergeSort fun a b=>decide (a≤b)
noncomputable def gSorted:List D→Dm D
 | [a],st=>match (seqOf st a).bind (mapO iV) with
  | some ns=>if ns.length < 64 then some (.ref st.length,st ++ [.lst ((sortI ns).map D.int)]) else none
  | none=>none
 | _,_=>none
noncomputable def gRepr:List D→Dm D
 | [a],st=>match toP st 20 a with
  | some p=>if (p.showable && p.canLay0 && decide (p.shown.length≤sizeLine) && decide (p.depth≤60))=true then some (.str p.shown,st) else none
  | none=>none
 | _,_=>none
theorem Xa9:SoC K (fun xs H Q=>∃ (x:V) (d:PyData),xs=[x]∧Rep K H x d∧d.showable=true∧d.canLay0=true∧d.shown.length≤sizeLine∧d.depth≤60∧Q (.str d.shown) H) gRepr:=by
 intro ρ H st xs as b st' Q l rx e q
 unfold gRepr at e
 split at e
 ·split at e
  ·next p hp =>
   split at e
   ·next ok =>
    cases e
    rw [Bool.and_eq_true,Bool.and_eq_true,Bool.and_eq_true,decide_eq_true_eq,decide_eq_true_eq] at ok
    obtain ⟨v,rfl,r⟩:=rx.one'
    exact ⟨v,p,rfl,za6 l 20 r hp,ok.1.1.1,ok.1.1.2,ok.1.2,ok.2,q _ H ρ .refl l (.str _)⟩
   ·cases e
  ·cases e
 ·cases e
noncomputable def bV:D→Option Bool
 | .bl i=>some i
 | _=>none
theorem Yb2 {ρ:List Addr} {H:Hp}:∀ {ws:List V} {ds:List D} {ns:List Bool},Rps K ρ H ws ds→mapO bV ds=some ns→ws=ns.map V.bl
 | _,_,_,.nil,h=>by cases h;rfl
 | _,_,_,.cons a b,h=>by
  obtain ⟨x,t,h1,h2,rfl⟩:=yar h
  rw [Yb2 b h2]
  cases a <;> first | (cases h1;rfl) | cases h1
noncomputable def gAll:List D→Dm D
 | [.ref i],st=>match (items st i).bind (mapO bV) with
  | some bs=>some (.bl (bs.all id),st)
  | none=>none
 | _,_=>none
theorem so_all:SoC K (fun xs H Q=>∃ (p:Addr) (bs:List Bool),xs=[.ref p]∧SqL K H p (bs.map V.bl)∧Q (.bl (bs.all id)) H) gAll:=by
 intro ρ H st xs as b st' Q l rx e q
 unfold gAll at e
 split at e
 ·split at e
  ·next bs hd =>
   cases e
   obtain ⟨v,rfl,r⟩:=rx.one'
   obtain ⟨ds,h3,h4⟩:=Option.bind_eq_some_iff.mp hd
   cases r with
   | ref hi =>
    obtain ⟨vs,s,r⟩:=l.items hi h3
    cases Yb2 r h4
    exact ⟨_,bs,rfl,s,q _ H ρ .refl l (.bl _)⟩
  ·cases e
 ·cases e
noncomputable def tyD (T:String) (st:Store):D→Bool
 | .str _=>T == "str"
 | .tup _=>T == "tuple"
 | .ref i=>T == "list" && (items st i).isSome
 | _=>false
theorem tyD_of {ρ:List Addr} {H:Hp} {st:Store} {x:V} {a:D} {T:String} (l:Rl K ρ H st) (r:Rp K ρ H x a) (h:tyD T st a=true):tyV K T x H:=by
 cases r <;> first | (cases h;done) | skip
 ·exact eq_of_beq h
 ·next hi =>
  simp only [tyD,Bool.and_eq_true] at h
  obtain ⟨ds,hd⟩:=Option.isSome_iff_exists.mp h.2
  obtain ⟨vs,s,_⟩:=l.items hi hd
  exact .inl ⟨eq_of_beq h.1,vs,s⟩
 ·next s r=>exact .inr (.inl ⟨eq_of_beq h,_,s⟩)
noncomputable def fBM (T:String) (g:D→List D→Dm D) (fo:DSt→Dm D) (fa:DSt→Dm (List D)):DSt→Dm D:=fun δ st=>bnd (fo δ st) fun o st1=>if tyD T st1 o=true then bnd (fa δ st1) fun as st2=>g o as st2 else none
theorem ZaM {T:String} {r:V→List V→Hp→VK→Prop} {g:D→List D→Dm D} {to:TE} {ta:TA} {fo:DSt→Dm D} {fa:DSt→Dm (List D)} (hr:SoM K T r g) (ho:SoE K to fo) (ha:SoA K ta fa):SoE K (tBM K T r to ta) (fBM T g fo fa):=by
 intro ρ σ H δ st b st' Q l rs e q
 obtain ⟨o,st1,e1,e⟩:=xac e
 split at e
 ·next ht =>
  obtain ⟨as,st2,e2,e⟩:=xac e
  refine ho ρ σ H δ st o st1 _ l rs e1 fun x H1 ρ1 m1 l1 r1=>⟨tyD_of l1 r1 ht,ha ρ1 σ H1 δ st1 as st2 _ l1 (rs.mn m1) e2 fun xs H2 ρ2 m2 l2 r2=>?_⟩
  exact hr ρ2 H2 st2 x xs o as b st' Q l2 (r1.mn m2) r2 e fun v H3 ρ3 m3 l3 r3=>q v H3 ρ3 ((m1.trans m2).trans m3) l3 r3
 ·cases e
noncomputable def gAppend:D→List D→Dm D
 | .ref i,[y],st=>match own st i with
  | some xs=>if lim xs.length=true then some (.non,st.set i (.lst (xs ++ [y]))) else none
  | none=>none
 | _,_,_=>none
theorem Yar:SoM K "list" rAppend gAppend:=by
 intro ρ H st x xs a as b st' Q l rx rxs e q
 unfold gAppend at e
 split at e
 ·split at e
  ·next ys hy =>
   split at e
   ·next hl =>
    cases e
    obtain ⟨v,rfl,r⟩:=rxs.one'
    cases rx with
    | ref hi =>
     obtain ⟨vs,e1,r1⟩:=l.obj _ _ _ hi (Zal hy)
     obtain ⟨l2,m2⟩:=l.putL hi (Zal hy) (r1.append (.one r))
     exact ⟨_,vs,v,rfl,rfl,e1,by rw [r1.length];exact ybs hl,q _ _ ρ m2 l2 .non⟩
   ·cases e
  ·cases e
 ·cases e
noncomputable def gExtend:D→List D→Dm D
 | .ref i,[.ref j],st=>match own st i,own st j with
  | some xs,some ys=>if lim (xs.length + ys.length)=true then some (.non,st.set i (.lst (xs ++ ys))) else none
  | _,_=>none
 | _,_,_=>none
theorem ZbL:SoM K "list" rExtend gExtend:=by
 intro ρ H st x xs a as b st' Q l rx rxs e q
 unfold gExtend at e
 split at e
 ·split at e
  ·next xs' ys hx hy =>
   split at e
   ·next hl =>
    cases e
    obtain ⟨v,rfl,r⟩:=rxs.one'
    cases rx with
    | ref hi =>
     cases r with
     | ref hj =>
      obtain ⟨vs,e1,r1⟩:=l.obj _ _ _ hi (Zal hx)
      obtain ⟨ws,e2,r2⟩:=l.obj _ _ _ hj (Zal hy)
      obtain ⟨l2,m2⟩:=l.putL hi (Zal hx) (r1.append r2)
      exact ⟨_,_,vs,ws,rfl,rfl,e1,e2,by rw [r1.length,r2.length];exact Ya0 hl,q _ _ ρ m2 l2 .non⟩
   ·cases e
  ·cases e
 ·cases e
noncomputable def gPopAt:D→List D→Dm D
 | .ref i,[.int k],st=>match own st i with
  | some xs=>if decide (-9223372036854775808≤k∧k < 9223372036854775808)=true then match seqIndex? k xs.length with
    | some j=>match xs[j]? with
     | some y=>some (y,st.set i (.lst (xs.eraseIdx j)))
     | none=>none
    | none=>none
   else none
  | none=>none
 | _,_,_=>none
theorem YbV:SoM K "list" rPopAt gPopAt:=by
 intro ρ H st x xs a as b st' Q l rx rxs e q
 unfold gPopAt at e
 split at e
 ·split at e
  ·next ys hy =>
   split at e
   ·next hk =>
    split at e
    ·next j hj =>
     split at e
     ·next y hy' =>
      cases e
      obtain ⟨v,rfl,r⟩:=rxs.one'
      cases r
      cases rx with
      | ref hi =>
       obtain ⟨vs,e1,r1⟩:=l.obj _ _ _ hi (Zal hy)
       obtain ⟨w,hw,rw'⟩:=r1.got hy'
       obtain ⟨l2,m2⟩:=l.putL hi (Zal hy) (r1.erase j)
       have hk:=of_decide_eq_true hk
       exact ⟨_,vs,_,j,w,rfl,rfl,e1,by omega,by omega,by rw [r1.length];exact hj,hw,q _ _ ρ m2 l2 (rw'.mn m2)⟩
     ·cases e
    ·cases e
   ·cases e
  ·cases e
 ·cases e
noncomputable def gIndex:D→List D→Dm D
 | .tup ds,[.int v],st=>match mapO iV ds with
  | some ns=>match ns.findIdx? (fun i=>decide (i=v)) with
   | some j=>some (.int (j:Int),st)
   | none=>none
  | none=>none
 | _,_,_=>none
theorem ZaU:SoM K "tuple" (rIndex K) gIndex:=by
 intro ρ H st x xs a as b st' Q l rx rxs e q
 unfold gIndex at e
 split at e
 ·split at e
  ·next ns hn =>
   split at e
   ·next j hj =>
    cases e
    obtain ⟨v,rfl,r⟩:=rxs.one'
    cases r
    cases rx with
    | tup s r =>
     cases ybL r hn
     obtain ⟨h1,h2,h3⟩:=List.findIdx?_eq_some_iff_getElem.mp hj
     refine ⟨_,ns,_,j,rfl,rfl,s,?_,fun i hi z=>?_,q _ H ρ .refl l (.int _)⟩
     ·rw [List.getElem?_eq_getElem h1];exact congrArg some (of_decide_eq_true h2)
     ·have:=h3 i hi
      obtain ⟨hl,ez⟩:=List.getElem?_eq_some_iff.mp z
      rw [ez] at this
      simp at this
   ·cases e
  ·cases e
 ·cases e
noncomputable def tyNm (st:Store):D→Option String
 | .non=>some "NoneType"
 | .bl _=>some "bool"
 | .int _=>some "int"
 | .str _=>some "str"
 | .tup _=>some "tuple"
 | .ref i=>match st[i]? with
  | some (.lst _)=>some "list"
  | some (.dct _)=>some "dict"
  | _=>none
 | .ty _=>none
noncomputable def gIsinst:List D→Dm D
 | [a,.ty c],st=>match tyNm st a with
  | some T=>if T=c then some (.bl true,st) else none
  | none=>none
 | _,_=>none
end
end L4
namespace L4
open PySem PySem.Spec L2
section
variable {K:PySem.W.Frag}
theorem xb2:So2 K rRep gRep:=by
 intro ρ H st x y a c b st' Q l rx ry e q
 unfold gRep at e
 split at e
 ·split at e
  ·next ds hd =>
   split at e
   ·next ok =>
    cases e
    rw [Bool.and_eq_true,decide_eq_true_eq] at ok
    cases ry
    cases rx with
    | ref hi =>
     obtain ⟨vs,e1,r1⟩:=l.obj _ _ _ hi (Zal hd)
     exact ⟨_,_,vs,rfl,rfl,e1,by omega,by omega,by rw [r1.length];exact Ya0 ok.2,fun p hp=>q _ _ _ (Mn.new hp) (l.newL hp (r1.flat _)) (.ref (newR l))⟩
   ·cases e
  ·cases e
 ·cases e
theorem Rs.set {ρ:List Addr} {H:Hp} {σ:St} {δ:DSt} {v:V} {d:D} {i:Nat} (h:Rs K ρ H σ δ) (r:Rp K ρ H v d):Rs K ρ H (σ.set i (some v)) (δ.set i (some d)):=by
 refine ⟨by rw [List.length_set,List.length_set];exact h.1,fun j e hj=>?_⟩
 by_cases hij:i=j
 ·subst hij
  have hl:i < δ.length:=by
   have:=(List.getElem?_eq_some_iff.mp hj).1
   rwa [List.length_set] at this
  rw [List.getElem?_set_self hl] at hj
  cases hj
  exact ⟨v,by rw [List.getElem?_set_self (by rw [h.1];exact hl)],r⟩
 ·rw [List.getElem?_set_ne hij] at hj
  obtain ⟨w,hw,rw'⟩:=h.2 j e hj
  exact ⟨w,by rw [List.getElem?_set_ne hij];exact hw,rw'⟩
noncomputable def SoG (K:PySem.W.Frag) (g:TG) (f:D→DSt→Dm DSt):Prop :=
 ∀ (ρ:List Addr) (σ:St) (H:Hp) (δ:DSt) (st:Store) (v:V) (d:D) (δ':DSt) (st':Store) (Q:St→Hp→Prop),Rl K ρ H st→Rs K ρ H σ δ→Rp K ρ H v d→f d δ st=some (δ',st') →
  (∀ σ' H' ρ',Mn K ρ H ρ' H'→Rl K ρ' H' st'→Rs K ρ' H' σ' δ'→Q σ' H')→g v σ H Q
noncomputable def SoGs (K:PySem.W.Frag) (g:TGs) (f:List D→DSt→Dm DSt):Prop :=
 ∀ (ρ:List Addr) (σ:St) (H:Hp) (δ:DSt) (st:Store) (v:List V) (d:List D) (δ':DSt) (st':Store) (Q:St→Hp→Prop),Rl K ρ H st→Rs K ρ H σ δ→Rps K ρ H v d→f d δ st=some (δ',st') →
  (∀ σ' H' ρ',Mn K ρ H ρ' H'→Rl K ρ' H' st'→Rs K ρ' H' σ' δ'→Q σ' H')→g v σ H Q
noncomputable def hName (i:Nat):D→DSt→Dm DSt:=fun d δ st=>some (δ.set i (some d),st)
theorem zab (i:Nat):SoG K (gName i) (hName i):=by
 intro ρ σ H δ st v d δ' st' Q l rs r e q
 cases e
 exact q _ H ρ .refl l (rs.set r)
noncomputable def hNil:List D→DSt→Dm DSt
 | [],δ,st=>some (δ,st)
 | _,_,_=>none
noncomputable def hCons (f:D→DSt→Dm DSt) (g:List D→DSt→Dm DSt):List D→DSt→Dm DSt
 | d :: ds,δ,st=>bnd (f d δ st) fun δ1 st1=>g ds δ1 st1
 | _,_,_=>none
theorem XaN:SoGs K gNil hNil:=by
 intro ρ σ H δ st v d δ' st' Q l rs r e q
 cases r with
 | nil=>cases e;exact ⟨rfl,q _ H ρ .refl l rs⟩
 | cons a b=>cases e
theorem xaj {t:TG} {u:TGs} {f:D→DSt→Dm DSt} {g:List D→DSt→Dm DSt} (hf:SoG K t f) (hg:SoGs K u g):SoGs K (gCons t u) (hCons f g):=by
 intro ρ σ H δ st v d δ' st' Q l rs r e q
 cases r with
 | nil=>cases e
 | cons a b =>
  obtain ⟨δ1,st1,e1,e⟩:=xac e
  exact ⟨_,_,rfl,hf ρ σ H δ st _ _ δ1 st1 _ l rs a e1 fun σ1 H1 ρ1 m1 l1 r1=>hg ρ1 σ1 H1 δ1 st1 _ _ δ' st' Q l1 r1 (b.mn m1) e fun σ2 H2 ρ2 m2 l2 r2=>q σ2 H2 ρ2 (m1.trans m2) l2 r2⟩
noncomputable def hTup (n:Nat) (f:List D→DSt→Dm DSt):D→DSt→Dm DSt
 | .tup ds,δ,st=>if ds.length=n then f ds δ st else none
 | _,_,_=>none
theorem zaO {n:Nat} {t:TGs} {f:List D→DSt→Dm DSt} (hf:SoGs K t f):SoG K (gTup K n t) (hTup n f):=by
 intro ρ σ H δ st v d δ' st' Q l rs r e q
 cases r <;> first | (cases e;done) | skip
 ·next s r =>
  simp only [hTup] at e
  split at e
  ·next hl=>exact ⟨_,_,rfl,s,by rw [r.length];exact hl,hf ρ σ H δ st _ _ δ' st' Q l rs r e q⟩
  ·cases e
noncomputable def hSub (fo fi:DSt→Dm D):D→DSt→Dm DSt:=fun d δ st=>bnd (fo δ st) fun o st1=>bnd (fi δ st1) fun i st2=>match o,i with
 | .ref r,.int k=>match own st2 r with
  | some xs=>match ixN xs.length k with
   | some j=>some (δ,st2.set r (.lst (xs.set j d)))
   | none=>none
  | none=>none
 | _,_=>none
theorem za1 {to ti:TE} {fo fi:DSt→Dm D} (ho:SoE K to fo) (hi:SoE K ti fi):SoG K (L2.gSub to ti rSetL) (hSub fo fi):=by
 intro ρ σ H δ st v d δ' st' Q l rs r e q
 obtain ⟨o,st1,e1,e⟩:=xac e
 obtain ⟨i,st2,e2,e⟩:=xac e
 refine ho ρ σ H δ st o st1 _ l rs e1 fun x H1 ρ1 m1 l1 r1=>hi ρ1 σ H1 δ st1 i st2 _ l1 (rs.mn m1) e2 fun y H2 ρ2 m2 l2 r2=>?_
 split at e
 ·split at e
  ·next xs hx =>
   split at e
   ·next j hj =>
    cases e
    cases r2
    cases r1 with
    | ref hr =>
     have hr2:=m2.r _ _ hr
     obtain ⟨vs,e3,r3⟩:=l2.obj _ _ _ hr2 (Zal hx)
     obtain ⟨l3,m3⟩:=l2.putL hr2 (Zal hx) (r3.set (r.mn (m1.trans m2)) j)
     exact ⟨_,vs,_,j,rfl,rfl,e3,by rw [r3.length];exact hj,q σ _ ρ2 ((m1.trans m2).trans m3) l3 (rs.mn ((m1.trans m2).trans m3))⟩
   ·cases e
  ·cases e
 ·cases e
noncomputable def Go (K:PySem.W.Frag) (ρ:List Addr) (H:Hp) (st':Store) (E:Ends):Fl→Prop
 | .nx δ=>∀ σ' H' ρ',Mn K ρ H ρ' H'→Rl K ρ' H' st'→Rs K ρ' H' σ' δ→E.nx σ' H'
 | .bk δ=>∀ σ' H' ρ',Mn K ρ H ρ' H'→Rl K ρ' H' st'→Rs K ρ' H' σ' δ→E.bk σ' H'
 | .ct δ=>∀ σ' H' ρ',Mn K ρ H ρ' H'→Rl K ρ' H' st'→Rs K ρ' H' σ' δ→E.ct σ' H'
 | .rt d=>∀ v H' ρ',Mn K ρ H ρ' H'→Rl K ρ' H' st'→Rp K ρ' H' v d→E.rt v H'
theorem Go.mn {ρ ρ1:List Addr} {H H1:Hp} {st':Store} {E:Ends} {fl:Fl} (g:Go K ρ H st' E fl) (m:Mn K ρ H ρ1 H1):Go K ρ1 H1 st' E fl:=by
 cases fl <;> exact fun v H' ρ' m' l r=>g v H' ρ' (m.trans m') l r
noncomputable def SoS (K:PySem.W.Frag) (t:TS) (f:DSt→Dm Fl):Prop :=
 ∀ (ρ:List Addr) (σ:St) (H:Hp) (δ:DSt) (st:Store) (fl:Fl) (st':Store) (E:Ends),Rl K ρ H st→Rs K ρ H σ δ→f δ st=some (fl,st')→Go K ρ H st' E fl→t E σ H
noncomputable def fNext:DSt→Dm Fl:=fun δ st=>some (.nx δ,st)
noncomputable def fBreak:DSt→Dm Fl:=fun δ st=>some (.bk δ,st)
theorem Yam:SoS K tNext fNext:=by
 intro ρ σ H δ st fl st' E l rs e g
 cases e
 exact g σ H ρ .refl l rs
theorem xbV:SoS K tBreak fBreak:=by
 intro ρ σ H δ st fl st' E l rs e g
 cases e
 exact g σ H ρ .refl l rs
noncomputable def fSeq (f g:DSt→Dm Fl):DSt→Dm Fl:=fun δ st=>bnd (f δ st) fun fl st1=>match fl with
 | .nx δ1=>g δ1 st1
 | x=>some (x,st1)
theorem Zad {t u:TS} {f g:DSt→Dm Fl} (hf:SoS K t f) (hg:SoS K u g):SoS K (tSeq t u) (fSeq f g):=by
 intro ρ σ H δ st fl st' E l rs e q
 obtain ⟨x,st1,e1,e⟩:=xac e
 refine hf ρ σ H δ st x st1 _ l rs e1 ?_
 cases x with
 | nx δ1=>exact fun σ1 H1 ρ1 m1 l1 r1=>hg ρ1 σ1 H1 δ1 st1 fl st' E l1 r1 e (q.mn m1)
 | bk δ1=>cases e;exact q
 | ct δ1=>cases e;exact q
 | rt d=>cases e;exact q
theorem xas {c:TT} {t u:TS} {fc:DSt→Dm Bool} {f g:DSt→Dm Fl} (hc:SoT K c fc) (hf:SoS K t f) (hg:SoS K u g):SoS K (tIfS c t u) (fIf fc f g):=by
 intro ρ σ H δ st fl st' E l rs e q
 obtain ⟨a,st1,e1,e⟩:=xac e
 refine hc ρ σ H δ st _ _ _ l rs e1 fun x H1 ρ1 m1 l1 r1=>?_
 subst r1
 cases x with
 | true =>
  refine iteT ?_
  rw [if_pos rfl] at e
  exact hf ρ1 σ H1 δ st1 fl st' E l1 (rs.mn m1) e (q.mn m1)
 | false =>
  refine iteF ?_
  rw [if_neg Bool.false_ne_true] at e
  exact hg ρ1 σ H1 δ st1 fl st' E l1 (rs.mn m1) e (q.mn m1)
noncomputable def fDrop (f:DSt→Dm D):DSt→Dm Fl:=fun δ st=>bnd (f δ st) fun _ st1=>some (.nx δ,st1)
theorem yaA {t:TE} {f:DSt→Dm D} (hf:SoE K t f):SoS K (tDrop t) (fDrop f):=by
 intro ρ σ H δ st fl st' E l rs e q
 obtain ⟨a,st1,e1,e⟩:=xac e
 cases e
 exact hf ρ σ H δ st a _ _ l rs e1 fun x H1 ρ1 m1 l1 r1=>q σ H1 ρ1 m1 l1 (rs.mn m1)
noncomputable def fRet (f:DSt→Dm D):DSt→Dm Fl:=fun δ st=>bnd (f δ st) fun d st1=>some (.rt d,st1)
theorem Yak {t:TE} {f:DSt→Dm D} (hf:SoE K t f):SoS K (tRet t) (fRet f):=by
 intro ρ σ H δ st fl st' E l rs e q
 obtain ⟨a,st1,e1,e⟩:=xac e
 cases e
 exact hf ρ σ H δ st a _ _ l rs e1 fun x H1 ρ1 m1 l1 r1=>q x H1 ρ1 m1 l1 r1
noncomputable def fAsg (f:DSt→Dm D) (h:D→DSt→Dm DSt):DSt→Dm Fl:=fun δ st=>bnd (f δ st) fun d st1=>bnd (h d δ st1) fun δ1 st2=>some (.nx δ1,st2)
theorem zae {t:TE} {g:TG} {f:DSt→Dm D} {h:D→DSt→Dm DSt} (hf:SoE K t f) (hh:SoG K g h):SoS K (tAsg t g) (fAsg f h):=by
 intro ρ σ H δ st fl st' E l rs e q
 obtain ⟨a,st1,e1,e⟩:=xac e
 obtain ⟨δ1,st2,e2,e⟩:=xac e
 cases e
 exact hf ρ σ H δ st a st1 _ l rs e1 fun x H1 ρ1 m1 l1 r1=>hh ρ1 σ H1 δ st1 x a δ1 _ _ l1 (rs.mn m1) r1 e2 fun σ2 H2 ρ2 m2 l2 r2=>q σ2 H2 ρ2 (m1.trans m2) l2 r2
noncomputable def fPar (i j:Nat) (fa:DSt→Dm (List D)):DSt→Dm Fl:=fun δ st=>bnd (fa δ st) fun as st1=>match as with
 | [a,b]=>some (.nx ((δ.set i (some a)).set j (some b)),st1)
 | _=>none
theorem YbL {i j:Nat} {t:TA} {fa:DSt→Dm (List D)} (ha:SoA K t fa):SoS K (tPar i j t) (fPar i j fa):=by
 intro ρ σ H δ st fl st' E l rs e q
 obtain ⟨as,st1,e1,e⟩:=xac e
 split at e
 ·cases e
  refine ha ρ σ H δ st _ _ _ l rs e1 fun x H1 ρ1 m1 l1 r1=>?_
  obtain ⟨v,w,rfl,r,r'⟩:=r1.two'
  exact ⟨v,w,rfl,q _ H1 ρ1 m1 l1 (((rs.mn m1).set r).set r')⟩
 ·cases e
noncomputable def fWhileGo (c:DSt→Dm Bool) (b:DSt→Dm Fl):Nat→DSt→Dm Fl
 | 0,_,_=>none
 | n + 1,δ,st=>bnd (c δ st) fun t st1=>if t=true then bnd (b δ st1) fun fl st2=>match fl with
   | .nx δ2=>fWhileGo c b n δ2 st2
   | .ct δ2=>fWhileGo c b n δ2 st2
   | .bk δ2=>some (.nx δ2,st2)
   | .rt d=>some (.rt d,st2)
  else some (.nx δ,st1)
noncomputable def fuel:Nat:=1000000
noncomputable def fWhile (c:DSt→Dm Bool) (b:DSt→Dm Fl):DSt→Dm Fl:=fWhileGo c b fuel
theorem yaK {tc:TT} {tb:TS} {c:DSt→Dm Bool} {b:DSt→Dm Fl} (hc:SoT K tc c) (hb:SoS K tb b):SoS K (tWhile tc tb) (fWhile c b):=by
 intro ρ σ H δ st fl st' E l rs e q
 refine ⟨fun m σ1 H1=>∃ ρ1 δ1 st1,Mn K ρ H ρ1 H1∧Rl K ρ1 H1 st1∧Rs K ρ1 H1 σ1 δ1∧fWhileGo c b m δ1 st1=some (fl,st'),⟨fuel,ρ,δ,st,.refl,l,rs,e⟩,?_⟩
 rintro m σ1 H1 ⟨ρ1,δ1,st1,m1,l1,rs1,e1⟩
 cases m with
 | zero=>cases e1
 | succ m =>
  obtain ⟨t,st2,e2,e1⟩:=xac e1
  refine hc ρ1 σ1 H1 δ1 st1 _ _ _ l1 rs1 e2 fun x H2 ρ2 m2 l2 r2=>?_
  subst r2
  cases x with
  | true =>
   refine iteT ?_
   rw [if_pos rfl] at e1
   obtain ⟨f2,st3,e3,e1⟩:=xac e1
   refine ⟨fun σ3 H3=>∃ m',m' < m + 1∧∃ ρ1 δ1 st1,Mn K ρ H ρ1 H3∧Rl K ρ1 H3 st1∧Rs K ρ1 H3 σ3 δ1∧fWhileGo c b m' δ1 st1=some (fl,st'),fun _ _ h=>h,hb ρ2 σ1 H2 δ1 st2 f2 st3 _ l2 (rs1.mn m2) e3 ?_⟩
   cases f2 with
   | nx δ3=>exact fun σ3 H3 ρ3 m3 l3 r3=>⟨m,Nat.lt_succ_self m,ρ3,δ3,st3,(m1.trans m2).trans m3,l3,r3,e1⟩
   | ct δ3=>exact fun σ3 H3 ρ3 m3 l3 r3=>⟨m,Nat.lt_succ_self m,ρ3,δ3,st3,(m1.trans m2).trans m3,l3,r3,e1⟩
   | bk δ3=>cases e1;exact q.mn (m1.trans m2)
   | rt d=>cases e1;exact q.mn (m1.trans m2)
  | false =>
   refine iteF ?_
   rw [if_neg Bool.false_ne_true] at e1
   cases e1
   exact q.mn (m1.trans m2) σ1 H2 ρ2 .refl l2 (rs1.mn m2)
inductive Src where
 | fix (ds:List D) | live (i:Nat) | enm (i:Nat) | zl (i:Nat) (es:List D) | zr (ds:List D) (i:Nat)
noncomputable def Src.at:Src→Nat→Store→Option (Option D)
 | .fix ds,i,_=>if i≤ds.length then some ds[i]? else none
 | .live r,i,st=>(items st r).map fun ds=>ds[i]?
 | .enm r,i,st=>(items st r).bind fun ds=>if i≤ds.length then some (ds.mapIdx fun i d=>D.tup [.int (i:Int),d])[i]? else none
 | .zl r es,i,st=>(items st r).bind fun ds=>if i≤(List.zipWith (fun a b=>D.tup [a,b]) ds es).length then some (List.zipWith (fun a b=>D.tup [a,b]) ds es)[i]? else none
 | .zr ds r,i,st=>(items st r).bind fun es=>if i≤(List.zipWith (fun a b=>D.tup [a,b]) ds es).length then some (List.zipWith (fun a b=>D.tup [a,b]) ds es)[i]? else none
theorem Za6 {ds:List D} {i:Nat} {st:Store} {o:Option D} (h:Src.at (.fix ds) i st=some o):i≤ds.length∧ds[i]?=o:=by
 simp only [Src.at] at h
 split at h
 ·next hl=>exact ⟨hl,Option.some.inj h⟩
 ·cases h
noncomputable def ItOk (K:PySem.W.Frag) (ρ:List Addr) (H:Hp) (J:It) (S:Src):Prop :=
 ∀ (ρ2:List Addr) (H2:Hp) (st2:Store) (i:Nat),Mn K ρ H ρ2 H2→Rl K ρ2 H2 st2 →
  (S.at i st2=some none→J.stop i H2)∧∀ d,S.at i st2=some (some d)→J.go i H2∧∀ x H3,J.yld i H2 x H3→Mn K ρ2 H2 ρ2 H3∧Rl K ρ2 H3 st2∧Rp K ρ2 H3 x d
abbrev SoI (K:PySem.W.Frag) (t:TI) (f:DSt→Dm Src):Prop:=So K (ItOk K) t f
noncomputable def fForGo (S:Src) (g:D→DSt→Dm DSt) (b:DSt→Dm Fl):Nat→Nat→DSt→Dm Fl
 | 0,_,_,_=>none
 | n + 1,i,δ,st=>match S.at i st with
  | none=>none
  | some none=>some (.nx δ,st)
  | some (some d)=>bnd (g d δ st) fun δ1 st1=>bnd (b δ1 st1) fun fl st2=>match fl with
   | .nx δ2=>fForGo S g b n (i + 1) δ2 st2
   | .ct δ2=>fForGo S g b n (i + 1) δ2 st2
   | .bk δ2=>some (.nx δ2,st2)
   | .rt d=>some (.rt d,st2)
noncomputable def fFor (fi:DSt→Dm Src) (g:D→DSt→Dm DSt) (b:DSt→Dm Fl):DSt→Dm Fl:=fun δ st=>bnd (fi δ st) fun S st1=>fForGo S g b fuel 0 δ st1
theorem xaH {wi:TI} {tg:TG} {tb:TS} {fi:DSt→Dm Src} {g:D→DSt→Dm DSt} {b:DSt→Dm Fl} (hi:SoI K wi fi) (hg:SoG K tg g) (hb:SoS K tb b):SoS K (tFor wi tg tb) (fFor fi g b):=by
 intro ρ σ H δ st fl st' E l rs e q
 obtain ⟨S,st0,e0,e⟩:=xac e
 refine hi ρ σ H δ st S st0 _ l rs e0 fun J H0 ρ0 m0 l0 ok=>?_
 refine ⟨fun i m σ1 H1=>∃ ρ1 δ1 st1,Mn K ρ0 H0 ρ1 H1∧Rl K ρ1 H1 st1∧Rs K ρ1 H1 σ1 δ1∧fForGo S g b m i δ1 st1=some (fl,st'),⟨fuel,ρ0,δ,st0,.refl,l0,rs.mn m0,e⟩,?_⟩
 rintro i m σ1 H1 ⟨ρ1,δ1,st1,m1,l1,rs1,e1⟩
 cases m with
 | zero=>cases e1
 | succ m =>
  obtain ⟨hstop,hgo⟩:=ok ρ1 H1 st1 i m1 l1
  unfold fForGo at e1
  split at e1
  ·cases e1
  ·next hs=>cases e1;exact .inl ⟨hstop hs,q.mn (m0.trans m1) σ1 H1 ρ1 .refl l1 rs1⟩
  ·next d hs =>
   obtain ⟨δ2,st2,e2,e1⟩:=xac e1
   obtain ⟨f3,st3,e3,e1⟩:=xac e1
   obtain ⟨go,yld⟩:=hgo d hs
   refine .inr ⟨go,fun σ3 H3=>∃ m',m' < m + 1∧∃ ρ1 δ1 st1,Mn K ρ0 H0 ρ1 H3∧Rl K ρ1 H3 st1∧Rs K ρ1 H3 σ3 δ1∧fForGo S g b m' (i + 1) δ1 st1=some (fl,st'),fun _ _ h=>h,fun x H2 hy=>?_⟩
   obtain ⟨m2,l2,r2⟩:=yld x H2 hy
   refine hg ρ1 σ1 H2 δ1 st1 x d δ2 st2 _ l2 (rs1.mn m2) r2 e2 fun σ4 H4 ρ4 m4 l4 r4=>hb ρ4 σ4 H4 δ2 st2 f3 st3 _ l4 r4 e3 ?_
   have m5:=((m1.trans m2).trans m4)
   cases f3 with
   | nx δ3=>exact fun σ5 H5 ρ5 m6 l5 r5=>⟨m,Nat.lt_succ_self m,ρ5,δ3,st3,m5.trans m6,l5,r5,e1⟩
   | ct δ3=>exact fun σ5 H5 ρ5 m6 l5 r5=>⟨m,Nat.lt_succ_self m,ρ5,δ3,st3,m5.trans m6,l5,r5,e1⟩
   | bk δ3=>cases e1;exact q.mn (m0.trans m5)
   | rt d=>cases e1;exact q.mn (m0.trans m5)
noncomputable def iTupF (fa:DSt→Dm D):DSt→Dm Src:=fun δ st=>bnd (fa δ st) fun a st1=>match a with
 | .tup ds=>some (.fix ds,st1)
 | _=>none
theorem yau {t:TE} {fa:DSt→Dm D} (ha:SoE K t fa):SoI K (iTup K t) (iTupF fa):=by
 intro ρ σ H δ st S st' Q l rs e q
 obtain ⟨a,st1,e1,e⟩:=xac e
 cases a <;> simp at e
 obtain ⟨rfl,rfl⟩:=e
 refine ha ρ σ H δ st _ _ _ l rs e1 fun x H1 ρ1 m1 l1 r1=>?_
 cases r1 with
 | tup s r =>
  refine ⟨_,rfl,⟨_,s⟩,q _ H1 ρ1 m1 l1 fun ρ2 H2 st2 i m2 l2=>⟨fun h=>?_,fun d h=>?_⟩⟩
  ·exact ⟨_,m2.t _ _ s,by rw [r.length];exact List.getElem?_eq_none_iff.mp (Za6 h).2⟩
  ·obtain ⟨v,hv,rv⟩:=r.got (Za6 h).2
   refine ⟨⟨_,v,m2.t _ _ s,hv⟩,fun x H3 y=>?_⟩
   obtain ⟨rfl,hx⟩:=y
   have:=hx _ (m2.t _ _ s)
   rw [hv] at this
   cases this
   exact ⟨.refl,l2,rv.mn m2⟩
noncomputable def iListF (fa:DSt→Dm D):DSt→Dm Src:=fun δ st=>bnd (fa δ st) fun a st1=>match a with
 | .ref i=>match items st1 i with
  | some _=>some (.live i,st1)
  | none=>none
 | _=>none
theorem xaX {t:TE} {fa:DSt→Dm D} (ha:SoE K t fa):SoI K (iList K t) (iListF fa):=by
 intro ρ σ H δ st S st' Q l rs e q
 obtain ⟨a,st1,e1,e⟩:=xac e
 split at e
 ·next k =>
  split at e
  ·next ds hd =>
   cases e
   refine ha ρ σ H δ st _ _ _ l rs e1 fun x H1 ρ1 m1 l1 r1=>?_
   cases r1 with
   | ref hi =>
    obtain ⟨vs,s,r⟩:=l1.items hi hd
    refine ⟨_,rfl,⟨_,s⟩,q _ H1 ρ1 m1 l1 fun ρ2 H2 st2 i m2 l2=>⟨fun h=>?_,fun d h=>?_⟩⟩
    ·obtain ⟨ds2,hd2,h⟩:=Option.map_eq_some_iff.mp h
     obtain ⟨vs2,s2,r2⟩:=l2.items (m2.r _ _ hi) hd2
     exact ⟨vs2,s2,by rw [r2.length];exact List.getElem?_eq_none_iff.mp h⟩
    ·obtain ⟨ds2,hd2,h⟩:=Option.map_eq_some_iff.mp h
     obtain ⟨vs2,s2,r2⟩:=l2.items (m2.r _ _ hi) hd2
     obtain ⟨v,hv,rv⟩:=r2.got h
     refine ⟨⟨_,v,s2,hv⟩,fun x H3 y=>?_⟩
     obtain ⟨rfl,hx⟩:=y
     have:=hx _ s2
     rw [hv] at this
     cases this
     exact ⟨.refl,l2,rv⟩
  ·cases e
 ·cases e
noncomputable def iRng1F (fa:DSt→Dm (List D)):DSt→Dm Src:=fun δ st=>bnd (fa δ st) fun as st1=>match as with
 | [.int j]=>if decide (-4611686018427387904≤j∧j < 4611686018427387904)=true then some (.fix (rangeD 0 j.toNat),st1) else none
 | _=>none
noncomputable def iRng2F (fa:DSt→Dm (List D)):DSt→Dm Src:=fun δ st=>bnd (fa δ st) fun as st1=>match as with
 | [.int i,.int j]=>if decide ((-4611686018427387904≤i∧i < 4611686018427387904)∧-4611686018427387904≤j∧j < 4611686018427387904)=true then some (.fix (rangeD i (j - i).toNat),st1) else none
 | _=>none
theorem Xab (lo:Int) (n:Nat):(rangeD lo n).length=n:=by simp [rangeD]
theorem XaH {lo:Int} {n k:Nat} (h:k < n):(rangeD lo n)[k]?=some (.int (lo + k)):=by simp [rangeD,h]
theorem it_rng {ρ:List Addr} {H:Hp} (lo:Int) (n:Nat):ItOk K ρ H (Itr lo n) (.fix (rangeD lo n)):=by
 intro ρ2 H2 st2 i m2 l2
 refine ⟨fun h=>?_,fun d h=>?_⟩
 ·have:=List.getElem?_eq_none_iff.mp (Za6 h).2
  rw [Xab] at this
  exact this
 ·have h:=(Za6 h).2
  have hl:=(List.getElem?_eq_some_iff.mp h).1
  rw [Xab] at hl
  rw [XaH hl] at h
  cases h
  refine ⟨hl,fun x H3 y=>?_⟩
  obtain ⟨rfl,rfl⟩:=y
  exact ⟨.refl,l2,.int _⟩
theorem xam {t:TA} {fa:DSt→Dm (List D)} (ha:SoA K t fa):SoI K (iRng1 t) (iRng1F fa):=by
 intro ρ σ H δ st S st' Q l rs e q
 obtain ⟨as,st1,e1,e⟩:=xac e
 split at e
 ·split at e
  ·next ok =>
   cases e
   have ok:=of_decide_eq_true ok
   refine ha ρ σ H δ st _ _ _ l rs e1 fun x H1 ρ1 m1 l1 r1=>?_
   obtain ⟨v,rfl,r⟩:=r1.one'
   cases r
   exact ⟨_,rfl,by omega,by omega,q _ H1 ρ1 m1 l1 (it_rng 0 _)⟩
  ·cases e
 ·cases e
noncomputable def enumD (ds:List D):List D:=ds.mapIdx fun i d=>.tup [.int (i:Int),d]
theorem yaO (ds:List D):(enumD ds).length=ds.length:=by simp [enumD]
theorem ybi {ds:List D} {i:Nat} {x:D} (h:(enumD ds)[i]?=some x):∃ d,ds[i]?=some d∧x=.tup [.int (i:Int),d]:=by
 unfold enumD at h
 rw [List.getElem?_mapIdx] at h
 obtain ⟨d,h1,h2⟩:=Option.map_eq_some_iff.mp h
 exact ⟨d,h1,h2.symm⟩
noncomputable def iEnumF (fa:DSt→Dm (List D)):DSt→Dm Src:=fun δ st=>bnd (fa δ st) fun as st1=>match as with
 | [.tup ds]=>some (.fix (enumD ds),st1)
 | _=>none
theorem XbV {t:TA} {fa:DSt→Dm (List D)} (ha:SoA K t fa):SoI K (iEnum K t) (iEnumF fa):=by
 intro ρ σ H δ st S st' Q l rs e q
 obtain ⟨as,st1,e1,e⟩:=xac e
 split at e
 ·cases e
  refine ha ρ σ H δ st _ _ _ l rs e1 fun x H1 ρ1 m1 l1 r1=>?_
  obtain ⟨v,rfl,r⟩:=r1.one'
  cases r with
  | tup s r =>
   refine ⟨_,rfl,⟨_,s⟩,q _ H1 ρ1 m1 l1 fun ρ2 H2 st2 i m2 l2=>⟨fun h=>?_,fun d h=>?_⟩⟩
   ·obtain ⟨h1,h2⟩:=Za6 h
    have h2:=List.getElem?_eq_none_iff.mp h2
    rw [yaO] at h1 h2
    exact ⟨_,m2.t _ _ s,by rw [r.length];omega⟩
   ·obtain ⟨h1,h2⟩:=Za6 h
    obtain ⟨d',hd',rfl⟩:=ybi h2
    obtain ⟨v,hv,rv⟩:=r.got hd'
    refine ⟨⟨_,v,m2.t _ _ s,hv⟩,fun x H3 y=>?_⟩
    obtain ⟨p,z,rfl,hp,rfl,hx⟩:=y
    have:=hx _ (m2.t _ _ s)
    rw [hv] at this
    cases this
    have m3:Mn K ρ2 H2 ρ2 (upd H2 p (.tup [.int (i:Int),v])):=Mn.same (Same.up hp)
    exact ⟨m3,l2.same (Same.up hp),.tup (SqT.of zao) (.cons (.int _) (.one ((rv.mn m2).mn m3)))⟩
 ·cases e
noncomputable def fCompGo (S:Src) (g:D→DSt→Dm DSt) (tc:DSt→Dm Bool) (te:DSt→Dm D):Nat→Nat→List D→DSt→Dm (List D)
 | 0,_,_,_,_=>none
 | n + 1,i,ys,δ,st=>if lim ys.length=true then match S.at i st with
  | none=>none
  | some none=>some (ys,st)
  | some (some d)=>bnd (g d δ st) fun δ1 st1=>bnd (tc δ1 st1) fun t st2=>if t=true then bnd (te δ1 st2) fun y st3=>fCompGo S g tc te n (i + 1) (ys ++ [y]) δ1 st3 else fCompGo S g tc te n (i + 1) ys δ1 st2
  else none
noncomputable def compD (n:Nat) (js:List Nat) (δ:DSt):DSt:=List.replicate n none ++ js.map fun j=>δ.getD j none
noncomputable def fComp (fi:DSt→Dm Src) (n:Nat) (js:List Nat) (g:D→DSt→Dm DSt) (tc:DSt→Dm Bool) (te:DSt→Dm D):DSt→Dm D:=fun δ st=>bnd (fi δ st) fun S st1=>bnd (fCompGo S g tc te fuel 0 [] (compD n js δ) st1) fun ys st2=>some (.ref st2.length,st2 ++ [.lst ys])
theorem Rs.comp {ρ:List Addr} {H:Hp} {σ:St} {δ:DSt} (h:Rs K ρ H σ δ) (n:Nat) (js:List Nat):Rs K ρ H (compSt n js σ) (compD n js δ):=by
 unfold compSt compD
 refine ⟨by simp,fun i d hd=>?_⟩
 by_cases hi:i < n
 ·rw [List.getElem?_append_left (by simpa using hi),List.getElem?_replicate,if_pos hi] at hd
  cases hd
 ·rw [List.getElem?_append_right (by simpa using Nat.le_of_not_lt hi),List.getElem?_map] at hd
  rw [List.getElem?_append_right (by simpa using Nat.le_of_not_lt hi),List.getElem?_map]
  simp only [List.length_replicate] at hd ⊢
  cases hj:js[i - n]? with
  | none=>rw [hj] at hd;cases hd
  | some j =>
   rw [hj] at hd
   have hd:δ.getD j none=some d:=Option.some.inj hd
   rw [List.getD_eq_getElem?_getD] at hd
   have hd':δ[j]?=some (some d):=by
    cases hx:δ[j]? with
    | none=>rw [hx] at hd;cases hd
    | some y=>rw [hx] at hd;exact congrArg some hd
   obtain ⟨v,hv,r⟩:=h.2 j d hd'
   exact ⟨v,by show some (σ.getD j none)=_;rw [List.getD_eq_getElem?_getD,hv];rfl,r⟩
theorem Xak {wi:TI} {tg:TG} {tc:TT} {te:TE} {fi:DSt→Dm Src} {n:Nat} {js:List Nat} {g:D→DSt→Dm DSt} {c:DSt→Dm Bool} {f:DSt→Dm D} (hi:SoI K wi fi) (hg:SoG K tg g) (hc:SoT K tc c) (hf:SoE K te f):SoE K (tComp wi n js tg tc te) (fComp fi n js g c f):=by
 intro ρ σ H δ st b st' Q l rs e q
 obtain ⟨S,st0,e0,e⟩:=xac e
 obtain ⟨zs,st9,e9,e⟩:=xac e
 cases e
 refine hi ρ σ H δ st S st0 _ l rs e0 fun J H0 ρ0 m0 l0 ok=>?_
 refine ⟨fun i m ys σ1 H1=>∃ ρ1 δ1 st1 ws,Mn K ρ0 H0 ρ1 H1∧Rl K ρ1 H1 st1∧Rs K ρ1 H1 σ1 δ1∧Rps K ρ1 H1 ys ws∧fCompGo S g c f m i ws δ1 st1=some (zs,st9),⟨fuel,ρ0,_,st0,[],.refl,l0,(rs.mn m0).comp n js,.nil,e9⟩,?_⟩
 rintro i m ys σ1 H1 ⟨ρ1,δ1,st1,ws,m1,l1,rs1,rw1,e1⟩
 cases m with
 | zero=>cases e1
 | succ m =>
  obtain ⟨hstop,hgo⟩:=ok ρ1 H1 st1 i m1 l1
  unfold fCompGo at e1
  split at e1
  ·next hl =>
   refine ⟨by rw [rw1.length];exact ybs hl,?_⟩
   split at e1
   ·cases e1
   ·next hs =>
    cases e1
    exact .inl ⟨hstop hs,fun p hp=>q _ _ _ ((m0.trans m1).trans (Mn.new hp)) (l1.newL hp rw1) (.ref (newR l1))⟩
   ·next d hs =>
    obtain ⟨δ2,st2,e2,e1⟩:=xac e1
    obtain ⟨t,st3,e3,e1⟩:=xac e1
    obtain ⟨go,yld⟩:=hgo d hs
    refine .inr ⟨go,fun x H2 hy=>?_⟩
    obtain ⟨m2,l2,r2⟩:=yld x H2 hy
    refine hg ρ1 σ1 H2 δ1 st1 x d δ2 st2 _ l2 (rs1.mn m2) r2 e2 fun σ4 H4 ρ4 m4 l4 r4=>hc ρ4 σ4 H4 δ2 st2 t st3 _ l4 r4 e3 fun t' H5 ρ5 m5 l5 r5=>?_
    subst r5
    have m6:=(((m1.trans m2).trans m4).trans m5)
    cases t' with
    | true =>
     refine iteT ?_
     rw [if_pos rfl] at e1
     obtain ⟨y,st6,e6,e1⟩:=xac e1
     exact hf ρ5 σ4 H5 δ2 st3 y st6 _ l5 (r4.mn m5) e6 fun v H7 ρ7 m7 l7 r7=>⟨m,Nat.lt_succ_self m,ρ7,δ2,st6,ws ++ [y],m6.trans m7,l7,r4.mn (m5.trans m7),(rw1.mn (((m2.trans m4).trans m5).trans m7)).append (.one r7),e1⟩
    | false =>
     refine iteF ?_
     rw [if_neg Bool.false_ne_true] at e1
     exact ⟨m,Nat.lt_succ_self m,ρ5,δ2,st3,ws,m6,l5,r4.mn m5,rw1.mn ((m2.trans m4).trans m5),e1⟩
  ·cases e1
noncomputable def fTrue:DSt→Dm Bool:=fun _ st=>some (true,st)
noncomputable def fnF (n:Nat) (b:DSt→Dm Fl):List D→Dm D:=fun ds st=>bnd (b (ds.map some ++ List.replicate (n - ds.length) none) st) fun fl st1=>match fl with
 | .rt d=>some (d,st1)
 | .nx _=>some (.non,st1)
 | _=>none
theorem Rs.start {ρ:List Addr} {H:Hp} {vs:List V} {ds:List D} (r:Rps K ρ H vs ds) (N:List Str):Rs K ρ H (start N vs) (ds.map some ++ List.replicate (N.length - ds.length) none):=by
 unfold L2.start
 rw [r.length]
 refine ⟨by simp [r.length],fun i d hd=>?_⟩
 by_cases hi:i < ds.length
 ·rw [List.getElem?_append_left (by simpa using hi),List.getElem?_map] at hd
  rw [List.getElem?_append_left (by rw [List.length_map,r.length];exact hi),List.getElem?_map]
  cases hx:ds[i]? with
  | none=>rw [hx] at hd;cases hd
  | some y =>
   rw [hx] at hd
   cases hd
   obtain ⟨v,hv,rv⟩:=r.got hx
   exact ⟨v,by rw [hv];rfl,rv⟩
 ·rw [List.getElem?_append_right (by simpa using Nat.le_of_not_lt hi),List.getElem?_replicate] at hd
  split at hd <;> cases hd
theorem xaB {N:List Str} {k n:Nat} {t:TS} {b:DSt→Dm Fl} {vs:List V} {H:Hp} {Q:VK} {E:XK} (hb:SoS K t b) (hn:N.length=n) (h:spF K k (fnF n b) vs H Q E):t { nx:=fun _ H'=>Q .non H',rt:=Q } (start N vs) H:=by
 obtain ⟨hk,ρ,st,ds,d,st',l,r,e,q⟩:=h
 subst hn
 obtain ⟨fl,st1,e1,e⟩:=xac e
 refine hb ρ _ H _ st fl st1 _ l (Rs.start r N) e1 ?_
 cases fl with
 | rt v=>cases e;exact q
 | nx δ=>cases e;exact fun σ' H' ρ' m l' r'=>q .non H' ρ' m l' .non
 | bk δ=>cases e
 | ct δ=>cases e
end
end L4
namespace L4
open PySem PySem.Spec L2
section
variable {X:Cx} {K:PySem.W.Frag}
theorem Xby {N:List Str} {scope1:Scope} {cells:List (Str×Addr)} {C:Addr} {fp:List Addr} {s:Shared} {H:Hp} {scope2:Scope} {own fr:List Str} (h:CompS (relabelS scope1 X.env.scope) scope2 own fr):CompS (cxComp X N scope1 cells C fp s H).env.scope scope2 own fr:=h
theorem Zau:SoT K (fun _ H Q=>Q true H) fTrue:=by
 intro ρ σ H δ st b st' Q l rs e q
 cases e
 exact q _ H ρ .refl l rfl
end
noncomputable def spLaw (K:PySem.W.Frag):Sp:=fun vs H Q _=>∃ (a:Addr) (ns:List Int),vs=[.ref a]∧SqF K H a (ns.map V.int)∧ns.length≤63∧∀ H',Q (.bl true) H'
theorem law_of {P:Program} {w:World} {K:PySem.W.Frag} {mg:Str→Option Value} {base:Heap} {k:Nat} {f:Addr} {fd:FuncData} {ps:List Str} {F:List D→Dm D} (G:FnOk P w K mg base CX0 k f fd ps (spF K 1 F))
  (h:∀ ns:List Int,ns.length≤63→∃ st',F [.ref 0] [.fzn (ns.map D.int)]=some (.bl true,st')):FnOk P w K mg base CX0 k f fd ps (spLaw K):=by
 refine G.imp fun vs H Q E hs=>?_
 obtain ⟨a,ns,rfl,hS,hn,q⟩:=hs
 obtain ⟨st',e⟩:=h ns hn
 have one:∀ i (b:Addr),([a]:List Addr)[i]?=some b→i=0∧b=a:=fun i b h=>by
  cases i with
  | zero=>exact ⟨rfl,(Option.some.inj h).symm⟩
  | succ i=>simp at h
 refine ⟨rfl,[a],[.fzn (ns.map D.int)],[.ref 0],.bl true,st',⟨rfl,fun i j b o o' h1 h2 _ _ _ _=>by rw [(one i b h1).1,(one j b h2).1],fun i b o h1 h2=>?_⟩,.one (.ref rfl),e,fun v H' ρ' m l r=>by cases r;exact q H'⟩
 obtain ⟨rfl,rfl⟩:=one i b h1
 cases (Option.some.inj h2)
 exact ⟨ns.map V.int,hS,Rps.ints ns⟩
noncomputable def Wp {α:Type} (m:Option (α×Store)) (Q:α→Store→Prop):Prop:=∃ a st,m=some (a,st)∧Q a st
section
variable {α β:Type} {Q Q':α→Store→Prop} {st:Store} {δ:DSt}
theorem Yab {m:Option (α×Store)} (h:Wp m Q) (hq:∀ a st,Q a st→Q' a st):Wp m Q':=let ⟨a,st,e,q⟩:=h;⟨a,st,e,hq a st q⟩
theorem Zab {a:α}:Wp (some (a,st)) Q↔Q a st:=⟨fun ⟨_,_,e,q⟩=>by cases e;exact q,fun q=>⟨a,st,rfl,q⟩⟩
theorem Zae:Wp (none:Option (α×Store)) Q↔False:=⟨fun ⟨_,_,e,_⟩=>(by cases e),False.elim⟩
theorem yae {R:β→Store→Prop} {m:Option (α×Store)} {k:α→Dm β}:Wp (bnd m k) R↔Wp m fun a st1=>Wp (k a st1) R:=by
 cases m with
 | none=>exact ⟨fun ⟨_,_,e,_⟩=>(by cases e),fun ⟨_,_,e,_⟩=>(by cases e)⟩
 | some p=>exact ⟨fun h=>⟨p.1,p.2,rfl,h⟩,fun ⟨a,s,e,h⟩=>by cases e;exact h⟩
theorem Yau {c:Prop} [Decidable c] {m n:Option (α×Store)}:Wp (if c then m else n) Q↔if c then Wp m Q else Wp n Q:=by split <;> exact Iff.rfl
end
section
variable {st:Store} {δ:DSt} {Q:D→Store→Prop}
theorem wp_var {i:Nat}:Wp (fVar i δ st) Q↔∃ d,δ[i]?=some (some d)∧Q d st:=by
 unfold fVar
 split
 ·next d hd=>rw [Zab];exact ⟨fun h=>⟨d,hd,h⟩,fun ⟨e,he,h⟩=>by rw [hd] at he;cases he;exact h⟩
 ·next h=>rw [Zae];exact ⟨False.elim,fun ⟨e,he,_⟩=>h e he⟩
theorem wp_c {d:D}:Wp (fC d δ st) Q↔Q d st:=Zab
theorem wp_op {g:D→D→Dm D} {fa fb:DSt→Dm D}:Wp (fOp g fa fb δ st) Q↔Wp (fa δ st) fun a st1=>Wp (fb δ st1) fun b st2=>Wp (g a b st2) Q:=by
 unfold fOp;rw [yae];simp only [yae]
theorem wp_un {g:D→Dm D} {fa:DSt→Dm D}:Wp (fUn g fa δ st) Q↔Wp (fa δ st) fun a st1=>Wp (g a st1) Q:=yae
theorem wp_cb {g:List D→Dm D} {fa:DSt→Dm (List D)}:Wp (fCB g fa δ st) Q↔Wp (fa δ st) fun a st1=>Wp (g a st1) Q:=yae
theorem wp_nil {R:List D→Store→Prop}:Wp (fNil δ st) R↔R [] st:=Zab
theorem zca {R:List D→Store→Prop} {fa:DSt→Dm D} {fr:DSt→Dm (List D)}:Wp (fCons fa fr δ st) R↔Wp (fa δ st) fun a st1=>Wp (fr δ st1) fun r st2=>R (a :: r) st2:=by
 unfold fCons;rw [yae];simp only [yae,Zab]
theorem wp_tup {fa:DSt→Dm (List D)}:Wp (fTup fa δ st) Q↔Wp (fa δ st) fun as st1=>lim as.length=true∧Q (.tup as) st1:=by
 unfold fTup;rw [yae];simp only [Yau,Zab,Zae]
 constructor <;> exact fun h=>Yab h fun a s h=>by first | (split at h;exact ⟨by assumption,h⟩;exact h.elim) | (rw [if_pos h.1];exact h.2)
theorem wp_lst {fa:DSt→Dm (List D)}:Wp (fLst fa δ st) Q↔Wp (fa δ st) fun as st1=>lim as.length=true∧Q (.ref st1.length) (st1 ++ [.lst as]):=by
 unfold fLst;rw [yae];simp only [Yau,Zab,Zae]
 constructor <;> exact fun h=>Yab h fun a s h=>by first | (split at h;exact ⟨by assumption,h⟩;exact h.elim) | (rw [if_pos h.1];exact h.2)
theorem yca {R:Bool→Store→Prop} {fa:DSt→Dm D}:Wp (fTest fa δ st) R↔Wp (fa δ st) fun a st1=>∃ b,a=.bl b∧R b st1:=by
 unfold fTest;rw [yae]
 constructor <;> refine fun h=>Yab h fun a s h=>?_
 ·cases a <;> simp only [Zab,Zae] at h
  exact ⟨_,rfl,h⟩
 ·obtain ⟨b,rfl,h⟩:=h
  exact Zab.mpr h
theorem wp_not {R:Bool→Store→Prop} {fa:DSt→Dm Bool}:Wp (fNot fa δ st) R↔Wp (fa δ st) fun a st1=>R (!a) st1:=by
 unfold fNot;rw [yae];simp only [Zab]
theorem wp_and {R:Bool→Store→Prop} {fa fb:DSt→Dm Bool}:Wp (fAnd fa fb δ st) R↔Wp (fa δ st) fun a st1=>if a=true then Wp (fb δ st1) R else R false st1:=by
 unfold fAnd;rw [yae];simp only [Yau,Zab]
theorem wp_or {R:Bool→Store→Prop} {fa fb:DSt→Dm Bool}:Wp (fOr fa fb δ st) R↔Wp (fa δ st) fun a st1=>if a=true then R true st1 else Wp (fb δ st1) R:=by
 unfold fOr;rw [yae];simp only [Yau,Zab]
theorem wp_if {α:Type} {R:α→Store→Prop} {c:DSt→Dm Bool} {fa fb:DSt→Dm α}:Wp (fIf c fa fb δ st) R↔Wp (c δ st) fun a st1=>if a=true then Wp (fa δ st1) R else Wp (fb δ st1) R:=by
 unfold fIf;rw [yae];simp only [Yau]
theorem Zca {fa fb:DSt→Dm D}:Wp (fAndV fa fb δ st) Q↔Wp (fTest fa δ st) fun a st1=>if a=true then Wp (fb δ st1) Q else Q (.bl false) st1:=by
 unfold fAndV;rw [yae];simp only [Yau,Zab]
theorem wp_orV {fa fb:DSt→Dm D}:Wp (fOrV fa fb δ st) Q↔Wp (fTest fa δ st) fun a st1=>if a=true then Q (.bl true) st1 else Wp (fb δ st1) Q:=by
 unfold fOrV;rw [yae];simp only [Yau,Zab]
theorem Yca {fa:DSt→Dm D}:Wp (fNotV fa δ st) Q↔Wp (fTest fa δ st) fun a st1=>Q (.bl (!a)) st1:=by
 unfold fNotV;rw [yae];simp only [Zab]
theorem xbL {R:Option Int→Store→Prop}:Wp (fNoPart δ st) R↔R none st:=Zab
theorem xca {R:Option Int→Store→Prop} {fa:DSt→Dm D}:Wp (fPart fa δ st) R↔Wp (fa δ st) fun a st1=>∃ i,a=.int i∧R (some i) st1:=by
 unfold fPart;rw [yae]
 constructor <;> refine fun h=>Yab h fun a s h=>?_
 ·cases a <;> simp only [Zab,Zae] at h
  exact ⟨_,rfl,h⟩
 ·obtain ⟨b,rfl,h⟩:=h
  exact Zab.mpr h
theorem wp_sl {g:D→Option Int→Option Int→Dm D} {fa:DSt→Dm D} {fl fh:DSt→Dm (Option Int)}:Wp (fSl g fa fl fh δ st) Q↔Wp (fa δ st) fun a st1=>Wp (fl δ st1) fun lo st2=>Wp (fh δ st2) fun hi st3=>Wp (g a lo hi st3) Q:=by
 unfold fSl;rw [yae];simp only [yae]
theorem wp_bm {T:String} {g:D→List D→Dm D} {fo:DSt→Dm D} {fa:DSt→Dm (List D)}:Wp (fBM T g fo fa δ st) Q↔Wp (fo δ st) fun o st1=>tyD T st1 o=true∧Wp (fa δ st1) fun as st2=>Wp (g o as st2) Q:=by
 unfold fBM;rw [yae];simp only [Yau,yae,Zae]
 constructor <;> exact fun h=>Yab h fun a s h=>by first | (split at h;exact ⟨by assumption,h⟩;exact h.elim) | (rw [if_pos h.1];exact h.2)
variable {i j:Int} {ds es:List D} {k:Nat}
theorem wp_add:Wp (gAdd (.int i) (.int j) st) Q↔Q (.int (i + j)) st:=Zab
theorem wp_sub:Wp (gSub (.int i) (.int j) st) Q↔Q (.int (i - j)) st:=Zab
theorem wp_lt:Wp (gLt (.int i) (.int j) st) Q↔Q (.bl (decide (i < j))) st:=Zab
theorem wp_le:Wp (gLe (.int i) (.int j) st) Q↔Q (.bl (decide (i≤j))) st:=Zab
theorem wp_gt:Wp (gGt (.int i) (.int j) st) Q↔Q (.bl (decide (j < i))) st:=Zab
theorem wp_ge:Wp (gGe (.int i) (.int j) st) Q↔Q (.bl (decide (j≤i))) st:=Zab
theorem wp_neg:Wp (gNeg (.int i) st) Q↔Q (.int (-i)) st:=Zab
theorem zbW {c:Int→Int→Bool} {h:Int→Int→D}:Wp (gIC c h (.int i) (.int j) st) Q↔c i j=true∧Q (h i j) st:=by
 show Wp (if c i j=true then some (h i j,st) else none) Q↔_
 rw [Yau,Zab,Zae]
 split
 ·next h=>exact ⟨fun q=>⟨h,q⟩,fun q=>q.2⟩
 ·next h=>exact ⟨False.elim,fun q=>h q.1⟩
theorem wp_mul:Wp (gMul (.int i) (.int j) st) Q↔((-18446744073709551616 < i∧i < 18446744073709551616)∨(-18446744073709551616 < j∧j < 18446744073709551616))∧Q (.int (i * j)) st:=by
 unfold gMul;rw [zbW,Bool.or_eq_true,decide_eq_true_eq,decide_eq_true_eq]
theorem Xca:Wp (gFdiv (.int i) (.int j) st) Q↔(0 < j∧j < 1073741824)∧Q (.int (i / j)) st:=by unfold gFdiv;rw [zbW,decide_eq_true_eq]
theorem wp_mod:Wp (gMod (.int i) (.int j) st) Q↔0 < j∧Q (.int (i % j)) st:=by unfold gMod;rw [zbW,decide_eq_true_eq]
theorem wp_pow:Wp (gPow (.int i) (.int j) st) Q↔(0≤j∧j≤1000000∧i.natAbs < 18446744073709551616)∧Q (.int (i ^ j.toNat)) st:=by unfold gPow;rw [zbW,decide_eq_true_eq]
theorem wp_eqI {neg:Bool}:Wp (gEq neg (.int i) (.int j) st) Q↔Q (.bl (if neg then !decide (i=j) else decide (i=j))) st:=by
 have e:decide (V.int i=V.int j)=decide (i=j):=by
  by_cases h:i=j
  ·subst h;simp
  ·simp [h]
 show Wp (if scal (V.int i) (V.int j)=true then some (D.bl (if neg then !decide (V.int i=V.int j) else decide (V.int i=V.int j)),st) else none) Q↔_
 rw [if_pos (show scal _ _=true from rfl),Zab,e]
theorem wp_eqS {neg:Bool} {x y:Str}:Wp (gEq neg (.str x) (.str y) st) Q↔Q (.bl (if neg then !decide (x=y) else decide (x=y))) st:=by
 have e:decide (V.str x=V.str y)=decide (x=y):=by
  by_cases h:x=y
  ·subst h;simp
  ·simp [h]
 show Wp (if scal (V.str x) (V.str y)=true then some (D.bl (if neg then !decide (V.str x=V.str y) else decide (V.str x=V.str y)),st) else none) Q↔_
 rw [if_pos (show scal _ _=true from rfl),Zab,e]
theorem wp_ixT:Wp (gIxT (.tup ds) (.int i) st) Q↔∃ d,atI ds i=some d∧Q d st:=by
 show Wp (match atI ds i with | some d=>some (d,st) | none=>none) Q↔_
 cases atI ds i with
 | none=>rw [Zae];exact ⟨False.elim,fun ⟨_,e,_⟩=>by cases e⟩
 | some d=>rw [Zab];exact ⟨fun q=>⟨d,rfl,q⟩,fun ⟨_,e,q⟩=>by cases e;exact q⟩
theorem wp_ixL:Wp (gIxL (.ref k) (.int i) st) Q↔∃ ds d,items st k=some ds∧atI ds i=some d∧Q d st:=by
 show Wp (match items st k with | some ds=>(match atI ds i with | some d=>some (d,st) | none=>none) | none=>none) Q↔_
 cases items st k with
 | none=>rw [Zae];exact ⟨False.elim,fun ⟨_,_,e,_⟩=>by cases e⟩
 | some ds =>
  show Wp (match atI ds i with | some d=>some (d,st) | none=>none) Q↔_
  cases h:atI ds i with
  | none=>rw [Zae];exact ⟨False.elim,fun ⟨_,_,e,e',_⟩=>by cases e;rw [h] at e';cases e'⟩
  | some d=>rw [Zab];exact ⟨fun q=>⟨ds,d,rfl,h,q⟩,fun ⟨_,_,e,e',q⟩=>by cases e;rw [h] at e';cases e';exact q⟩
theorem wp_slT {lo hi:Option Int}:Wp (gSlT (.tup ds) lo hi st) Q↔Q (.tup (cutD ds lo hi)) st:=Zab
theorem wp_slL {lo hi:Option Int}:Wp (gSlL (.ref k) lo hi st) Q↔∃ ds,items st k=some ds∧Q (.ref st.length) (st ++ [.lst (cutD ds lo hi)]):=by
 show Wp (match items st k with | some ds=>some (D.ref st.length,st ++ [O.lst (cutD ds lo hi)]) | none=>none) Q↔_
 cases items st k with
 | none=>rw [Zae];exact ⟨False.elim,fun ⟨_,e,_⟩=>by cases e⟩
 | some ds=>rw [Zab];exact ⟨fun q=>⟨ds,rfl,q⟩,fun ⟨_,e,q⟩=>by cases e;exact q⟩
theorem zcb:Wp (gCatT (.tup ds) (.tup es) st) Q↔lim (ds.length + es.length)=true∧Q (.tup (ds ++ es)) st:=by
 show Wp (if lim (ds.length + es.length)=true then some (D.tup (ds ++ es),st) else none) Q↔_
 rw [Yau,Zab,Zae]
 split
 ·next h=>exact ⟨fun q=>⟨h,q⟩,fun q=>q.2⟩
 ·next h=>exact ⟨False.elim,fun q=>h q.1⟩
theorem wp_cat {a b:Nat}:Wp (gCat (.ref a) (.ref b) st) Q↔∃ xs ys,own st a=some xs∧own st b=some ys∧lim (xs.length + ys.length)=true∧Q (.ref st.length) (st ++ [.lst (xs ++ ys)]):=by
 show Wp (match own st a,own st b with | some xs,some ys=>if lim (xs.length + ys.length)=true then some (D.ref st.length,st ++ [O.lst (xs ++ ys)]) else none | _,_=>none) Q↔_
 cases ha:own st a <;> cases hb:own st b
 ·simp only [Zae];exact ⟨False.elim,fun ⟨_,_,e,_⟩=>by cases e⟩
 ·simp only [Zae];exact ⟨False.elim,fun ⟨_,_,e,_⟩=>by cases e⟩
 ·simp only [Zae];exact ⟨False.elim,fun ⟨_,_,_,e,_⟩=>by cases e⟩
 ·next xs ys =>
  show Wp (if lim (xs.length + ys.length)=true then some (D.ref st.length,st ++ [O.lst (xs ++ ys)]) else none) Q↔_
  rw [Yau,Zab,Zae]
  split
  ·next h=>exact ⟨fun q=>⟨_,_,rfl,rfl,h,q⟩,fun ⟨_,_,e,e',_,q⟩=>by cases e;cases e';exact q⟩
  ·next h=>exact ⟨False.elim,fun ⟨_,_,e,e',q,_⟩=>by cases e;cases e';exact h q⟩
theorem wp_len {a:D}:Wp (gLen [a] st) Q↔∃ ds,seqOf st a=some ds∧Q (.int ds.length) st:=by
 show Wp (match seqOf st a with | some ds=>some (D.int ds.length,st) | none=>none) Q↔_
 cases seqOf st a with
 | none=>rw [Zae];exact ⟨False.elim,fun ⟨_,e,_⟩=>by cases e⟩
 | some ds=>rw [Zab];exact ⟨fun q=>⟨ds,rfl,q⟩,fun ⟨_,e,q⟩=>by cases e;exact q⟩
theorem ycb {a:D}:Wp (gList [a] st) Q↔∃ ds,seqOf st a=some ds∧Q (.ref st.length) (st ++ [.lst ds]):=by
 show Wp (match seqOf st a with | some ds=>some (D.ref st.length,st ++ [O.lst ds]) | none=>none) Q↔_
 cases seqOf st a with
 | none=>rw [Zae];exact ⟨False.elim,fun ⟨_,e,_⟩=>by cases e⟩
 | some ds=>rw [Zab];exact ⟨fun q=>⟨ds,rfl,q⟩,fun ⟨_,e,q⟩=>by cases e;exact q⟩
theorem ybW {a:D}:Wp (gTuple [a] st) Q↔∃ ds,seqOf st a=some ds∧Q (.tup ds) st:=by
 show Wp (match seqOf st a with | some ds=>some (D.tup ds,st) | none=>none) Q↔_
 cases seqOf st a with
 | none=>rw [Zae];exact ⟨False.elim,fun ⟨_,e,_⟩=>by cases e⟩
 | some ds=>rw [Zab];exact ⟨fun q=>⟨ds,rfl,q⟩,fun ⟨_,e,q⟩=>by cases e;exact q⟩
theorem Zcb:Wp (gMax2 [.int i,.int j] st) Q↔Q (.int (if j > i then j else i)) st:=Zab
theorem Ycb:Wp (gMin2 [.int i,.int j] st) Q↔Q (.int (if j < i then j else i)) st:=Zab
theorem xcb:Wp (gInt1 [.int i] st) Q↔Q (.int i) st:=Zab
theorem ZbW {b:Bool}:Wp (gInt1 [.bl b] st) Q↔Q (.int (if b then 1 else 0)) st:=Zab
theorem XbL:Wp (gRange1 [.int j] st) Q↔Q (.ref st.length) (st ++ [.rng 0 j]):=Zab
theorem zbM:Wp (gRange2 [.int i,.int j] st) Q↔Q (.ref st.length) (st ++ [.rng i j]):=Zab
theorem ybM {y:D}:Wp (gAppend (.ref k) [y] st) Q↔∃ xs,own st k=some xs∧lim xs.length=true∧Q .non (st.set k (.lst (xs ++ [y]))):=by
 show Wp (match own st k with | some xs=>if lim xs.length=true then some (D.non,st.set k (O.lst (xs ++ [y]))) else none | none=>none) Q↔_
 cases own st k with
 | none=>rw [Zae];exact ⟨False.elim,fun ⟨_,e,_⟩=>by cases e⟩
 | some xs =>
  show Wp (if lim xs.length=true then some (D.non,st.set k (O.lst (xs ++ [y]))) else none) Q↔_
  rw [Yau,Zab,Zae]
  split
  ·next h=>exact ⟨fun q=>⟨_,rfl,h,q⟩,fun ⟨_,e,_,q⟩=>by cases e;exact q⟩
  ·next h=>exact ⟨False.elim,fun ⟨_,e,q,_⟩=>by cases e;exact h q⟩
end
noncomputable def Ws (m:Option (Fl×Store)) (N B C:DSt→Store→Prop) (R:D→Store→Prop):Prop:=Wp m fun fl st=>match fl with
 | .nx δ=>N δ st
 | .bk δ=>B δ st
 | .ct δ=>C δ st
 | .rt d=>R d st
section
variable {st:Store} {δ:DSt} {N B C:DSt→Store→Prop} {R:D→Store→Prop} {f g:DSt→Dm Fl} {e:DSt→Dm D}
theorem YaS {m:Option (Fl×Store)} {N':DSt→Store→Prop} (h:Ws m N B C R) (hn:∀ δ st,N δ st→N' δ st):Ws m N' B C R:=Yab h fun fl st q=>by
 cases fl with
 | nx δ=>exact hn δ st q
 | bk δ=>exact q
 | ct δ=>exact q
 | rt d=>exact q
theorem zad (h:Ws (f δ st) (fun δ1 st1=>Ws (g δ1 st1) N B C R) B C R):Ws (fSeq f g δ st) N B C R:=by
 unfold Ws fSeq
 rw [yae]
 refine Yab h fun fl st1 q=>?_
 cases fl with
 | nx δ1=>exact q
 | bk δ1=>exact Zab.mpr q
 | ct δ1=>exact Zab.mpr q
 | rt d=>exact Zab.mpr q
theorem Xam (h:N δ st):Ws (fNext δ st) N B C R:=Zab.mpr h
theorem YbW (h:B δ st):Ws (fBreak δ st) N B C R:=Zab.mpr h
theorem YaR {t:D→DSt→Dm DSt} (h:Wp (e δ st) fun d st1=>Wp (t d δ st1) N):Ws (fAsg e t δ st) N B C R:=by
 unfold Ws fAsg
 rw [yae]
 refine Yab h fun d st1 q=>?_
 rw [yae]
 exact Yab q fun δ1 st2 q=>Zab.mpr q
theorem Xae {i:Nat} (h:Wp (e δ st) fun d st1=>N (δ.set i (some d)) st1):Ws (fAsg e (hName i) δ st) N B C R:=YaR (Yab h fun d st1 q=>Zab.mpr q)
theorem ZaA (h:Wp (e δ st) fun _ st1=>N δ st1):Ws (fDrop e δ st) N B C R:=by
 unfold Ws fDrop
 rw [yae]
 exact Yab h fun d st1 q=>Zab.mpr q
theorem xal (h:Wp (e δ st) R):Ws (fRet e δ st) N B C R:=by
 unfold Ws fRet
 rw [yae]
 exact Yab h fun d st1 q=>Zab.mpr q
theorem ZaG {c:DSt→Dm Bool} (h:Wp (c δ st) fun b st1=>(b=true→Ws (f δ st1) N B C R)∧(b=false→Ws (g δ st1) N B C R)):Ws (fIf c f g δ st) N B C R:=by
 unfold Ws
 rw [wp_if]
 refine Yab h fun b st1 q=>?_
 cases b with
 | true=>rw [if_pos rfl];exact q.1 rfl
 | false=>rw [if_neg Bool.false_ne_true];exact q.2 rfl
theorem ZbM {i j:Nat} {fa:DSt→Dm (List D)} (h:Wp (fa δ st) fun as st1=>∃ a b,as=[a,b]∧N ((δ.set i (some a)).set j (some b)) st1):Ws (fPar i j fa δ st) N B C R:=by
 unfold Ws fPar
 rw [yae]
 refine Yab h fun as st1 q=>?_
 obtain ⟨a,b,rfl,q⟩:=q
 exact Zab.mpr q
theorem YaA {n:Nat} {b:DSt→Dm Fl} {ds:List D} (h:Ws (b (ds.map some ++ List.replicate (n - ds.length) none) st) (fun _ st1=>R .non st1) (fun _ _=>False) (fun _ _=>False) R):Wp (fnF n b ds st) R:=by
 unfold fnF
 rw [yae]
 refine Yab h fun fl st1 q=>?_
 cases fl with
 | nx δ1=>exact Zab.mpr q
 | bk δ1=>exact q.elim
 | ct δ1=>exact q.elim
 | rt d=>exact Zab.mpr q
theorem ZaK {c:DSt→Dm Bool} {b:DSt→Dm Fl} (W:Nat→DSt→Store→Prop) (m:Nat) (hm:m < fuel) (h0:W m δ st)
  (step:∀ m δ st,W m δ st→Wp (c δ st) fun t st1=>(t=true→Ws (b δ st1) (fun δ2 st2=>∃ m',m' < m∧W m' δ2 st2) N (fun δ2 st2=>∃ m',m' < m∧W m' δ2 st2) R)∧(t=false→N δ st1)):Ws (fWhile c b δ st) N B C R:=by
 have key:∀ (k m:Nat) (δ:DSt) (st:Store),m < k→W m δ st→Ws (fWhileGo c b k δ st) N B C R:=by
  intro k
  induction k with
  | zero=>intro m δ st h;exact absurd h (Nat.not_lt_zero _)
  | succ k ih =>
   intro m δ st hk hw
   unfold Ws fWhileGo
   rw [yae]
   refine Yab (step m δ st hw) fun t st1 q=>?_
   cases t with
   | false=>rw [if_neg Bool.false_ne_true];exact Zab.mpr (q.2 rfl)
   | true =>
    rw [if_pos rfl,yae]
    refine Yab (q.1 rfl) fun fl st2 q=>?_
    cases fl with
    | nx δ2=>obtain ⟨m',hm',w⟩:=q;exact ih m' δ2 st2 (by omega) w
    | ct δ2=>obtain ⟨m',hm',w⟩:=q;exact ih m' δ2 st2 (by omega) w
    | bk δ2=>exact Zab.mpr q
    | rt d=>exact Zab.mpr q
 exact key fuel m δ st hm h0
theorem xaR {fi:DSt→Dm Src} {t:D→DSt→Dm DSt} {b:DSt→Dm Fl} (ds:List D) (Pv:Nat→DSt→Store→Prop) (hi:Wp (fi δ st) fun S st1=>S=.fix ds∧Pv 0 δ st1) (hl:ds.length < 100000)
  (step:∀ i d δ st,ds[i]?=some d→Pv i δ st→Wp (t d δ st) fun δ1 st1=>Ws (b δ1 st1) (Pv (i + 1)) N (Pv (i + 1)) R) (fin:∀ δ st,Pv ds.length δ st→N δ st):Ws (fFor fi t b δ st) N B C R:=by
 unfold Ws fFor
 rw [yae]
 refine Yab hi fun S st0 q=>?_
 obtain ⟨rfl,h0⟩:=q
 have key:∀ (k i:Nat) (δ:DSt) (st:Store),i≤ds.length→ds.length - i < k→Pv i δ st→Ws (fForGo (.fix ds) t b k i δ st) N B C R:=by
  intro k
  induction k with
  | zero=>intro i δ st _ h;exact absurd h (Nat.not_lt_zero _)
  | succ k ih =>
   intro i δ st hi hk hw
   unfold Ws fForGo
   have e:Src.at (.fix ds) i st=some ds[i]?:=by show (if i≤ds.length then some ds[i]? else none)=_;rw [if_pos hi]
   rw [e]
   cases hd:ds[i]? with
   | none =>
    have:=List.getElem?_eq_none_iff.mp hd
    have e:i=ds.length:=by omega
    exact Zab.mpr (fin δ st (e ▸ hw))
   | some d =>
    have hlt:=(List.getElem?_eq_some_iff.mp hd).1
    show Wp (bnd _ _) _
    rw [yae]
    refine Yab (step i d δ st hd hw) fun δ1 st1 q=>?_
    rw [yae]
    refine Yab q fun fl st2 q=>?_
    cases fl with
    | nx δ2=>exact ih (i + 1) δ2 st2 (by omega) (by omega) q
    | ct δ2=>exact ih (i + 1) δ2 st2 (by omega) (by omega) q
    | bk δ2=>exact Zab.mpr q
    | rt d=>exact Zab.mpr q
 exact key fuel 0 δ st0 (Nat.zero_le _) (Nat.lt_trans (by omega) (show 100000 < fuel by decide)) h0
theorem Ybn {fi:DSt→Dm Src} {t:D→DSt→Dm DSt} {b:DSt→Dm Fl} (ds:List D) (r:Nat) (Pv:Nat→DSt→Store→Prop) (hi:Wp (fi δ st) fun S st1=>S=.live r∧Pv 0 δ st1) (hl:ds.length < 100000) (hk:∀ i δ st,Pv i δ st→items st r=some ds)
  (step:∀ i d δ st,ds[i]?=some d→Pv i δ st→Wp (t d δ st) fun δ1 st1=>Ws (b δ1 st1) (Pv (i + 1)) N (Pv (i + 1)) R) (fin:∀ δ st,Pv ds.length δ st→N δ st):Ws (fFor fi t b δ st) N B C R:=by
 unfold Ws fFor
 rw [yae]
 refine Yab hi fun S st0 q=>?_
 obtain ⟨rfl,h0⟩:=q
 have key:∀ (k i:Nat) (δ:DSt) (st:Store),i≤ds.length→ds.length - i < k→Pv i δ st→Ws (fForGo (.live r) t b k i δ st) N B C R:=by
  intro k
  induction k with
  | zero=>intro i δ st _ h;exact absurd h (Nat.not_lt_zero _)
  | succ k ih =>
   intro i δ st hi hk' hw
   unfold Ws fForGo
   have e:Src.at (.live r) i st=some ds[i]?:=by show (items st r).map _=_;rw [hk i δ st hw];rfl
   rw [e]
   cases hd:ds[i]? with
   | none =>
    have:=List.getElem?_eq_none_iff.mp hd
    have e:i=ds.length:=by omega
    exact Zab.mpr (fin δ st (e ▸ hw))
   | some d =>
    have hlt:=(List.getElem?_eq_some_iff.mp hd).1
    show Wp (bnd _ _) _
    rw [yae]
    refine Yab (step i d δ st hd hw) fun δ1 st1 q=>?_
    rw [yae]
    refine Yab q fun fl st2 q=>?_
    cases fl with
    | nx δ2=>exact ih (i + 1) δ2 st2 (by omega) (by omega) q
    | ct δ2=>exact ih (i + 1) δ2 st2 (by omega) (by omega) q
    | bk δ2=>exact Zab.mpr q
    | rt d=>exact Zab.mpr q
 exact key fuel 0 δ st0 (Nat.zero_le _) (Nat.lt_trans (by omega) (show 100000 < fuel by decide)) h0
theorem zba {fi:DSt→Dm Src} {n:Nat} {js:List Nat} {t:D→DSt→Dm DSt} {c:DSt→Dm Bool} {f:DSt→Dm D} {Q:D→Store→Prop} (ds:List D) (Pv:Nat→List D→DSt→Store→Prop)
  (hi:Wp (fi δ st) fun S st1=>(∀ i ys δ st,i≤ds.length→Pv i ys δ st→S.at i st=some ds[i]?)∧Pv 0 [] (compD n js δ) st1) (hl:ds.length < 100000) (hy:∀ i ys δ st,Pv i ys δ st→ys.length≤i)
  (step:∀ i d ys δ st,ds[i]?=some d→Pv i ys δ st→Wp (t d δ st) fun δ1 st1=>Wp (c δ1 st1) fun b st2=>(b=true→Wp (f δ1 st2) fun y st3=>Pv (i + 1) (ys ++ [y]) δ1 st3)∧(b=false→Pv (i + 1) ys δ1 st2))
  (fin:∀ ys δ st,Pv ds.length ys δ st→Q (.ref st.length) (st ++ [.lst ys])):Wp (fComp fi n js t c f δ st) Q:=by
 unfold fComp
 rw [yae]
 refine Yab hi fun S st0 q=>?_
 obtain ⟨hS,h0⟩:=q
 have key:∀ (k i:Nat) (ys:List D) (δ:DSt) (st:Store),i≤ds.length→ds.length - i < k→Pv i ys δ st→Wp (fCompGo S t c f k i ys δ st) fun zs st9=>∃ δ9,Pv ds.length zs δ9 st9:=by
  intro k
  induction k with
  | zero=>intro i ys δ st _ h;exact absurd h (Nat.not_lt_zero _)
  | succ k ih =>
   intro i ys δ st hi hk' hw
   unfold fCompGo
   have hlim:lim ys.length=true:=Nat.ble_eq_true_of_le (by have:=hy i ys δ st hw;omega)
   rw [if_pos hlim,hS i ys δ st hi hw]
   cases hd:ds[i]? with
   | none =>
    have:=List.getElem?_eq_none_iff.mp hd
    have e:i=ds.length:=by omega
    exact Zab.mpr ⟨δ,e ▸ hw⟩
   | some d =>
    have hlt:=(List.getElem?_eq_some_iff.mp hd).1
    show Wp (bnd _ _) _
    rw [yae]
    refine Yab (step i d ys δ st hd hw) fun δ1 st1 q=>?_
    rw [yae]
    refine Yab q fun b st2 q=>?_
    cases b with
    | true =>
     rw [if_pos rfl,yae]
     exact Yab (q.1 rfl) fun y st3 q=>ih (i + 1) _ δ1 st3 (by omega) (by omega) q
    | false =>
     rw [if_neg Bool.false_ne_true]
     exact ih (i + 1) ys δ1 st2 (by omega) (by omega) (q.2 rfl)
 rw [yae]
 exact Yab (key fuel 0 [] _ st0 (Nat.zero_le _) (Nat.lt_trans (by omega) (show 100000 < fuel by decide)) h0) fun zs st9 ⟨δ9,q⟩=>Zab.mpr (fin zs δ9 st9 q)
end
end L4
namespace L4
open PySem PySem.Spec L2
noncomputable def keyOf:D→Option Key
 | .int i=>some (.inl i)
 | .str x=>some (.inr x)
 | _=>none
noncomputable def dctOf (st:Store):D→Option (List (Key×D))
 | .ref i=>match st[i]? with
  | some (.dct kvs)=>some kvs
  | _=>none
 | _=>none
noncomputable def valD (kvs:List (Key×D)) (k:Key):Option D:=(kvs.find? fun kv=>decide (kv.1=k)).map (·.2)
noncomputable def putD (kvs:List (Key×D)) (k:Key) (v:D):List (Key×D) :=
 if (kvs.any fun kv=>decide (kv.1=k))=true then kvs.map (fun kv=>if kv.1=k then (kv.1,v) else kv) else kvs ++ [(k,v)]
section
variable {K:PySem.W.Frag} {ρ:List Addr} {H:Hp} {st:Store}
theorem Ya4 {x:V} {y:D} {k:Key} (r:Rp K ρ H x y) (h:keyOf y=some k):x=kV k:=by
 cases r <;> first | (cases h;rfl) | cases h
theorem Xb2 {x:V} {a:D} {kvs:List (Key×D)} (l:Rl K ρ H st) (r:Rp K ρ H x a) (h:dctOf st a=some kvs):∃ p i ws,x=.ref p∧a=.ref i∧ρ[i]?=some p∧st[i]?=some (.dct kvs)∧H p=some (.dK ws)∧Rk K ρ H ws kvs:=by
 cases r <;> first | (cases h;done) | skip
 next hi =>
  simp only [dctOf] at h
  split at h
  ·next kvs' hs =>
   cases h
   obtain ⟨ws,e,r⟩:=l.obj _ _ _ hi hs
   exact ⟨_,_,ws,rfl,rfl,hi,hs,e,r⟩
  ·cases h
theorem Rk.val {ws:List (Key×V)} {kvs:List (Key×D)} (r:Rk K ρ H ws kvs) (k:Key):(∀ d,valD kvs k=some d→∃ v,valV ws k=some v∧Rp K ρ H v d)∧(valV ws k).isSome=(valD kvs k).isSome:=by
 induction r with
 | nil=>exact ⟨fun d h=>(by cases h),rfl⟩
 | @cons p q ps qs h t ih =>
  obtain ⟨h1,h2⟩:=h
  unfold valD valV at ih ⊢
  rw [List.find?_cons,List.find?_cons]
  by_cases e:p.1=k
  ·rw [decide_eq_true e,decide_eq_true (h1 ▸ e)]
   exact ⟨fun d hd=>by cases hd;exact ⟨_,rfl,h2⟩,rfl⟩
  ·rw [decide_eq_false e,decide_eq_false (h1 ▸ e)]
   exact ih
theorem Rk.app {ws ws':List (Key×V)} {kvs kvs':List (Key×D)} (r:Rk K ρ H ws kvs) (r':Rk K ρ H ws' kvs'):Rk K ρ H (ws ++ ws') (kvs ++ kvs'):=by
 induction r with
 | nil=>exact r'
 | cons h _ ih=>exact .cons h ih
theorem Rk.put {ws:List (Key×V)} {kvs:List (Key×D)} {v:V} {d:D} (r:Rk K ρ H ws kvs) (k:Key) (rv:Rp K ρ H v d):Rk K ρ H (putK ws k v) (putD kvs k d):=by
 have hany:(ws.any fun kv=>decide (kv.1=k))=(kvs.any fun kv=>decide (kv.1=k)):=by
  induction r with
  | nil=>rfl
  | cons h _ ih=>rw [List.any_cons,List.any_cons,ih,h.1]
 have hmap:Rk K ρ H (ws.map fun kv=>if kv.1=k then (kv.1,v) else kv) (kvs.map fun kv=>if kv.1=k then (kv.1,d) else kv):=by
  clear hany
  induction r with
  | nil=>exact .nil
  | @cons p q ps qs h _ ih =>
   refine .cons ?_ ih
   dsimp only
   by_cases e:p.1=k
   ·rw [if_pos e,if_pos (h.1 ▸ e)];exact ⟨h.1,rv⟩
   ·rw [if_neg e,if_neg (h.1 ▸ e)];exact h
 unfold putK putD
 rw [hany]
 split
 ·exact hmap
 ·exact r.app (.cons ⟨rfl,rv⟩ .nil)
theorem Rk.length {ws:List (Key×V)} {kvs:List (Key×D)} (r:Rk K ρ H ws kvs):ws.length=kvs.length:=by
 induction r with
 | nil=>rfl
 | cons _ _ ih=>rw [List.length_cons,List.length_cons,ih]
end
section
variable {K:PySem.W.Frag}
noncomputable def fDNew:DSt→Dm D:=fun _ st=>some (.ref st.length,st ++ [.dct []])
theorem Xcb:SoE K tDNewK fDNew:=by
 intro ρ σ H δ st b st' Q l rs e q
 cases e
 exact fun p hp=>q _ _ _ (Mn.new hp) (l.newD hp .nil) (.ref (newR l))
noncomputable def fDGet (fd fy:DSt→Dm D):DSt→Dm D:=fun δ st=>bnd (fd δ st) fun x st1=>bnd (fy δ st1) fun y st2=>match dctOf st2 x,keyOf y with
 | some kvs,some k=>match valD kvs k with
  | some v=>some (v,st2)
  | none=>none
 | _,_=>none
noncomputable def fDIn (neg:Bool) (fy fd:DSt→Dm D):DSt→Dm D:=fun δ st=>bnd (fy δ st) fun y st1=>bnd (fd δ st1) fun x st2=>match dctOf st2 x,keyOf y with
 | some kvs,some k=>some (.bl (if neg then !(valD kvs k).isSome else (valD kvs k).isSome),st2)
 | _,_=>none
theorem YbM {td ty:TE} {fd fy:DSt→Dm D} (hy:SoE K ty fy) (hd:SoE K td fd):SoE K (tDNotIn ty td) (fDIn true fy fd):=by
 intro ρ σ H δ st b st' Q l rs e q
 obtain ⟨y,st1,e1,e⟩:=xac e
 obtain ⟨x,st2,e2,e⟩:=xac e
 refine hy ρ σ H δ st y st1 _ l rs e1 fun vy H1 ρ1 m1 l1 r1=>hd ρ1 σ H1 δ st1 x st2 _ l1 (rs.mn m1) e2 fun vx H2 ρ2 m2 l2 r2=>?_
 split at e
 ·next kvs k hx hk =>
  cases e
  obtain ⟨p,i,ws,rfl,rfl,hi,hs,hp,rk⟩:=Xb2 l2 r2 hx
  refine ⟨p,valV ws k,rfl,by rw [Ya4 r1 hk];exact DGet.k hp,q _ H2 ρ2 (m1.trans m2) l2 ?_⟩
  rw [(rk.val k).2]
  exact .bl _
 ·cases e
noncomputable def fDPut (fd fy fv:DSt→Dm D):DSt→Dm Fl:=fun δ st=>bnd (fv δ st) fun v st1=>bnd (fd δ st1) fun x st2=>bnd (fy δ st2) fun y st3=>match x,dctOf st3 x,keyOf y with
 | .ref i,some kvs,some k=>if lim kvs.length=true then some (.nx δ,st3.set i (.dct (putD kvs k v))) else none
 | _,_,_=>none
theorem zcc {td ty tv:TE} {fd fy fv:DSt→Dm D} (hd:SoE K td fd) (hy:SoE K ty fy) (hv:SoE K tv fv):SoS K (sDPut td ty tv) (fDPut fd fy fv):=by
 intro ρ σ H δ st fl st' E l rs e q
 obtain ⟨v,st1,e1,e⟩:=xac e
 obtain ⟨x,st2,e2,e⟩:=xac e
 obtain ⟨y,st3,e3,e⟩:=xac e
 refine hv ρ σ H δ st v st1 _ l rs e1 fun vv H1 ρ1 m1 l1 r1=>hd ρ1 σ H1 δ st1 x st2 _ l1 (rs.mn m1) e2 fun vx H2 ρ2 m2 l2 r2=>hy ρ2 σ H2 δ st2 y st3 _ l2 (rs.mn (m1.trans m2)) e3 fun vy H3 ρ3 m3 l3 r3=>?_
 obtain ⟨i,rfl⟩:∃ i,x=.ref i:=by
  cases x <;> first | exact ⟨_,rfl⟩ | (simp at e;done) | cases e
 cases hx:dctOf st3 (.ref i) with
 | none=>rw [hx] at e;cases e
 | some kvs =>
 cases hk:keyOf y with
 | none=>rw [hx,hk] at e;cases e
 | some k =>
  rw [hx,hk] at e
  simp only at e
  split at e
  ·next hl =>
   cases e
   obtain ⟨p,j,ws,rfl,ej,hi,hs,hp,rk⟩:=Xb2 l3 (r2.mn m3) hx
   cases ej
   obtain ⟨l4,m4⟩:=l3.putDct hi hs (rk.put k (r1.mn (m2.trans m3)))
   have mm:=((m1.trans m2).trans m3).trans m4
   refine ⟨p,_,rfl,?_,q σ _ ρ3 mm l4 (rs.mn mm)⟩
   rw [Ya4 r3 hk]
   exact DPut.k hp (by rw [rk.length];exact ybs hl)
  ·cases e
noncomputable def fPNil:DSt→Dm (List (D×D)):=fun _ st=>some ([],st)
noncomputable def fPCons (fk fv:DSt→Dm D) (fr:DSt→Dm (List (D×D))):DSt→Dm (List (D×D)):=fun δ st=>bnd (fk δ st) fun k st1=>bnd (fv δ st1) fun v st2=>bnd (fr δ st2) fun r st3=>some ((k,v) :: r,st3)
noncomputable def keysOf:List (D×D)→Option (List (Key×D))
 | []=>some []
 | (k,v) :: r=>match keyOf k,keysOf r with
  | some k',some r'=>some ((k',v) :: r')
  | _,_=>none
noncomputable def mergeD (kvs more:List (Key×D)):List (Key×D):=more.foldl (fun acc kv=>putD acc kv.1 kv.2) kvs
noncomputable def fDisp (fp:DSt→Dm (List (D×D))):DSt→Dm D:=fun δ st=>bnd (fp δ (st ++ [.dct []])) fun ps st2=>match st2[st.length]?,keysOf ps with
 | some (.dct []),some kvs=>if kvs.length≤15 then some (.ref st.length,st2.set st.length (.dct (mergeD [] kvs))) else none
 | _,_=>none
end
section
variable {st:Store} {δ:DSt} {Q:D→Store→Prop}
theorem ycc:Wp (fDNew δ st) Q↔Q (.ref st.length) (st ++ [.dct []]):=Zab
theorem Zcc {fd fy:DSt→Dm D}:Wp (fDGet fd fy δ st) Q↔Wp (fd δ st) fun x st1=>Wp (fy δ st1) fun y st2=>∃ kvs k v,dctOf st2 x=some kvs∧keyOf y=some k∧valD kvs k=some v∧Q v st2:=by
 unfold fDGet;rw [yae];simp only [yae]
 constructor <;> refine fun h=>Yab h fun x s h=>Yab h fun y s2 h=>?_
 ·split at h
  ·next kvs k h1 h2 =>
   split at h
   ·next v h3=>exact ⟨kvs,k,v,by assumption,by assumption,h3,Zab.mp h⟩
   ·exact (Zae.mp h).elim
  ·exact (Zae.mp h).elim
 ·obtain ⟨kvs,k,v,h1,h2,h3,h⟩:=h
  rw [h1,h2]
  simp only [h3]
  exact Zab.mpr h
theorem wp_din {neg:Bool} {fd fy:DSt→Dm D}:Wp (fDIn neg fy fd δ st) Q↔Wp (fy δ st) fun y st1=>Wp (fd δ st1) fun x st2=>∃ kvs k,dctOf st2 x=some kvs∧keyOf y=some k∧Q (.bl (if neg then !(valD kvs k).isSome else (valD kvs k).isSome)) st2:=by
 unfold fDIn;rw [yae];simp only [yae]
 constructor <;> refine fun h=>Yab h fun x s h=>Yab h fun y s2 h=>?_
 ·split at h
  ·next kvs k h1 h2=>exact ⟨kvs,k,by assumption,by assumption,Zab.mp h⟩
  ·exact (Zae.mp h).elim
 ·obtain ⟨kvs,k,h1,h2,h⟩:=h
  rw [h1,h2]
  exact Zab.mpr h
theorem Ycc {R:List (D×D)→Store→Prop}:Wp (fPNil δ st) R↔R [] st:=Zab
theorem xbW {fk fv:DSt→Dm D} {fr:DSt→Dm (List (D×D))} {R:List (D×D)→Store→Prop}:Wp (fPCons fk fv fr δ st) R↔Wp (fk δ st) fun k st1=>Wp (fv δ st1) fun v st2=>Wp (fr δ st2) fun r st3=>R ((k,v) :: r) st3:=by
 unfold fPCons;rw [yae];simp only [yae,Zab]
theorem xcc {fp:DSt→Dm (List (D×D))}:Wp (fDisp fp δ st) Q↔Wp (fp δ (st ++ [.dct []])) fun ps st2=>st2[st.length]?=some (.dct [])∧∃ kvs,keysOf ps=some kvs∧kvs.length≤15∧Q (.ref st.length) (st2.set st.length (.dct (mergeD [] kvs))):=by
 unfold fDisp;rw [yae]
 constructor <;> refine fun h=>Yab h fun ps s h=>?_
 ·split at h
  ·next kvs h1 h2 =>
   rw [Yau,Zab,Zae] at h
   split at h
   ·next hl=>exact ⟨by assumption,kvs,by assumption,hl,h⟩
   ·exact h.elim
  ·exact (Zae.mp h).elim
 ·obtain ⟨h1,kvs,h2,h3,h⟩:=h
  rw [h1,h2]
  simp only [if_pos h3]
  exact Zab.mpr h
theorem Xcc {fd fy fv:DSt→Dm D} {N B C:DSt→Store→Prop} {R:D→Store→Prop} (h:Wp (fv δ st) fun v st1=>Wp (fd δ st1) fun x st2=>Wp (fy δ st2) fun y st3=>∃ i kvs k,x=.ref i∧dctOf st3 x=some kvs∧keyOf y=some k∧lim kvs.length=true∧N δ (st3.set i (.dct (putD kvs k v)))):Ws (fDPut fd fy fv δ st) N B C R:=by
 unfold Ws fDPut
 rw [yae]
 refine Yab h fun v st1 h=>?_
 rw [yae]
 refine Yab h fun x st2 h=>?_
 rw [yae]
 refine Yab h fun y st3 h=>?_
 obtain ⟨i,kvs,k,rfl,h1,h2,h3,h⟩:=h
 rw [h1,h2]
 simp only [h3]
 exact Zab.mpr h
end
end L4
namespace L4
open PySem PySem.Spec L2
structure Ex (c:List Nat) (st st':Store):Prop where
 len:st.length≤st'.length
 keep:∀ (i:Nat) (o:O),st[i]?=some o→i ∉ c→st'[i]?=some o
section
variable {c c':List Nat} {st st1 st2:Store} {i:Nat} {o:O} {ds:List D}
theorem Ex.refl:Ex c st st:=⟨Nat.le_refl _,fun _ _ h _=>h⟩
theorem Ex.trans (a:Ex c st st1) (b:Ex c st1 st2):Ex c st st2:=⟨Nat.le_trans a.len b.len,fun i o h n=>b.keep i o (a.keep i o h n) n⟩
theorem Ex.mono (a:Ex c st st1) (h:∀ x∈c,x∈c'):Ex c' st st1:=⟨a.len,fun i o e n=>a.keep i o e fun z=>n (h i z)⟩
theorem Ex.any (a:Ex [] st st1):Ex c st st1:=a.mono fun x h=>nomatch h
theorem yac {α:Type} {l:List α} {i:Nat} {o:α} (h:l[i]?=some o):i < l.length:=(List.getElem?_eq_some_iff.mp h).1
theorem Xaf {l m:List O} (h:l[i]?=some o):(l ++ m)[i]?=some o:=by rw [List.getElem?_append_left (yac h)];exact h
theorem xag {l:List O}:(l ++ [o])[l.length]?=some o:=by rw [List.getElem?_append_right (Nat.le_refl _),Nat.sub_self];rfl
theorem Ex.app (a:Ex c st st1) (m:List O):Ex c st (st1 ++ m):=⟨by rw [List.length_append];exact Nat.le_trans a.len (Nat.le_add_right _ _),fun i o h n=>Xaf (a.keep i o h n)⟩
theorem Ex.app0 (m:List O):Ex c st (st ++ m):=Ex.refl.app m
theorem Ex.put (a:Ex c st st1) (h:i∈c):Ex c st (st1.set i o):=⟨by rw [List.length_set];exact a.len,fun j u e n=>by rw [List.getElem?_set_ne (fun z=>n (by rw [← z];exact h))];exact a.keep j u e n⟩
theorem Ex.loc (a:Ex c st st1) (h:st.length≤i):Ex c st (st1.set i o):=⟨by rw [List.length_set];exact a.len,fun j u e n=>by rw [List.getElem?_set_ne (by have:=yac e;omega)];exact a.keep j u e n⟩
theorem zac (h:st[i]?=some (.lst ds)):items st i=some ds:=by unfold items;rw [h]
theorem xbM (h:st[i]?=some (.fzn ds)):items st i=some ds:=by unfold items;rw [h]
theorem Xah (h:st[i]?=some (.lst ds)):own st i=some ds:=by unfold own;rw [h]
theorem zah:items (st ++ [.lst ds]) st.length=some ds:=zac xag
theorem ya1:own (st ++ [.lst ds]) st.length=some ds:=Xah xag
theorem zbz {o':O}:items (st ++ [.lst ds] ++ [o']) st.length=some ds:=zac (Xaf xag)
theorem XbW {o':O}:own (st ++ [.lst ds] ++ [o']) st.length=some ds:=Xah (Xaf xag)
theorem ybz {o' o2:O}:items (st ++ [.lst ds] ++ [o'] ++ [o2]) st.length=some ds:=zac (Xaf (Xaf xag))
theorem zbX {o' o2:O}:own (st ++ [.lst ds] ++ [o'] ++ [o2]) st.length=some ds:=Xah (Xaf (Xaf xag))
theorem XbM {lo hi:Int}:rngOf (st ++ [.rng lo hi]) (.ref st.length)=some (lo,hi):=by simp only [rngOf,xag]
theorem zbN:seqOf st (.tup ds)=some ds:=rfl
theorem yba:seqOf st (.ref i)=items st i:=rfl
theorem Xap (h:(items st i).isSome=true):tyD "list" st (.ref i)=true:=by simp only [tyD,h];rfl
theorem Zba:tyD "tuple" st (.tup ds)=true:=by simp only [tyD];rfl
theorem xak {n:Nat} (h:n≤100000):lim n=true:=Nat.ble_eq_true_of_le h
end
section
variable {st:Store} {Q:D→Store→Prop} {i j:Int} {k:Nat} {ds es:List D}
theorem ybX {a:D}:Wp (gListR [a] st) Q↔∃ p,rngOf st a=some p∧okR p.1 p.2=true∧Q (.ref st.length) (st ++ [.lst (rangeD p.1 (p.2 - p.1).toNat)]):=by
 show Wp (match rngOf st a with | some (lo,hi)=>if okR lo hi=true then some (D.ref st.length,st ++ [O.lst (rangeD lo (hi - lo).toNat)]) else none | none=>none) Q↔_
 cases rngOf st a with
 | none=>rw [Zae];exact ⟨False.elim,fun ⟨_,e,_⟩=>by cases e⟩
 | some p =>
  obtain ⟨lo,hi⟩:=p
  show Wp (if okR lo hi=true then some (D.ref st.length,st ++ [O.lst (rangeD lo (hi - lo).toNat)]) else none) Q↔_
  rw [Yau,Zab,Zae]
  split
  ·next h=>exact ⟨fun q=>⟨_,rfl,h,q⟩,fun ⟨_,e,_,q⟩=>by cases e;exact q⟩
  ·next h=>exact ⟨False.elim,fun ⟨_,e,q,_⟩=>by cases e;exact h q⟩
theorem ybN {a:D}:Wp (gTupleR [a] st) Q↔∃ p,rngOf st a=some p∧okR p.1 p.2=true∧Q (.tup (rangeD p.1 (p.2 - p.1).toNat)) st:=by
 show Wp (match rngOf st a with | some (lo,hi)=>if okR lo hi=true then some (D.tup (rangeD lo (hi - lo).toNat),st) else none | none=>none) Q↔_
 cases rngOf st a with
 | none=>rw [Zae];exact ⟨False.elim,fun ⟨_,e,_⟩=>by cases e⟩
 | some p =>
  obtain ⟨lo,hi⟩:=p
  show Wp (if okR lo hi=true then some (D.tup (rangeD lo (hi - lo).toNat),st) else none) Q↔_
  rw [Yau,Zab,Zae]
  split
  ·next h=>exact ⟨fun q=>⟨_,rfl,h,q⟩,fun ⟨_,e,_,q⟩=>by cases e;exact q⟩
  ·next h=>exact ⟨False.elim,fun ⟨_,e,q,_⟩=>by cases e;exact h q⟩
theorem wp_rep:Wp (gRep (.ref k) (.int j) st) Q↔∃ xs,own st k=some xs∧(-9223372036854775808≤j∧j < 9223372036854775808)∧lim (xs.length * j.toNat)=true∧Q (.ref st.length) (st ++ [.lst (List.replicate j.toNat xs).flatten]):=by
 show Wp (match own st k with | some a=>if (decide (-9223372036854775808≤j∧j < 9223372036854775808) && lim (a.length * j.toNat))=true then some (D.ref st.length,st ++ [O.lst (List.replicate j.toNat a).flatten]) else none | _=>none) Q↔_
 cases own st k with
 | none=>simp only [Zae];exact ⟨False.elim,fun ⟨_,e,_⟩=>by cases e⟩
 | some xs =>
  show Wp (if (decide (-9223372036854775808≤j∧j < 9223372036854775808) && lim (xs.length * j.toNat))=true then some (D.ref st.length,st ++ [O.lst (List.replicate j.toNat xs).flatten]) else none) Q↔_
  rw [Yau,Zab,Zae]
  split
  ·next h=>rw [Bool.and_eq_true,decide_eq_true_eq] at h;exact ⟨fun q=>⟨_,rfl,h.1,h.2,q⟩,fun ⟨_,e,_,_,q⟩=>by cases e;exact q⟩
  ·next h=>rw [Bool.and_eq_true,decide_eq_true_eq] at h;exact ⟨False.elim,fun ⟨_,e,q,q',_⟩=>by cases e;exact h ⟨q,q'⟩⟩
theorem ZbX:Wp (gPopAt (.ref k) [.int i] st) Q↔∃ xs j y,own st k=some xs∧(-9223372036854775808≤i∧i < 9223372036854775808)∧seqIndex? i xs.length=some j∧xs[j]?=some y∧Q y (st.set k (.lst (xs.eraseIdx j))):=by
 constructor
 ·rintro ⟨a,s,e,q⟩
  simp only [gPopAt] at e
  split at e
  ·next xs hx =>
   split at e
   ·next hk =>
    split at e
    ·next j hj =>
     split at e
     ·next y hy=>cases e;exact ⟨xs,j,_,hx,of_decide_eq_true hk,hj,hy,q⟩
     ·cases e
    ·cases e
   ·cases e
  ·cases e
 ·rintro ⟨xs,j,y,hx,hk,hj,hy,q⟩
  refine ⟨_,_,?_,q⟩
  simp only [gPopAt,hx,hj,hy,decide_eq_true hk]
  rfl
theorem ZbN {b:Nat}:Wp (gExtend (.ref k) [.ref b] st) Q↔∃ xs ys,own st k=some xs∧own st b=some ys∧lim (xs.length + ys.length)=true∧Q .non (st.set k (.lst (xs ++ ys))):=by
 constructor
 ·rintro ⟨a,s,e,q⟩
  simp only [gExtend] at e
  split at e
  ·next xs ys hx hy =>
   split at e
   ·next hl=>cases e;exact ⟨xs,ys,hx,hy,hl,q⟩
   ·cases e
  ·cases e
 ·rintro ⟨xs,ys,hx,hy,hl,q⟩
  refine ⟨_,_,?_,q⟩
  simp only [gExtend,hx,hy,hl]
  rfl
theorem Xbs {v:Int}:Wp (gIndex (.tup ds) [.int v] st) Q↔∃ ns j,mapO iV ds=some ns∧ns.findIdx? (fun i=>decide (i=v))=some j∧Q (.int (j:Int)) st:=by
 constructor
 ·rintro ⟨a,s,e,q⟩
  simp only [gIndex] at e
  split at e
  ·next ns hn =>
   split at e
   ·next j hj=>cases e;exact ⟨ns,j,hn,hj,q⟩
   ·cases e
  ·cases e
 ·rintro ⟨ns,j,hn,hj,q⟩
  refine ⟨_,_,?_,q⟩
  simp only [gIndex,hn,hj]
theorem wp_all:Wp (gAll [.ref k] st) Q↔∃ ds bs,items st k=some ds∧mapO bV ds=some bs∧Q (.bl (bs.all id)) st:=by
 constructor
 ·rintro ⟨a,s,e,q⟩
  simp only [gAll] at e
  split at e
  ·next bs hb =>
   cases e
   obtain ⟨ds,h1,h2⟩:=Option.bind_eq_some_iff.mp hb
   exact ⟨ds,bs,h1,h2,q⟩
  ·cases e
 ·rintro ⟨ds,bs,h1,h2,q⟩
  refine ⟨_,_,?_,q⟩
  simp only [gAll,h1,Option.bind_some,h2]
theorem wp_in {neg:Bool} {a c:D}:Wp (gIn neg a c st) Q↔∃ x ds vs,sV a=some x∧seqOf st c=some ds∧mapO sV ds=some vs∧Q (.bl (if neg then !inV x vs else inV x vs)) st:=by
 constructor
 ·rintro ⟨b,s,e,q⟩
  simp only [gIn] at e
  split at e
  ·next x vs h1 h2 =>
   cases e
   obtain ⟨ds,h3,h4⟩:=Option.bind_eq_some_iff.mp h2
   exact ⟨x,ds,vs,h1,h3,h4,q⟩
  ·cases e
 ·rintro ⟨x,ds,vs,h1,h2,h3,q⟩
  refine ⟨_,_,?_,q⟩
  simp only [gIn,h1,h2,Option.bind_some,h3]
theorem YbN (ns:List Int):mapO sV (ns.map D.int)=some (ns.map V.int):=Zam (f:=sV) (g:=D.int) (k:=V.int) (fun _=>rfl) ns
theorem xbn (ns:List Int):mapO iV (ns.map D.int)=some ns:=by
 have:=Zam (f:=iV) (g:=D.int) (k:=id) (fun _=>rfl) ns
 rw [this,List.map_id]
theorem xbN {neg:Bool} {a b:D}:Wp (gEqD neg a b st) Q↔∃ p q,toP st 20 a=some p∧toP st 20 b=some q∧(PyData.canLay0 p=true∧PyData.canLay0 q=true∧min p.depth q.depth≤60)∧Q (.bl (if neg then !PyData.eqv p q else PyData.eqv p q)) st:=by
 constructor
 ·rintro ⟨c,s,e,q⟩
  simp only [gEqD] at e
  split at e
  ·next x y h1 h2 =>
   split at e
   ·next hs =>
    cases e
    rw [Bool.and_eq_true,Bool.and_eq_true,decide_eq_true_eq] at hs
    exact ⟨x,y,h1,h2,⟨hs.1.1,hs.1.2,hs.2⟩,q⟩
   ·cases e
  ·cases e
 ·rintro ⟨x,y,h1,h2,⟨h3,h4,h5⟩,q⟩
  refine ⟨_,_,?_,q⟩
  simp only [gEqD,h1,h2,h3,h4,decide_eq_true h5]
  rfl
theorem XbN {a:D}:Wp (gRepr [a] st) Q↔∃ p,toP st 20 a=some p∧(p.showable=true∧p.canLay0=true∧p.shown.length≤sizeLine∧p.depth≤60)∧Q (.str p.shown) st:=by
 constructor
 ·rintro ⟨c,s,e,q⟩
  simp only [gRepr] at e
  split at e
  ·next p h1 =>
   split at e
   ·next hs =>
    cases e
    rw [Bool.and_eq_true,Bool.and_eq_true,Bool.and_eq_true,decide_eq_true_eq,decide_eq_true_eq] at hs
    exact ⟨p,h1,⟨hs.1.1.1,hs.1.1.2,hs.1.2,hs.2⟩,q⟩
   ·cases e
  ·cases e
 ·rintro ⟨p,h1,⟨h3,h4,h5,h6⟩,q⟩
  refine ⟨_,_,?_,q⟩
  simp only [gRepr,h1,h3,h4,decide_eq_true h5,decide_eq_true h6]
  rfl
theorem wp_ixS {z:Str}:Wp (gIxS (.str z) (.int i) st) Q↔∃ c,lim z.length=true∧atI z.cps.toList i=some c∧Q (.str ⟨#[c]⟩) st:=by
 constructor
 ·rintro ⟨c,s,e,q⟩
  simp only [gIxS] at e
  split at e
  ·next h1 =>
   split at e
   ·next c hc=>cases e;exact ⟨c,h1,hc,q⟩
   ·cases e
  ·cases e
 ·rintro ⟨c,h1,h2,q⟩
  refine ⟨_,_,?_,q⟩
  simp only [gIxS,h1,h2]
  rfl
theorem zcd {δ:DSt} {fa:DSt→Dm (List D)} {R:Src→Store→Prop}:Wp (iRng1F fa δ st) R↔Wp (fa δ st) fun as st1=>∃ j,as=[.int j]∧(-4611686018427387904≤j∧j < 4611686018427387904)∧R (.fix (rangeD 0 j.toNat)) st1:=by
 unfold iRng1F;rw [yae]
 constructor <;> refine fun h=>Yab h fun as s h=>?_
 ·split at h
  ·next j =>
   rw [Yau,Zab,Zae] at h
   split at h
   ·next hk=>exact ⟨j,rfl,of_decide_eq_true hk,h⟩
   ·exact h.elim
  ·exact (Zae.mp h).elim
 ·obtain ⟨j,rfl,h1,h⟩:=h
  simp only [decide_eq_true h1,if_true]
  exact Zab.mpr h
theorem ycd {δ:DSt} {fa:DSt→Dm (List D)} {R:Src→Store→Prop}:Wp (iRng2F fa δ st) R↔Wp (fa δ st) fun as st1=>∃ i j,as=[.int i,.int j]∧((-4611686018427387904≤i∧i < 4611686018427387904)∧-4611686018427387904≤j∧j < 4611686018427387904)∧R (.fix (rangeD i (j - i).toNat)) st1:=by
 unfold iRng2F;rw [yae]
 constructor <;> refine fun h=>Yab h fun as s h=>?_
 ·split at h
  ·next i j =>
   rw [Yau,Zab,Zae] at h
   split at h
   ·next hk=>exact ⟨i,j,rfl,of_decide_eq_true hk,h⟩
   ·exact h.elim
  ·exact (Zae.mp h).elim
 ·obtain ⟨i,j,rfl,h1,h⟩:=h
  simp only [decide_eq_true h1,if_true]
  exact Zab.mpr h
theorem Zcd {δ:DSt} {fa:DSt→Dm D} {R:Src→Store→Prop}:Wp (iTupF fa δ st) R↔Wp (fa δ st) fun a st1=>∃ ds,a=.tup ds∧R (.fix ds) st1:=by
 unfold iTupF;rw [yae]
 constructor <;> refine fun h=>Yab h fun a s h=>?_
 ·cases a <;> simp only [Zab,Zae] at h
  exact ⟨_,rfl,h⟩
 ·obtain ⟨j,rfl,h⟩:=h
  exact Zab.mpr h
theorem YbX {δ:DSt} {fa:DSt→Dm D} {R:Src→Store→Prop}:Wp (iListF fa δ st) R↔Wp (fa δ st) fun a st1=>∃ i ds,a=.ref i∧items st1 i=some ds∧R (.live i) st1:=by
 unfold iListF;rw [yae]
 constructor <;> refine fun h=>Yab h fun a s h=>?_
 ·split at h
  ·split at h
   ·next i ds hd=>exact ⟨_,ds,rfl,hd,Zab.mp h⟩
   ·exact (Zae.mp h).elim
  ·exact (Zae.mp h).elim
 ·obtain ⟨i,ds,rfl,hd,h⟩:=h
  simp only [hd]
  exact Zab.mpr h
theorem xbX {δ:DSt} {fa:DSt→Dm (List D)} {R:Src→Store→Prop}:Wp (iEnumF fa δ st) R↔Wp (fa δ st) fun as st1=>∃ ds,as=[.tup ds]∧R (.fix (enumD ds)) st1:=by
 unfold iEnumF;rw [yae]
 constructor <;> refine fun h=>Yab h fun as s h=>?_
 ·split at h
  ·exact ⟨_,rfl,Zab.mp h⟩
  ·exact (Zae.mp h).elim
 ·obtain ⟨ds,rfl,h⟩:=h
  exact Zab.mpr h
theorem Yba {i:Nat} {d:D} {δ:DSt} {R:DSt→Store→Prop}:Wp (hName i d δ st) R↔R (δ.set i (some d)) st:=Zab
theorem Ycd {δ:DSt} {R:DSt→Store→Prop}:Wp (hNil [] δ st) R↔R δ st:=Zab
theorem XbX {f:D→DSt→Dm DSt} {g:List D→DSt→Dm DSt} {d:D} {ds:List D} {δ:DSt} {R:DSt→Store→Prop}:Wp (hCons f g (d :: ds) δ st) R↔Wp (f d δ st) fun δ1 st1=>Wp (g ds δ1 st1) R:=yae
theorem xcd {n:Nat} {f:List D→DSt→Dm DSt} {ds:List D} {δ:DSt} {R:DSt→Store→Prop}:Wp (hTup n f (.tup ds) δ st) R↔ds.length=n∧Wp (f ds δ st) R:=by
 show Wp (if ds.length=n then f ds δ st else none) R↔_
 rw [Yau,Zae]
 split
 ·next h=>exact ⟨fun q=>⟨h,q⟩,fun q=>q.2⟩
 ·next h=>exact ⟨False.elim,fun q=>h q.1⟩
theorem Xcd {fo fi:DSt→Dm D} {d:D} {δ:DSt} {R:DSt→Store→Prop}:Wp (hSub fo fi d δ st) R↔Wp (fo δ st) fun o st1=>Wp (fi δ st1) fun i st2=>∃ r k xs j,o=.ref r∧i=.int k∧own st2 r=some xs∧ixN xs.length k=some j∧R δ (st2.set r (.lst (xs.set j d))):=by
 unfold hSub;rw [yae];simp only [yae]
 constructor <;> refine fun h=>Yab h fun o s h=>Yab h fun i s2 h=>?_
 ·split at h
  ·split at h
   ·next xs hx =>
    split at h
    ·next j hj=>exact ⟨_,_,xs,j,rfl,rfl,hx,hj,Zab.mp h⟩
    ·exact (Zae.mp h).elim
   ·exact (Zae.mp h).elim
  ·exact (Zae.mp h).elim
 ·obtain ⟨r,k,xs,j,rfl,rfl,hx,hj,h⟩:=h
  simp only [hx,hj]
  exact Zab.mpr h
theorem zbO {a:D} {c:String}:Wp (gIsinst [a,.ty c] st) Q↔tyNm st a=some c∧Q (.bl true) st:=by
 constructor
 ·rintro ⟨b,s,e,q⟩
  simp only [gIsinst] at e
  split at e
  ·next T hT =>
   split at e
   ·next h=>cases e;subst h;exact ⟨hT,q⟩
   ·cases e
  ·cases e
 ·rintro ⟨h,q⟩
  refine ⟨_,_,?_,q⟩
  simp only [gIsinst,h,if_true]
theorem Xbn {δ:DSt} {R:Bool→Store→Prop}:Wp (fTrue δ st) R↔R true st:=Zab
end
theorem at0 {α:Type} (x:α) (xs:List α):atI (x :: xs) 0=some x:=by
 unfold atI ixN
 rw [if_pos (by decide),if_pos (by simp only [List.length_cons];omega)]
 rfl
theorem at1 {α:Type} (x y:α) (xs:List α):atI (x :: y :: xs) 1=some y:=by
 unfold atI ixN
 rw [if_pos (by decide),if_pos (by simp only [List.length_cons];omega)]
 rfl
theorem s_get0 {α:Type} {a:α} {l:List α}:(a :: l)[0]?=some a:=List.getElem?_cons_zero
theorem s_getS {α:Type} {a:α} {l:List α} {i:Nat}:(a :: l)[i + 1]?=l[i]?:=List.getElem?_cons_succ
theorem s_set0 {α:Type} {a b:α} {l:List α}:(a :: l).set 0 b=b :: l:=List.set_cons_zero
theorem s_setS {α:Type} {a b:α} {l:List α} {i:Nat}:(a :: l).set (i + 1) b=a :: l.set i b:=List.set_cons_succ
theorem s_some {α:Type} (a b:α):(some a=some b)=(a=b):=Option.some.injEq a b
theorem s_ex' {α:Type} {p:α→Prop} {a':α}:(∃ a,a'=a∧p a)↔p a':=exists_eq_left'
theorem s_ex {α:Type} {p:α→Prop} {a':α}:(∃ a,a=a'∧p a)↔p a':=exists_eq_left
theorem s_exa {α:Type} {p:α→Prop} {b:Prop}:(∃ x,b∧p x)↔b∧∃ x,p x:=exists_and_left
theorem s_int (a b:Int):(D.int a=D.int b)=(a=b):=D.int.injEq a b
theorem s_bl (a b:Bool):(D.bl a=D.bl b)=(a=b):=D.bl.injEq a b
theorem s_str (a b:Str):(D.str a=D.str b)=(a=b):=D.str.injEq a b
theorem s_tup (a b:List D):(D.tup a=D.tup b)=(a=b):=D.tup.injEq a b
theorem s_ref (a b:Nat):(D.ref a=D.ref b)=(a=b):=D.ref.injEq a b
theorem s_cons {α:Type} (a:α) (l:List α) (b:α) (m:List α):(a :: l=b :: m)=(a=b∧l=m):=List.cons.injEq a l b m
theorem s_pair {α β:Type} (a:α) (b:β) (c:α) (d:β):((a,b)=(c,d))=(a=c∧b=d):=Prod.mk.injEq a b c d
theorem s_andT (p:Prop):(p∧True)=p:=and_true p
theorem s_Tand (p:Prop):(True∧p)=p:=true_and p
theorem s_notT:(!true)=false:=rfl
theorem s_notF:(!false)=true:=rfl
theorem s_FT:(false=true)=False:=by simp
theorem s_ifF {α:Type} {h:Decidable False} (t e:α):@ite α False h t e=e:=if_false t e
theorem s_ifT {α:Type} {h:Decidable True} (t e:α):@ite α True h t e=t:=if_true t e
noncomputable def wpB:=And.intro @wp_var (And.intro @wp_c (And.intro @wp_op (And.intro @wp_un (And.intro @wp_cb (And.intro @wp_nil (And.intro @zca (And.intro @wp_tup (And.intro @wp_lst (And.intro @yca (And.intro @wp_not (And.intro @wp_and (And.intro @wp_or (And.intro @wp_if (And.intro @Zca (And.intro @wp_orV (And.intro @Yca (And.intro @xbL (And.intro @xca (And.intro @wp_sl (And.intro @wp_bm (And.intro @wp_add (And.intro @wp_sub (And.intro @wp_lt (And.intro @wp_le (And.intro @wp_gt (And.intro @wp_ge (And.intro @wp_neg (And.intro @wp_mul (And.intro @Xca (And.intro @wp_mod (And.intro @wp_pow (And.intro @wp_eqI (And.intro @wp_eqS (And.intro @wp_ixT (And.intro @wp_ixL (And.intro @wp_slT (And.intro @wp_slL (And.intro @zcb (And.intro @wp_cat (And.intro @wp_len (And.intro @ycb (And.intro @ybW (And.intro @Zcb (And.intro @Ycb (And.intro @xcb (And.intro @ZbW (And.intro @XbL (And.intro @zbM (And.intro @ybM (And.intro @ycc (And.intro @Zcc (And.intro @wp_din (And.intro @Ycc (And.intro @xbW (And.intro @xcc (And.intro @zah (And.intro @ya1 (And.intro @zbz (And.intro @XbW (And.intro @ybz (And.intro @zbX (And.intro @XbM (And.intro @zbN (And.intro @yba (And.intro @ybX (And.intro @ybN (And.intro @wp_rep (And.intro @ZbX (And.intro @ZbN (And.intro @Xbs (And.intro @wp_all (And.intro @wp_ixS (And.intro @zcd (And.intro @ycd (And.intro @Zcd (And.intro @YbX (And.intro @xbX (And.intro @Yba (And.intro @Ycd (And.intro @XbX (And.intro @xcd (And.intro @Xcd (And.intro @zbO (And.intro @Xbn (And.intro @at0 (And.intro @at1 (And.intro @s_get0 (And.intro @s_getS (And.intro @s_set0 (And.intro @s_setS (And.intro @s_some (And.intro @s_ex' (And.intro @s_ex (And.intro @s_exa (And.intro @s_int (And.intro @s_bl (And.intro @s_str (And.intro @s_tup (And.intro @s_ref (And.intro @s_cons (And.intro @s_pair (And.intro @s_andT (And.intro @s_Tand (And.intro @s_notT (And.intro @s_notF (And.intro @s_FT (And.intro @s_ifF (@s_ifT))))))))))))))))))))))))))))))))))))))))))))))))))))))))))))))))))))))))))))))))))))))))))))))))))))))))))))
theorem Yaa {α:Type} {m:Option (α×Store)} {Q:α→Store→Prop} (h:∀ Q':α→Store→Prop,(∀ a st,Q a st→Q' a st)→Wp m Q'):Wp m Q:=h Q fun _ _ h=>h
end L4
namespace L4
open PySem PySem.Spec L2
section
variable {X:Cx} {K:PySem.W.Frag}
end
section
variable {st:Store} {Q:D→Store→Prop}
theorem xba (n:Nat) (L:List Int):mapO (toP st (n + 1)) (L.map D.int)=some (intsD L):=Zam (f:=toP st (n + 1)) (g:=D.int) (k:=PyData.int) (fun _=>by simp only [toP]) L
theorem YaU (a b:List PyData):PyData.eqv (.list a) (.list b)=PyData.eqvAll a b:=by simp only [PyData.eqv]
theorem XaX (a b:List PyData):PyData.eqv (.tuple a) (.tuple b)=PyData.eqvAll a b:=by simp only [PyData.eqv]
theorem ybO {neg:Bool} {a b:Nat} {L M:List Int} (ha:items st a=some (L.map D.int)) (hb:items st b=some (M.map D.int)):Wp (gEqD neg (.ref a) (.ref b) st) Q↔Q (.bl (if neg then !decide (L=M) else decide (L=M))) st:=by
 have p1:∀ (i:Nat) (N:List Int),items st i=some (N.map D.int)→toP st 20 (.ref i)=some (.list (intsD N)):=fun i N h=>by
  simp only [toP,h]
  rw [xba];rfl
 have dp:∀ N:List Int,PyData.depth (.list (intsD N))≤1:=fun N=>by show PyData.depthAll (intsD N) + 1≤1;rw [xaC];omega
 rw [xbN]
 constructor
 ·rintro ⟨p,q,h1,h2,_,h⟩
  rw [p1 a L ha] at h1
  rw [p1 b M hb] at h2
  cases h1
  cases h2
  rw [YaU,yaP] at h
  exact h
 ·intro h
  refine ⟨_,_,p1 a L ha,p1 b M hb,⟨Zao L,Zao M,by have:=dp L;omega⟩,?_⟩
  rw [YaU,yaP]
  exact h
theorem zce {neg:Bool} {L M:List Int}:Wp (gEqD neg (.tup (L.map D.int)) (.tup (M.map D.int)) st) Q↔Q (.bl (if neg then !decide (L=M) else decide (L=M))) st:=by
 have p1:∀ (N:List Int),toP st 20 (.tup (N.map D.int))=some (.tuple (intsD N)):=fun N=>by
  simp only [toP]
  rw [xba];rfl
 have dp:∀ N:List Int,PyData.depth (.tuple (intsD N))≤1:=fun N=>by show PyData.depthAll (intsD N) + 1≤1;rw [xaC];omega
 rw [xbN]
 constructor
 ·rintro ⟨p,q,h1,h2,_,h⟩
  rw [p1 L] at h1
  rw [p1 M] at h2
  cases h1
  cases h2
  rw [XaX,yaP] at h
  exact h
 ·intro h
  refine ⟨_,_,p1 L,p1 M,⟨Zao L,Zao M,by have:=dp L;omega⟩,?_⟩
  rw [XaX,yaP]
  exact h
noncomputable def tts (rs:List (List Int)):D:=.tup (rs.map fun r=>.tup (r.map D.int))
noncomputable def okT (rs:List (List Int)):Prop:=rs.length≤60∧∀ r∈rs,r.length≤60∧∀ i∈r,smI i
theorem ZbO (rs:List (List Int)):toP st 20 (tts rs)=some (.tuple (rs.map tupD)):=by
 unfold tts
 simp only [toP]
 rw [Zam (f:=toP st 19) (g:=fun r:List Int=>D.tup (r.map D.int)) (k:=tupD) (fun r=>by simp only [toP];rw [xba];rfl) rs]
 rfl
theorem zbo:∀ (rs ss:List (List Int)),PyData.eqvAll (rs.map tupD) (ss.map tupD)=decide (rs=ss)
 | [],[]=>rfl
 | [],_ :: _=>rfl
 | _ :: _,[]=>rfl
 | r :: rs,s :: ss=>by
  show (PyData.eqv (tupD r) (tupD s) && PyData.eqvAll (rs.map tupD) (ss.map tupD))=decide (r :: rs=s :: ss)
  rw [zbo rs ss]
  unfold tupD
  rw [XaX,yaP]
  by_cases h:r=s
  ·subst h;simp
  ·simp [h]
theorem Xba:∀ (rs:List (List Int)),(∀ r∈rs,r.length≤60)→total rs≤rs.length * 60
 | [],_=>Nat.le_refl _
 | r :: l,h=>by
  have a:=h r List.mem_cons_self
  have b:=Xba l fun r hr=>h r (List.mem_cons_of_mem _ hr)
  show r.length + total l≤(l.length + 1) * 60
  omega
theorem YbO {rs:List (List Int)} (h:okT rs):Wp (gRepr [tts rs] st) Q↔Q (.str (PyData.shown (.tuple (rs.map fun r=>.tuple (r.map PyData.int))))) st:=by
 have s1:(PyData.tuple (rs.map tupD)).showable=true:=by
  simp only [PyData.showable]
  exact XaJ fun r hr i hi=>(h.2 r hr).2 i hi
 have sz:(PyData.tuple (rs.map tupD)).shown.length≤sizeLine:=by
  refine Nat.le_trans (za8 _ s1 (by simp only [noL];exact ZaZ rs)) ?_
  simp only [wD]
  rw [YaZ]
  have:=Xba rs fun r hr=>(h.2 r hr).1
  have:=h.1
  exact Nat.le_trans (show _≤8000000 by omega) (by decide)
 rw [XbN]
 constructor
 ·rintro ⟨p,h1,_,hq⟩
  rw [ZbO] at h1
  cases h1
  exact hq
 ·intro hq
  exact ⟨_,ZbO rs,⟨s1,YaJ rs,sz,by show PyData.depthAll _ + 1≤60;have:=ZaV rs;omega⟩,hq⟩
end
end L4
namespace L4
open PySem PySem.Spec L2
noncomputable def FeedIs (st:Store) (f:Nat):Prop:=∃ o m:Int,st[f]?=some (.lst [.int o,.int m])∧0≤o∧0≤m∧m < 4294967296
theorem ix2_0:ixN 2 0=some 0:=by decide
theorem ix2_1:ixN 2 1=some 1:=by decide
theorem yag (n:Nat):rangeD 0 n=(Mth.upto n).map D.int:=by
 unfold rangeD Mth.upto
 rw [List.map_map]
 apply List.map_congr_left
 intro i _
 simp
theorem Zbz (L:List Int) (j:Nat):(L.map D.int).eraseIdx j=(L.eraseIdx j).map D.int:=by
 induction L generalizing j with
 | nil=>rfl
 | cons a r ih =>
  cases j with
  | zero=>rfl
  | succ j=>show D.int a :: (r.map D.int).eraseIdx j=_;rw [ih];rfl
theorem ybo {L:List Int} {j:Nat} (h:j < L.length):(L[j] :: L.eraseIdx j).Perm L:=by
 induction L generalizing j with
 | nil=>exact absurd h (Nat.not_lt_zero _)
 | cons a r ih =>
  cases j with
  | zero=>exact List.Perm.refl _
  | succ j =>
   have:=ih (j:=j) (by simpa using h)
   exact (List.Perm.swap _ _ _).trans (this.cons a)
theorem FeedIs.keep {st st':Store} {f:Nat} (h:FeedIs st f) (e:Ex [] st st'):FeedIs st' f:=by
 obtain ⟨o,m,e1,r⟩:=h
 exact ⟨o,m,e.keep _ _ e1 (by simp),r⟩
theorem FeedIs.ne {st:Store} {f i:Nat} {o:O} (h:FeedIs st f) (hi:i≠f):FeedIs (st.set i o) f:=by
 obtain ⟨x,m,e1,r⟩:=h
 exact ⟨x,m,by rw [List.getElem?_set_ne hi];exact e1,r⟩
theorem FeedIs.lt {st:Store} {f:Nat} (h:FeedIs st f):f < st.length:=let ⟨_,_,e,_⟩:=h;yac e
theorem xau {xs:List Int} {i:Int} (h0:0≤i) (h1:i < (xs.length:Int)):atI (xs.map D.int) i=some (.int (Mth.app xs i)):=by
 have e:(xs.map D.int)[i.toNat]?=some (.int (Mth.app xs i)):=by rw [List.getElem?_map,Mth.Yao h0 h1];rfl
 have:=zaD e
 rwa [Int.toNat_of_nonneg h0] at this
theorem zbb {xs:List Int} {i:Nat} {d:D} (h:(xs.map D.int)[i]?=some d):∃ x,xs[i]?=some x∧d=.int x:=by
 rw [List.getElem?_map] at h
 obtain ⟨x,h1,h2⟩:=Option.map_eq_some_iff.mp h
 exact ⟨x,h1,h2.symm⟩
theorem Za1 (x:Int):∀ (ns:List Int),inV (.int x) (ns.map V.int)=ns.contains x
 | []=>rfl
 | n :: r=>by
  have e:=Za1 x r
  unfold inV at e ⊢
  rw [List.map_cons,List.any_cons,e,List.contains_cons]
  congr 1
  show (n == x)=(x == n)
  exact Bool.beq_comm
theorem zbt {st:Store} {Q:D→Store→Prop} {neg:Bool} {x:Int} {c:D} {ns:List Int} (hc:seqOf st c=some (ns.map D.int)):Wp (gIn neg (.int x) c st) Q↔Q (.bl (if neg then !ns.contains x else ns.contains x)) st:=by
 rw [wp_in]
 constructor
 ·rintro ⟨v,ds,vs,h1,h2,h3,h⟩
  cases h1
  rw [hc] at h2
  cases h2
  rw [YbN] at h3
  cases h3
  rw [Za1] at h
  exact h
 ·intro h
  refine ⟨_,_,_,rfl,hc,YbN ns,?_⟩
  rw [Za1]
  exact h
noncomputable def flD (xs ys:List Int):D:=.tup [.tup (xs.map D.int),.tup (ys.map D.int)]
structure Two (st0 st:Store) (f r u:Nat) (n:Nat) (X Y:List Int):Prop where
 hr:st[r]?=some (.lst (X.map D.int))
 hu:st[u]?=some (.lst (Y.map D.int))
 ne:r≠u
 r0:st0.length≤r
 u0:st0.length≤u
 tX:Mth.Tn n X
 tY:Mth.Tn n Y
 fd:FeedIs st f
 ex:Ex [f] st0 st
section
variable {st0 st st':Store} {f r u n:Nat} {X Y Z:List Int} {o:O}
theorem Two.keep (h:Two st0 st f r u n X Y) (e:Ex [] st st'):Two st0 st' f r u n X Y:=⟨e.keep _ _ h.hr (by simp),e.keep _ _ h.hu (by simp),h.ne,h.r0,h.u0,h.tX,h.tY,h.fd.keep e,h.ex.trans e.any⟩
theorem Two.setR (h:Two st0 st f r u n X Y) (t:Mth.Tn n Z):Two st0 (st ++ [.lst (Z.map D.int)]) f st.length u n Z Y:=⟨xag,Xaf h.hu,by have:=yac h.hu;omega,h.ex.len,h.u0,t,h.tY,h.fd.keep (Ex.app0 _),h.ex.app _⟩
theorem Two.setU (h:Two st0 st f r u n X Y) (t:Mth.Tn n Z):Two st0 (st ++ [.lst (Z.map D.int)]) f r st.length n X Z:=⟨Xaf h.hr,xag,by have:=yac h.hr;omega,h.r0,h.ex.len,h.tX,t,h.fd.keep (Ex.app0 _),h.ex.app _⟩
theorem Two.put (h:Two st0 st f r u n X Y) (t:Mth.Tn n Z) (hf:f < st0.length):Two st0 (st.set r (.lst (Z.map D.int))) f r u n Z Y:=⟨List.getElem?_set_self (yac h.hr),by rw [List.getElem?_set_ne h.ne];exact h.hu,h.ne,h.r0,h.u0,t,h.tY,h.fd.ne (by have:=h.r0;omega),h.ex.loc h.r0⟩
end
theorem xbO (n:Nat):(Mth.form1 n).map D.int=rangeD 1 ((n:Int) - 1).toNat ++ [.int 0]:=by
 unfold Mth.form1 rangeD
 rw [List.map_append,List.map_map,show ((n:Int) - 1).toNat=n - 1 by omega]
 rfl
theorem ZaO {lo hi:Int} (h:0≤lo∧lo≤10000∧0≤hi∧hi≤10000):okR lo hi=true:=by
 unfold okR;rw [Bool.and_eq_true,decide_eq_true_eq];exact ⟨by omega,xak (by omega)⟩
theorem rowR_D (w n:Nat):(Mth.rowR w n).map D.int=rangeD 1 ((w:Int) - 1).toNat ++ [.int 0] ++ rangeD (w:Int) ((n:Int) - (w:Int)).toNat:=by
 unfold Mth.rowR rangeD
 rw [List.map_append,List.map_append,List.map_map,List.map_map,show ((w:Int) - 1).toNat=w - 1 by omega,show ((n:Int) - (w:Int)).toNat=n - w by omega]
 rfl
theorem XbO (xs:List D) (j:Nat):cutD xs none (some (j:Int))=xs.take j:=by
 unfold cutD
 rw [HT.xbS,HT.Zb4,List.drop_zero,Nat.sub_zero,List.take_eq_take_iff];omega
theorem colU_D {w n:Nat} (h0:0 < w) (h:w < n):(Mth.colU w n).map D.int=cutD ([D.int (w:Int)] ++ rangeD 1 ((w:Int) - 1).toNat ++ rangeD ((w:Int) + 1) ((n:Int) - ((w:Int) + 1)).toNat ++ [.int 0]) none (some (n:Int)):=by
 rw [XbO,List.take_of_length_le (by simp [Xab];omega)]
 unfold Mth.colU rangeD
 rw [List.map_append,List.map_append,List.map_append,List.map_map,List.map_map,show ((w:Int) - 1).toNat=w - 1 by omega,show ((n:Int) - ((w:Int) + 1)).toNat=n - (w + 1) by omega]
 rfl
noncomputable def IsFl (n:Nat) (xs ys:List Int):Prop:=Mth.Tn n xs∧Mth.Tn n ys∧∀ x:Int,0≤x→x < (n:Int)→Mth.Rch xs ys x
theorem ybt {xs:List Int} {v:Int} (h:v∈xs):xs.findIdx? (fun i=>decide (i=v))=some (xs.idxOf v):=by
 induction xs with
 | nil=>exact nomatch h
 | cons a r ih =>
  rw [List.findIdx?_cons]
  by_cases e:a=v
  ·subst e;simp
  ·have hm:v∈r:=by
    rcases List.mem_cons.mp h with h | h
    ·exact absurd h.symm e
    ·exact h
   rw [decide_eq_false e,ih hm,List.idxOf_cons,show (a == v)=false by simpa using e]
   rfl
noncomputable def SrcOk (S:Src) (ds:List D) (st:Store):Prop:=∀ (i:Nat) (st2:Store),i≤ds.length→Ex [] st st2→S.at i st2=some ds[i]?
theorem zaI {st st':Store} {r:Nat} {ds:List D} (h:items st r=some ds) (e:Ex [] st st'):items st' r=some ds:=by
 unfold items at h ⊢
 cases hx:st[r]? with
 | none=>rw [hx] at h;cases h
 | some o=>rw [e.keep _ _ hx (by simp)];rw [hx] at h;exact h
theorem Xan (ds:List D) (st:Store):SrcOk (.fix ds) ds st:=fun i st2 hi _=>by
 show (if i≤ds.length then some ds[i]? else none)=_
 rw [if_pos hi]
theorem zbY {ds:List D} {st:Store} {r:Nat} (h:items st r=some ds):SrcOk (.live r) ds st:=fun i st2 hi e=>by
 show (items st2 r).map _=_
 rw [zaI h e];rfl
theorem yaj {δ:DSt} {st:Store} {fi:DSt→Dm Src} {js:List Nat} {f:DSt→Dm D} {Q:D→Store→Prop} (ds:List D) (h:D→D) (hi:Wp (fi δ st) fun S st1=>SrcOk S ds st1∧Ex [] st st1) (hl:ds.length < 100000)
  (step:∀ d∈ds,∀ st1,Ex [] st st1→Wp (f (some d :: js.map fun j=>δ.getD j none) st1) fun y st2=>y=h d∧Ex [] st1 st2) (fin:∀ st',Ex [] st st'→Q (.ref st'.length) (st' ++ [.lst (ds.map h)])):Wp (fComp fi 1 js (hName 0) fTrue f δ st) Q:=by
 obtain ⟨S,st1,e1,hS,k1⟩:=hi
 refine zba ds (fun i ys δ' st8=>(∃ v,δ'=v :: js.map fun j=>δ.getD j none)∧ys=(ds.take i).map h∧Ex [] st1 st8) ⟨S,st1,e1,fun i ys δ' st8 hi' hp=>hS i st8 hi' hp.2.2,⟨none,rfl⟩,rfl,Ex.refl⟩ hl ?_ ?_ ?_
 ·rintro i ys δ' st8 ⟨_,rfl,_⟩
  rw [List.length_map,List.length_take];omega
 ·rintro i d ys δ' st8 hd ⟨⟨v,rfl⟩,rfl,k8⟩
  rw [Yba]
  show Wp (fTrue _ _) _
  rw [Xbn]
  refine ⟨fun _=>?_,fun h=>absurd h (by decide)⟩
  refine Yab (step d (List.mem_of_getElem? hd) st8 (k1.trans k8)) ?_
  rintro y st9 ⟨rfl,k9⟩
  refine ⟨⟨some d,rfl⟩,?_,k8.trans k9⟩
  obtain ⟨hlt,e⟩:=List.getElem?_eq_some_iff.mp hd
  rw [List.take_succ_eq_append_getElem hlt,List.map_append,e];rfl
 ·rintro ys δ' st8 ⟨_,rfl,k8⟩
  rw [List.take_length]
  exact fin st8 (k1.trans k8)
theorem zaq {xs:List Int} {d:D} (h:d∈xs.map D.int):∃ x∈xs,d=.int x:=by
 obtain ⟨x,hx,rfl⟩:=List.mem_map.mp h
 exact ⟨x,hx,rfl⟩
theorem YaG {xs:List Int} {f:Int→Int} {h:D→D} (e:∀ x∈xs,h (.int x)=.int (f x)):(xs.map D.int).map h=(xs.map f).map D.int:=by
 rw [List.map_map,List.map_map]
 exact List.map_congr_left fun x hx=>e x hx
noncomputable def inD:D→Int
 | .int i=>i
 | _=>0
noncomputable def reprFl (xs ys:List Int):Str:=PyData.shown (.tuple ([xs,ys].map fun r=>.tuple (r.map PyData.int)))
theorem okFl {n:Nat} {xs ys:List Int} (tx:Mth.Tn n xs) (ty:Mth.Tn n ys) (hn:n≤60):okT [xs,ys]:=by
 have small:∀ zs:List Int,Mth.Tn n zs→zs.length≤60∧∀ i∈zs,smI i:=fun zs tz=>⟨by rw [tz.length];exact hn,fun i hi=>by have:=tz.bound hi;unfold smI;omega⟩
 refine ⟨by simp,fun r hr=>?_⟩
 rcases List.mem_cons.mp hr with rfl | hr
 ·exact small _ tx
 ·rw [List.mem_singleton.mp hr];exact small _ ty
section
variable {st:Store} {Q:D→Store→Prop}
theorem Zbi {xs ys:List Int} (h:okT [xs,ys]):Wp (gRepr [flD xs ys] st) Q↔Q (.str (reprFl xs ys)) st:=YbO (rs:=[xs,ys]) h
end
theorem ybY (zs:List Int):(zs.map D.int).map inD=zs:=by rw [List.map_map];exact List.map_id zs
theorem _root_.Mth.anew_fl {n:Nat} {xs ys p:List Int} (fl:IsFl n xs ys) (tp:Mth.Tn n p) (n0:0 < n):IsFl n (Mth.anew xs p) (Mth.anew ys p):=by
 obtain ⟨tx,ty,all⟩:=fl
 have tX:=tx.anew tp
 have tY:=ty.anew tp
 refine ⟨tX,tY,fun x x0 x1=>?_⟩
 obtain ⟨a0,a1⟩:=tp.app (i:=0) (by decide) (by omega)
 have hb:∀ y:Int,0≤y→y < (n:Int)→y∈Mth.bf (Mth.anew xs p) (Mth.anew ys p) (Mth.app p 0) n:=fun y y0 y1=>by
  rw [Mth.xbJ tx ty tp (by decide) (by omega) n]
  obtain ⟨b0,b1⟩:=tp.invB y0 y1
  exact List.mem_map.mpr ⟨Mth.app (Mth.inv p) y,Mth.bf_all tx ty (by decide) (by omega) all b0 b1,tp.app_inv y0 y1⟩
 have hF:=Mth.xb8 tX tY (s:=0) (by decide) (by omega)
 have nd:=Mth.xaP (Mth.anew xs p) (Mth.anew ys p) 0 n
 have bd:=Mth.ZaB tX tY (s:=0) (by decide) (by omega) n
 have rch:∀ k,∀ y∈Mth.bf (Mth.anew xs p) (Mth.anew ys p) 0 k,Mth.Rch (Mth.anew xs p) (Mth.anew ys p) y:=by
  intro k
  induction k with
  | zero=>intro y hy;rw [List.mem_singleton.mp (show y∈[(0:Int)] from hy)];exact .zero
  | succ k ih =>
   intro y hy
   have hy':y∈(match (Mth.bf (Mth.anew xs p) (Mth.anew ys p) 0 k)[k]? with | some x=>Mth.visit (Mth.anew xs p) (Mth.anew ys p) (Mth.bf (Mth.anew xs p) (Mth.anew ys p) 0 k) x | none=>Mth.bf (Mth.anew xs p) (Mth.anew ys p) 0 k):=hy
   split at hy'
   ·next z hz =>
    have hzr:=ih z (List.mem_of_getElem? hz)
    rcases Mth.Zak.mp hy' with hy' | rfl
    ·rcases Mth.Zak.mp hy' with hy' | rfl
     ·exact ih y hy'
     ·exact hzr.r
    ·exact hzr.u
   ·exact ih y hy'
 refine rch n x ?_
 have z0:(0:Int)∈Mth.bf (Mth.anew xs p) (Mth.anew ys p) 0 n:=by
  have:=Mth.Xa5 (Mth.anew xs p) (Mth.anew ys p) 0 0 n
  rw [Nat.zero_add] at this
  exact this.subset (show (0:Int)∈[(0:Int)] by simp)
 have back:∀ k,(∃ y∈Mth.bf (Mth.anew xs p) (Mth.anew ys p) (Mth.app p 0) k,y∈Mth.bf (Mth.anew xs p) (Mth.anew ys p) 0 n)→Mth.app p 0∈Mth.bf (Mth.anew xs p) (Mth.anew ys p) 0 n:=by
  intro k
  induction k with
  | zero =>
   rintro ⟨y,hy,hy2⟩
   rw [List.mem_singleton.mp (show y∈[Mth.app p 0] from hy)] at hy2
   exact hy2
  | succ k ih =>
   rintro ⟨y,hy,hy2⟩
   have hy':y∈(match (Mth.bf (Mth.anew xs p) (Mth.anew ys p) (Mth.app p 0) k)[k]? with | some x=>Mth.visit (Mth.anew xs p) (Mth.anew ys p) (Mth.bf (Mth.anew xs p) (Mth.anew ys p) (Mth.app p 0) k) x | none=>Mth.bf (Mth.anew xs p) (Mth.anew ys p) (Mth.app p 0) k):=hy
   split at hy'
   ·next z hz =>
    have hzm:=List.mem_of_getElem? hz
    obtain ⟨c0,c1⟩:=Mth.ZaB tX tY a0 a1 k z hzm
    rcases Mth.Zak.mp hy' with hy' | rfl
    ·rcases Mth.Zak.mp hy' with hy' | rfl
     ·exact ih ⟨y,hy',hy2⟩
     ·exact ih ⟨z,hzm,Mth.ZaS tX nd bd (fun x hx=>(hF x hx).1) c0 c1 hy2⟩
    ·exact ih ⟨z,hzm,Mth.ZaS tY nd bd (fun x hx=>(hF x hx).2) c0 c1 hy2⟩
   ·exact ih ⟨y,hy',hy2⟩
 have hp0:=back n ⟨0,hb 0 (by decide) (by omega),z0⟩
 have fwd:∀ k,∀ y∈Mth.bf (Mth.anew xs p) (Mth.anew ys p) (Mth.app p 0) k,y∈Mth.bf (Mth.anew xs p) (Mth.anew ys p) 0 n:=by
  intro k
  induction k with
  | zero=>intro y hy;rw [List.mem_singleton.mp (show y∈[Mth.app p 0] from hy)];exact hp0
  | succ k ih =>
   intro y hy
   have hy':y∈(match (Mth.bf (Mth.anew xs p) (Mth.anew ys p) (Mth.app p 0) k)[k]? with | some x=>Mth.visit (Mth.anew xs p) (Mth.anew ys p) (Mth.bf (Mth.anew xs p) (Mth.anew ys p) (Mth.app p 0) k) x | none=>Mth.bf (Mth.anew xs p) (Mth.anew ys p) (Mth.app p 0) k):=hy
   split at hy'
   ·next z hz =>
    have hzr:=ih z (List.mem_of_getElem? hz)
    rcases Mth.Zak.mp hy' with hy' | rfl
    ·rcases Mth.Zak.mp hy' with hy' | rfl
     ·exact ih y hy'
     ·exact (hF z hzr).1
    ·exact (hF z hzr).2
   ·exact ih y hy'
 exact fwd n x (hb x x0 x1)
end L4
namespace L4
open PySem PySem.Spec L2
theorem ZaD (p:Key×D) (r:List (Key×D)) (k:Key):valD (p :: r) k=if p.1=k then some p.2 else valD r k:=by
 unfold valD
 rw [List.find?_cons]
 by_cases e:p.1=k
 ·rw [decide_eq_true e,if_pos e];rfl
 ·rw [decide_eq_false e,if_neg e]
theorem ZbY (kvs:List (Key×D)) (k j:Key) (y:D):valD (putD kvs k y) j=if j=k then some y else valD kvs j:=by
 unfold putD
 by_cases a:(kvs.any fun kv=>decide (kv.1=k))=true
 ·rw [if_pos a]
  induction kvs with
  | nil=>simp at a
  | cons p r ih =>
   rw [List.map_cons,ZaD,ZaD]
   by_cases e:p.1=k
   ·rw [if_pos e]
    by_cases ej:j=k
    ·rw [if_pos ej,if_pos (show (p.1,y).1=j from e.trans ej.symm)]
    ·rw [if_neg ej,if_neg (show ¬ (p.1,y).1=j from fun z=>ej (z.symm.trans e)),if_neg (fun z=>ej (z.symm.trans e))]
     have:∀ l:List (Key×D),valD (l.map fun kv=>if kv.1=k then (kv.1,y) else kv) j=valD l j:=by
      intro l
      induction l with
      | nil=>rfl
      | cons q l ihl =>
       rw [List.map_cons,ZaD,ZaD,ihl]
       by_cases eq:q.1=k
       ·rw [if_pos eq,if_neg (show ¬ (q.1,y).1=j from fun z=>ej (z.symm.trans eq)),if_neg (fun z=>ej (z.symm.trans eq))]
       ·rw [if_neg eq]
     exact this r
   ·rw [if_neg e]
    have a':(r.any fun kv=>decide (kv.1=k))=true:=by
     rw [List.any_cons,decide_eq_false e,Bool.false_or] at a
     exact a
    rw [ih a']
    by_cases ej:j=k
    ·rw [if_pos ej,if_neg (fun z=>e (z.trans ej)),if_pos ej]
    ·rw [if_neg ej,if_neg ej]
 ·rw [if_neg a]
  induction kvs with
  | nil =>
   show valD [(k,y)] j=_
   rw [ZaD]
   by_cases ej:j=k
   ·rw [if_pos ej.symm,if_pos ej]
   ·rw [if_neg (fun z=>ej z.symm),if_neg ej]
  | cons p r ih =>
   have a':¬ (r.any fun kv=>decide (kv.1=k))=true:=fun z=>a (by rw [List.any_cons,z,Bool.or_true])
   have ep:p.1≠k:=fun z=>a (by rw [List.any_cons,decide_eq_true z,Bool.true_or])
   rw [List.cons_append,ZaD,ih a',ZaD]
   by_cases ej:j=k
   ·rw [if_pos ej,if_pos ej,if_neg (fun z=>ep (z.trans ej))]
   ·rw [if_neg ej,if_neg ej]
theorem Zbo (kvs:List (Key×D)) (k:Key) (v:D):(putD kvs k v).length≤kvs.length + 1:=by
 unfold putD
 split
 ·rw [List.length_map];omega
 ·rw [List.length_append,List.length_cons,List.length_nil];omega
theorem Zbt {st:Store} {i:Nat} {kvs:List (Key×D)} (h:st[i]?=some (.dct kvs)):dctOf st (.ref i)=some kvs:=by simp only [dctOf,h]
theorem Ybi (i:Int):keyOf (.int i)=some (.inl i):=rfl
theorem Za3 {r:List Int} {j:Nat} (h:j < r.length) (x:Int):(r.take (j + 1)).contains x=((r.take j).contains x || x == r[j]):=by
 rw [List.take_succ_eq_append_getElem h,List.contains_append]
 congr 1
 show ([r[j]]:List Int).contains x=(x == r[j])
 rw [List.contains_cons,List.contains_nil,Bool.or_false]
end L4
namespace L4
open PySem PySem.Spec L2
end L4
namespace L4
open PySem PySem.Spec L2
section
variable {X:Cx} {K:PySem.W.Frag}
end
end L4
namespace L4
open PySem PySem.Spec L2
section
variable {K:PySem.W.Frag}
end
section
variable {X:Cx}
end
theorem Ybt {xs:List Int} {i:Int} {m:Nat}:atI ((Mth.row xs i m).map D.int) (-1)=some (.int (Mth.itr xs i m)):=by
 unfold atI ixN
 rw [List.length_map,Mth.Yas,if_neg (by decide),if_pos (by omega)]
 simp only [Option.bind_some]
 rw [show ((-1:Int) + ((m + 1:Nat):Int)).toNat=m by omega,List.getElem?_map]
 unfold Mth.row
 rw [List.getElem?_map,List.getElem?_range (by omega)]
 rfl
section
variable {st:Store} {Q:D→Store→Prop}
end
theorem yce {st:Store} {Q:D→Store→Prop} {k:Nat}:Wp (gRevL (.ref k) st) Q↔∃ ds,items st k=some ds∧Q (.ref st.length) (st ++ [.lst ds.reverse]):=by
 show Wp (match items st k with | some ds=>some (D.ref st.length,st ++ [O.lst ds.reverse]) | none=>none) Q↔_
 cases items st k with
 | none=>rw [Zae];exact ⟨False.elim,fun ⟨_,e,_⟩=>by cases e⟩
 | some ds=>rw [Zab];exact ⟨fun q=>⟨ds,rfl,q⟩,fun ⟨_,e,q⟩=>by cases e;exact q⟩
theorem Ex.drop {st st1 st2:Store} {f:Nat} (a:Ex [] st st1) (b:Ex [f] st1 st2) (h:st.length≤f):Ex [] st st2:=⟨Nat.le_trans a.len b.len,fun i o e n=>b.keep i o (a.keep i o e n) (by have:=yac e;simp;omega)⟩
end L4
namespace L4
open PySem PySem.Spec L2
section
variable {K:PySem.W.Frag}
end
section
variable {st:Store} {Q:D→Store→Prop}
end
end L4
namespace L4
open PySem PySem.Spec L2
section
variable {K:PySem.W.Frag}
end
section
variable {st:Store}
end
section
variable {X:Cx} {K:PySem.W.Frag}
end
end L4
namespace L4
open PySem PySem.Spec L2
noncomputable def pU:Nat→D→Prop
 | _,.int _=>True
 | _,.str x=>PyData.canLay0 (.str x)=true
 | _,.non=>True
 | n + 1,.tup ds=>∀ d∈ds,pU n d
 | _,_=>False
noncomputable def tPn:Nat→D→PyData
 | _,.int i=>.int i
 | _,.str x=>.str x
 | n + 1,.tup ds=>.tuple (ds.map (tPn n))
 | _,_=>.none
theorem ybb {α β:Type} {f:α→Option β} {g:α→β}:∀ {l:List α},(∀ x∈l,f x=some (g x))→mapO f l=some (l.map g)
 | [],_=>rfl
 | a :: r,h=>by
  have h1:=h a List.mem_cons_self
  have h2:=ybb (f:=f) (g:=g) (l:=r) fun x hx=>h x (List.mem_cons_of_mem _ hx)
  simp only [mapO,h1,h2,List.map_cons]
theorem Zce:∀ (n:Nat) (d:D),pU n d→∀ (m:Nat),n < m→∀ st,toP st m d=some (tPn n d)
 | n,.int i,_,m + 1,_,st=>by cases n <;> rfl
 | n,.str x,_,m + 1,_,st=>by cases n <;> rfl
 | n,.non,_,m + 1,_,st=>by cases n <;> rfl
 | n,.bl b,h,_,_,_=>by cases n <;> exact h.elim
 | n,.ty b,h,_,_,_=>by cases n <;> exact h.elim
 | n,.ref b,h,_,_,_=>by cases n <;> exact h.elim
 | 0,.tup ds,h,_,_,_=>h.elim
 | n + 1,.tup ds,h,m + 1,hm,st=>by
  simp only [toP]
  rw [ybb (g:=tPn n) fun x hx=>Zce n x (h x hx) m (by omega) st]
  rfl
theorem yaW:∀ {l:List PyData},(∀ x∈l,x.canLay0=true)→PyData.canLayAll0 l=true
 | [],_=>rfl
 | a :: r,h=>by
  simp only [PyData.canLayAll0,h a List.mem_cons_self,yaW fun x hx=>h x (List.mem_cons_of_mem _ hx),Bool.and_self]
theorem Ya1 {n:Nat}:∀ {l:List PyData},(∀ x∈l,x.depth≤n)→PyData.depthAll l≤n
 | [],_=>Nat.zero_le _
 | a :: r,h=>by
  have h1:=h a List.mem_cons_self
  have h2:=Ya1 fun x hx=>h x (List.mem_cons_of_mem _ hx)
  simp only [PyData.depthAll]
  omega
theorem YbY:∀ (n:Nat) (d:D),pU n d→(tPn n d).canLay0=true∧(tPn n d).depth≤n
 | n,.int i,_=>by cases n <;> exact ⟨rfl,Nat.zero_le _⟩
 | n,.str x,h=>by cases n <;> exact ⟨h,Nat.zero_le _⟩
 | n,.non,_=>by cases n <;> exact ⟨rfl,Nat.zero_le _⟩
 | n,.bl b,h=>by cases n <;> exact h.elim
 | n,.ty b,h=>by cases n <;> exact h.elim
 | n,.ref b,h=>by cases n <;> exact h.elim
 | 0,.tup ds,h=>h.elim
 | n + 1,.tup ds,h=>by
  refine ⟨?_,?_⟩
  ·show PyData.canLayAll0 (ds.map (tPn n))=true
   exact yaW fun x hx=>by
    obtain ⟨d,hd,rfl⟩:=List.mem_map.mp hx
    exact (YbY n d (h d hd)).1
  ·show PyData.depthAll (ds.map (tPn n)) + 1≤n + 1
   have:=Ya1 (n:=n) (l:=ds.map (tPn n)) fun x hx=>by
    obtain ⟨d,hd,rfl⟩:=List.mem_map.mp hx
    exact (YbY n d (h d hd)).2
   omega
theorem zbP {n:Nat} (ih:∀ a b:D,pU n a→pU n b→(PyData.eqv (tPn n a) (tPn n b)=true↔a=b)):∀ (l m:List D),(∀ x∈l,pU n x)→(∀ x∈m,pU n x)→(PyData.eqvAll (l.map (tPn n)) (m.map (tPn n))=true↔l=m)
 | [],[],_,_=>by simp [PyData.eqvAll]
 | [],_ :: _,_,_=>by simp [PyData.eqvAll]
 | _ :: _,[],_,_=>by simp [PyData.eqvAll]
 | a :: l,b :: m,h1,h2=>by
  have e1:=ih a b (h1 a List.mem_cons_self) (h2 b List.mem_cons_self)
  have e2:=zbP ih l m (fun x hx=>h1 x (List.mem_cons_of_mem _ hx)) fun x hx=>h2 x (List.mem_cons_of_mem _ hx)
  simp only [List.map_cons,PyData.eqvAll,Bool.and_eq_true,e1,e2,List.cons.injEq]
theorem eqv_U:∀ (n:Nat) (a b:D),pU n a→pU n b→(PyData.eqv (tPn n a) (tPn n b)=true↔a=b):=by
 intro n
 induction n with
 | zero =>
  intro a b ha hb
  cases a <;> first | exact ha.elim | skip
  all_goals (cases b <;> first | exact hb.elim | simp [tPn,PyData.eqv])
 | succ n ih =>
  intro a b ha hb
  cases a <;> first | exact ha.elim | skip
  all_goals (cases b <;> first | exact hb.elim | skip)
  all_goals first
   | (simp [tPn,PyData.eqv];done)
   | skip
  next l m =>
   have:=zbP ih l m ha hb
   show PyData.eqv (.tuple (l.map (tPn n))) (.tuple (m.map (tPn n)))=true↔_
   rw [XaX,this]
   constructor
   ·rintro rfl;rfl
   ·intro h;exact D.tup.inj h
theorem Yce (n:Nat) (L:List Int):pU (n + 1) (.tup (L.map D.int)):=fun d hd=>by
 obtain ⟨x,_,rfl⟩:=List.mem_map.mp hd
 cases n <;> trivial
end L4
namespace L4
open PySem PySem.Spec L2
noncomputable def gInD (neg:Bool):D→D→Dm D:=fun a c st=>match toP st 20 a,(seqOf st c).bind (mapO (toP st 19)) with
 | some dx,some ds=>if dx.canLay0 && ds.all PyData.canLay0 && decide (dx.depth≤60) then some (.bl (if neg then !ds.any (fun d=>PyData.eqv d dx) else ds.any fun d=>PyData.eqv d dx),st) else none
 | _,_=>none
section
variable {K:PySem.W.Frag}
theorem Zbb {ρ:List Addr} {H:Hp} {st:Store} (l:Rl K ρ H st) (n:Nat):∀ {vs:List V} {ds:List D} {ps:List PyData},Rps K ρ H vs ds→mapO (toP st n) ds=some ps→Reps K H vs ps
 | _,_,_,.nil,h=>by cases h;exact .nil
 | _,_,_,.cons a b,h=>by
  obtain ⟨x,t,h1,h2,rfl⟩:=yar h
  exact .cons (za6 l n a h1) (Zbb l n b h2)
theorem ybP (neg:Bool):So2 K (rInD K neg) (gInD neg):=by
 intro ρ H st x y a c b st' Q l rx ry e q
 unfold gInD at e
 split at e
 ·next dx ds h1 h2 =>
  split at e
  ·next ok =>
   cases e
   rw [Bool.and_eq_true,Bool.and_eq_true,decide_eq_true_eq,List.all_eq_true] at ok
   obtain ⟨es,h3,h4⟩:=Option.bind_eq_some_iff.mp h2
   obtain ⟨p,xs,rfl,hq,rr⟩:∃ p xs,y=.ref p∧(SqL K H p xs∨SqT K H p xs)∧Rps K ρ H xs es:=by
    cases ry with
    | non=>cases h3
    | bl _=>cases h3
    | int _=>cases h3
    | str _=>cases h3
    | ty _=>cases h3
    | ref hi=>obtain ⟨vs,s,r⟩:=l.items hi h3;exact ⟨_,vs,rfl,.inl s,r⟩
    | tup s r=>cases h3;exact ⟨_,_,rfl,.inr s,r⟩
   exact ⟨p,xs,ds,dx,rfl,hq,Zbb l 19 rr h4,za6 l 20 rx h1,ok.1.2,ok.1.1,ok.2,q _ H ρ .refl l (.bl _)⟩
  ·cases e
 ·cases e
end
open Classical in
theorem ZbP {st:Store} {Q:D→Store→Prop} {neg:Bool} {n:Nat} {a c:D} {es:List D} (ha:pU n a) (hc:seqOf st c=some es) (he:∀ e∈es,pU n e) (hn:n≤15):Wp (gInD neg a c st) Q↔Q (.bl (if neg then !decide (a∈es) else decide (a∈es))) st:=by
 have h1:=Zce n a ha 20 (by omega) st
 have h2:mapO (toP st 19) es=some (es.map (tPn n)):=ybb fun x hx=>Zce n x (he x hx) 19 (by omega) st
 have ea:(es.map (tPn n)).any (fun d=>PyData.eqv d (tPn n a))=decide (a∈es):=by
  rw [Bool.eq_iff_iff,List.any_eq_true,decide_eq_true_eq]
  constructor
  ·rintro ⟨d,hd,h⟩
   obtain ⟨x,hx,rfl⟩:=List.mem_map.mp hd
   rw [← (eqv_U n x a (he x hx) ha).mp h]
   exact hx
  ·intro h
   exact ⟨_,List.mem_map.mpr ⟨a,h,rfl⟩,(eqv_U n a a ha ha).mpr rfl⟩
 have l1:=YbY n a ha
 have l2:(es.map (tPn n)).all PyData.canLay0=true:=by
  rw [List.all_eq_true]
  intro d hd
  obtain ⟨x,hx,rfl⟩:=List.mem_map.mp hd
  exact (YbY n x (he x hx)).1
 have e:gInD neg a c st=some (.bl (if neg then !decide (a∈es) else decide (a∈es)),st):=by
  unfold gInD
  simp only [h1,hc,Option.bind_some,h2,ea,l1.1,l2,Bool.true_and,decide_eq_true_eq]
  rw [if_pos (by omega)]
 rw [e,Zab]
end L4
namespace L4
open PySem PySem.Spec L2
section
variable {K:PySem.W.Frag}
end
section
variable {st:Store}
end
end L4
namespace L4
open PySem PySem.Spec L2
section
variable {K:PySem.W.Frag}
end
section
variable {st:Store} {Q:D→Store→Prop}
end
end L4
namespace L4
open PySem PySem.Spec L2
section
variable {K:PySem.W.Frag}
end
end L4
namespace L4
open PySem PySem.Spec L2
section
variable {K:PySem.W.Frag}
end
end L4
namespace L4
open PySem PySem.Spec L2
section
variable {K:PySem.W.Frag}
end
end L4
namespace L4
open PySem PySem.Spec L2
section
variable {K:PySem.W.Frag}
end
section
variable {δ:DSt} {st:Store} {N B C:DSt→Store→Prop} {R:D→Store→Prop}
end
end L4
namespace L4
open PySem PySem.Spec L2
section
variable {K:PySem.W.Frag}
end
section
variable {δ:DSt} {st:Store} {N B C:DSt→Store→Prop} {R:D→Store→Prop}
end
end L4
namespace L4
open PySem PySem.Spec L2
noncomputable def minOk (ps:List PyData):Bool:=decide (0 < ps.length) && ps.all (fun a=>ps.all fun b=>okP a b) && ps.all fun a=>a.canLay0 && decide (a.depth≤50)
noncomputable def gMinD:List D→Dm D
 | [.ref r],st=>match own st r with
  | some ds=>match mapO (toP st 20) ds with
   | some ps=>if minOk ps=true then (match ds[minAt ps]? with | some d=>some (d,st) | none=>none) else none
   | none=>none
  | none=>none
 | _,_=>none
section
variable {K:PySem.W.Frag}
theorem xce:SoC K (rMinD K) gMinD:=by
 intro ρ H st xs as b st' Q l rx e q
 unfold gMinD at e
 split at e
 ·next r st0 =>
  split at e
  ·next ds hd =>
   split at e
   ·next ps hp =>
    split at e
    ·next hok =>
     split at e
     ·next d hd0 =>
      cases e
      obtain ⟨v,rfl,r⟩:=rx.one'
      cases r with
      | ref hi =>
       obtain ⟨vs,hs,rr⟩:=l.items hi (zac (Zal hd))
       obtain ⟨v,hv,rv⟩:=rr.got hd0
       simp only [minOk,Bool.and_eq_true,decide_eq_true_eq,List.all_eq_true] at hok
       exact ⟨_,vs,ps,rfl,hs,Zbb l 20 rr hp,hok.1.1,hok.1.2,hok.2,v,hv,q v H ρ .refl l rv⟩
     ·cases e
    ·cases e
   ·cases e
  ·cases e
 ·cases e
end
theorem Xce {st:Store} {Q:D→Store→Prop} {r:Nat} {ds:List D} {ps:List PyData} (h:own st r=some ds) (hp:mapO (toP st 20) ds=some ps) (hok:minOk ps=true) {d:D} (hd:ds[minAt ps]?=some d):Wp (gMinD [.ref r] st) Q↔Q d st:=by
 have e:gMinD [.ref r] st=some (d,st):=by simp only [gMinD,h,hp,hok,hd,if_true]
 rw [e,Zab]
noncomputable def tupI (xs:List Int):PyData:=.tuple (xs.map PyData.int)
theorem zaY:∀ xs ys:List Int,okPs (xs.map PyData.int) (ys.map PyData.int)=true
 | [],_=>rfl
 | _ :: _,[]=>rfl
 | x :: xs,y :: ys=>by show (true && okPs (xs.map PyData.int) (ys.map PyData.int))=true;rw [zaY xs ys];rfl
end L4
namespace L4
open PySem PySem.Spec L2
theorem xaS {α:Type} {r:α→α→Prop}:∀ {xs ys:List α},xs.Perm ys→xs.Pairwise r→ys.Pairwise r→(∀ a∈xs,∀ b∈xs,r a b→r b a→a=b)→xs=ys
 | [],ys,p,_,_,_=>(List.nil_perm.mp p).symm
 | x :: xs,[],p,_,_,_=>absurd p.length_eq (by simp)
 | x :: xs,y :: ys,p,h1,h2,an=>by
  have e:x=y:=by
   have hx:x∈y :: ys:=p.subset List.mem_cons_self
   have hy:y∈x :: xs:=p.symm.subset List.mem_cons_self
   rcases List.mem_cons.mp hx with e | hx
   ·exact e
   ·rcases List.mem_cons.mp hy with e | hy
    ·exact e.symm
    ·exact an x List.mem_cons_self y (List.mem_cons_of_mem _ hy) ((List.pairwise_cons.mp h1).1 y hy) ((List.pairwise_cons.mp h2).1 x hx)
  subst e
  rw [xaS (List.perm_cons x |>.mp p) (List.pairwise_cons.mp h1).2 (List.pairwise_cons.mp h2).2 fun a ha b hb=>an a (List.mem_cons_of_mem _ ha) b (List.mem_cons_of_mem _ hb)]
noncomputable def srtOk (ps:List PyData):Bool:=decide (ps.length < 64) && ps.all (fun a=>ps.all fun b=>okP a b) && (ps.all fun a=>a.canLay0 && decide (a.depth≤50)) && (ps.all (hdP true) || ps.all (hdP false))
noncomputable def srtI (ps:List PyData):List Nat:=(List.range ps.length).mergeSort fun i j=>!btP ps (min j (ps.length - 1)) (min i (ps.length - 1))
noncomputable def srtD (ds:List D) (ps:List PyData):List D:=(srtI ps).map fun i=>ds.getD i .non
noncomputable def gSortD:List D→Dm D
 | [.ref r],st=>match own st r with
  | some ds=>match mapO (toP st 20) ds with
   | some ps=>if srtOk ps=true then some (.ref st.length,st ++ [.lst (srtD ds ps)]) else none
   | none=>none
  | none=>none
 | _,_=>none
theorem xao (ps:List PyData):(srtI ps).Perm (List.range ps.length):=List.mergeSort_perm _ _
theorem YbP (st:Store):∀ (n m:Nat) (d d':D) (p:PyData),toP st n d=some p→toP st m d'=some p→okP p p=true→d=d'
 | 0,_,_,_,_,h,_,_=>by simp [toP] at h
 | _,0,_,_,_,_,h,_=>by simp [toP] at h
 | n + 1,m + 1,d,d',p,h,h',ok=>by
  have all:∀ (ds ds':List D) (ps:List PyData),mapO (toP st n) ds=some ps→mapO (toP st m) ds'=some ps→okPs ps ps=true→ds=ds':=by
   intro ds
   induction ds with
   | nil =>
    intro ds' ps h1 h2 _
    cases h1
    cases ds' with
    | nil=>rfl
    | cons x r=>obtain ⟨_,_,_,_,e⟩:=yar h2;cases e
   | cons x r ih =>
    intro ds' ps h1 h2 ok
    obtain ⟨b,t,e1,e2,rfl⟩:=yar h1
    cases ds' with
    | nil=>cases h2
    | cons x' r' =>
     obtain ⟨b',t',e1',e2',e⟩:=yar h2
     cases e
     have o2:okP b b=true∧okPs t t=true:=by simpa [okPs] using ok
     rw [YbP st n m x x' b e1 e1' o2.1,ih r' t e2 e2' o2.2]
  cases p with
  | int i =>
   have e1:d=.int i:=by
    cases d <;> simp [toP] at h
    ·rw [h]
    ·split at h <;> simp at h
   have e2:d'=.int i:=by
    cases d' <;> simp [toP] at h'
    ·rw [h']
    ·split at h' <;> simp at h'
   rw [e1,e2]
  | tuple ps =>
   obtain ⟨ds,e1,g1⟩:∃ ds,d=.tup ds∧mapO (toP st n) ds=some ps:=by
    cases d <;> simp [toP] at h
    ·exact ⟨_,rfl,h⟩
    ·split at h <;> simp at h
   obtain ⟨ds',e2,g2⟩:∃ ds',d'=.tup ds'∧mapO (toP st m) ds'=some ps:=by
    cases d' <;> simp [toP] at h'
    ·exact ⟨_,rfl,h'⟩
    ·split at h' <;> simp at h'
   rw [e1,e2,all ds ds' ps g1 g2 ok]
  | none=>cases ok
  | bool _=>cases ok
  | str _=>cases ok
  | list _=>cases ok
  | dict _=>cases ok
theorem XaS {ps:List PyData} (hok:∀ a∈ps,∀ b∈ps,okP a b=true):((srtI ps).map fun i=>ps.getD i .none).Pairwise fun a b=>ltP b a=false:=by
 by_cases hn:ps=[]
 ·subst hn
  rw [List.perm_nil.mp (show (srtI []).Perm [] from xao [])]
  exact .nil
 have o:=ybr hok hn
 have hl:0 < ps.length:=List.length_pos_iff.mpr hn
 rw [List.pairwise_map]
 have key:=List.pairwise_mergeSort (le:=fun i j=>!btP ps (min j (ps.length - 1)) (min i (ps.length - 1))) (fun a b c h1 h2=>by
  have h1:btP ps (min b (ps.length - 1)) (min a (ps.length - 1))=false:=by simpa using h1
  have h2:btP ps (min c (ps.length - 1)) (min b (ps.length - 1))=false:=by simpa using h2
  have:=o.tr a b c h1 h2
  simpa using this) (fun a b=>by
  cases q:btP ps (min b (ps.length - 1)) (min a (ps.length - 1)) with
  | false=>rfl
  | true=>have:=o.as b a q;simpa using this) (List.range ps.length)
 refine List.Pairwise.imp_of_mem (fun {a b} ha hb h=>?_) key
 have a1:=List.mem_range.mp ((xao ps).subset ha)
 have b1:=List.mem_range.mp ((xao ps).subset hb)
 rw [show min a (ps.length - 1)=a by omega,show min b (ps.length - 1)=b by omega] at h
 unfold btP at h
 simpa using h
theorem xbP {f:D→Option PyData}:∀ {ds:List D} {ps:List PyData},mapO f ds=some ps→ds.length=ps.length∧∀ i,i < ps.length→f (ds.getD i .non)=some (ps.getD i .none)
 | [],_,h=>by cases h;exact ⟨rfl,fun i hi=>absurd hi (Nat.not_lt_zero _)⟩
 | d :: ds,_,h=>by
  obtain ⟨b,t,e1,e2,rfl⟩:=yar h
  obtain ⟨hl,ha⟩:=xbP e2
  refine ⟨by simp [hl],fun i hi=>?_⟩
  cases i with
  | zero=>exact e1
  | succ i=>exact ha i (by simpa using hi)
section
variable {K:PySem.W.Frag}
theorem xbt {ρ:List Addr} {H:Hp} {vs:List V} {ds:List D} (r:Rps K ρ H vs ds):∀ {is:List Nat} {es:List D},(∀ i∈is,i < ds.length)→es=is.map (fun i=>ds.getD i .non)→Rps K ρ H (is.map fun i=>vs.getD i .non) es
 | [],_,_,e=>by subst e;exact .nil
 | i :: is,_,h,e=>by
  subst e
  have hi:=h i List.mem_cons_self
  obtain ⟨v,hv,rv⟩:=r.got (List.getElem?_eq_getElem hi)
  refine .cons ?_ (xbt r (fun j hj=>h j (List.mem_cons_of_mem _ hj)) rfl)
  show Rp K ρ H (vs.getD i .non) (ds.getD i .non)
  rw [List.getD_eq_getElem?_getD,List.getD_eq_getElem?_getD,hv,List.getElem?_eq_getElem hi]
  exact rv
theorem Ybb:SoC K (rSortD K) gSortD:=by
 intro ρ H st xs as b st' Q l rx e q
 unfold gSortD at e
 split at e
 ·next r st0 =>
  split at e
  ·next ds hd =>
   split at e
   ·next ps hp =>
    split at e
    ·next hok =>
     cases e
     obtain ⟨v,rfl,r⟩:=rx.one'
     cases r with
     | ref hi =>
      obtain ⟨vs,hs,rr⟩:=l.items hi (zac (Zal hd))
      simp only [srtOk,Bool.and_eq_true,Bool.or_eq_true,decide_eq_true_eq,List.all_eq_true] at hok
      obtain ⟨⟨⟨k1,k2⟩,k3⟩,k4⟩:=hok
      obtain ⟨hl,ha⟩:=xbP hp
      refine ⟨_,vs,ps,rfl,hs,Zbb l 20 rr hp,k1,k2,k3,?_,fun p is hpn hperm hsrt=>?_⟩
      ·rcases k4 with k4 | k4
       ·exact ⟨true,k4⟩
       ·exact ⟨false,k4⟩
      ·have hb:∀ i∈is,i < ps.length:=fun i hi'=>List.mem_range.mp (hperm.subset hi')
       have hb2:∀ i∈srtI ps,i < ps.length:=fun i hi'=>List.mem_range.mp ((xao ps).subset hi')
       have eP:(is.map fun i=>ps.getD i .none)=(srtI ps).map fun i=>ps.getD i .none:=by
        refine xaS ((hperm.trans (xao ps).symm).map _) hsrt (XaS k2) fun a ha' b hb' h1 h2=>?_
        have mem:∀ x,x∈(is.map fun i=>ps.getD i .none)→x∈ps:=fun x hx=>by
         obtain ⟨i,hi',rfl⟩:=List.mem_map.mp hx
         rw [List.getD_eq_getElem?_getD,List.getElem?_eq_getElem (hb i hi')]
         exact List.getElem_mem _
        exact zbn a b (k2 a (mem a ha') b (mem b hb')) (k2 b (mem b hb') a (mem a ha')) h2 h1
       have eD:srtD ds ps=is.map fun i=>ds.getD i .non:=by
        unfold srtD
        have hlen:is.length=(srtI ps).length:=by have:=congrArg List.length eP;simpa using this
        refine List.ext_getElem (by simp [hlen]) fun i h1 h2=>?_
        rw [List.getElem_map,List.getElem_map]
        have g1:i < (srtI ps).length:=by simpa using h1
        have g2:i < is.length:=by simpa using h2
        have e1:ps.getD is[i] .none=ps.getD (srtI ps)[i] .none:=by
         have:=List.getElem_of_eq eP (i:=i) (by simpa using g2)
         simpa using this
        have b1:=hb2 _ (List.getElem_mem g1)
        have b2:=hb _ (List.getElem_mem g2)
        have m1:ps.getD (srtI ps)[i] .none∈ps:=by
         rw [List.getD_eq_getElem?_getD,List.getElem?_eq_getElem b1]
         exact List.getElem_mem _
        exact YbP st 20 20 _ _ _ (ha _ b1) (by rw [ha _ b2,e1]) (k2 _ m1 _ m1)
       exact q _ _ _ (Mn.new hpn) (l.newL hpn (xbt rr (fun i hi'=>by rw [hl];exact hb i hi') eD)) (.ref (newR l))
    ·cases e
   ·cases e
  ·cases e
 ·cases e
end
theorem xbb {st:Store} {Q:D→Store→Prop} {r:Nat} {ds:List D} {ps:List PyData} (h:own st r=some ds) (hp:mapO (toP st 20) ds=some ps) (hok:srtOk ps=true):Wp (gSortD [.ref r] st) Q↔Q (.ref st.length) (st ++ [.lst (srtD ds ps)]):=by
 have e:gSortD [.ref r] st=some (.ref st.length,st ++ [.lst (srtD ds ps)]):=by simp only [gSortD,h,hp,hok,if_true]
 rw [e,Zab]
end L4
namespace L4
open PySem PySem.Spec L2
section
variable {K:PySem.W.Frag}
end
section
variable {st:Store} {Q:D→Store→Prop} {i:Nat}
end
end L4
namespace L4
open PySem PySem.Spec L2
section
variable {K:PySem.W.Frag}
end
section
variable {st:Store} {Q:D→Store→Prop} {δ:DSt}
end
end L4
namespace L4
open PySem PySem.Spec L2
section
variable {K:PySem.W.Frag}
end
section
variable {st:Store} {Q:D→Store→Prop}
end
end L4
namespace L4
open PySem PySem.Spec L2
section
variable {K:PySem.W.Frag}
end
section
variable {st:Store} {δ:DSt}
end
end L4
namespace L4
open PySem PySem.Spec L2
section
variable {K:PySem.W.Frag}
noncomputable def gSum:List D→Dm D
 | [.ref i],st=>match (items st i).bind (mapO iV) with
  | some ns=>some (.int ns.sum,st)
  | none=>none
 | _,_=>none
theorem so_sum:SoC K (fun xs H Q=>∃ (p:Addr) (ns:List Int),xs=[.ref p]∧SqL K H p (ns.map V.int)∧Q (.int ns.sum) H) gSum:=by
 intro ρ H st xs as b st' Q l rx e q
 unfold gSum at e
 split at e
 ·split at e
  ·next ns hd =>
   cases e
   obtain ⟨v,rfl,r⟩:=rx.one'
   obtain ⟨ds,h3,h4⟩:=Option.bind_eq_some_iff.mp hd
   cases r with
   | ref hi =>
    obtain ⟨vs,s,r⟩:=l.items hi h3
    cases ybL r h4
    exact ⟨_,ns,rfl,s,q _ H ρ .refl l (.int _)⟩
  ·cases e
 ·cases e
end
theorem wp_sum {st:Store} {Q:D→Store→Prop} {k:Nat} {ns:List Int} (h:items st k=some (ns.map D.int)):Wp (gSum [.ref k] st) Q↔Q (.int ns.sum) st:=by
 have e:gSum [.ref k] st=some (.int ns.sum,st):=by
  simp only [gSum,h,Option.bind_some,xbn]
 rw [e,Zab]
theorem Xbt (ns:List Int):∀ k,k < ns.length→argBest (btP (ns.map PyData.int)) k≤k∧∀ i,i≤k→ns.getD (argBest (btP (ns.map PyData.int)) k) 0≤ns.getD i 0
 | 0,h=>⟨Nat.le_refl _,fun i hi=>by rw [show i=0 by omega];exact Int.le_refl _⟩
 | k + 1,h=>by
  obtain ⟨h1,h2⟩:=Xbt ns k (by omega)
  have eb:∀ j,j < ns.length→btP (ns.map PyData.int) (k + 1) j=decide (ns.getD (k + 1) 0 < ns.getD j 0):=fun j hj=>by
   unfold btP
   rw [List.getD_eq_getElem?_getD,List.getD_eq_getElem?_getD,List.getElem?_map,List.getElem?_map,List.getElem?_eq_getElem h,List.getElem?_eq_getElem hj,List.getD_eq_getElem?_getD,List.getD_eq_getElem?_getD,List.getElem?_eq_getElem h,List.getElem?_eq_getElem hj]
   rfl
  have hb:=eb (argBest (btP (ns.map PyData.int)) k) (by omega)
  show (if btP (ns.map PyData.int) (k + 1) (argBest (btP (ns.map PyData.int)) k)=true then k + 1 else argBest (btP (ns.map PyData.int)) k)≤k + 1∧∀ i,i≤k + 1→ns.getD (if btP (ns.map PyData.int) (k + 1) (argBest (btP (ns.map PyData.int)) k)=true then k + 1 else argBest (btP (ns.map PyData.int)) k) 0≤ns.getD i 0
  rw [hb]
  by_cases hc:ns.getD (k + 1) 0 < ns.getD (argBest (btP (ns.map PyData.int)) k) 0
  ·rw [if_pos (decide_eq_true hc)]
   refine ⟨Nat.le_refl _,fun i hi=>?_⟩
   by_cases hik:i≤k
   ·have:=h2 i hik;omega
   ·rw [show i=k + 1 by omega];exact Int.le_refl _
  ·rw [if_neg (by rw [decide_eq_true_iff];exact hc)]
   refine ⟨by omega,fun i hi=>?_⟩
   by_cases hik:i≤k
   ·exact h2 i hik
   ·rw [show i=k + 1 by omega];omega
theorem zcf {st:Store} {r:Nat} {ns:List Int} (h:own st r=some (ns.map D.int)) (hn:ns≠[]):∃ m:Int,m∈ns∧(∀ y∈ns,m≤y)∧∀ Q:D→Store→Prop,Wp (gMinD [.ref r] st) Q↔Q (.int m) st:=by
 have hl:0 < ns.length:=List.length_pos_iff.mpr hn
 obtain ⟨h1,h2⟩:=Xbt ns (ns.length - 1) (by omega)
 have hp:mapO (toP st 20) (ns.map D.int)=some (ns.map PyData.int):=Zam (f:=toP st 20) (g:=D.int) (k:=PyData.int) (fun _=>rfl) ns
 have hlt:argBest (btP (ns.map PyData.int)) (ns.length - 1) < ns.length:=by omega
 have e0:ns.getD (argBest (btP (ns.map PyData.int)) (ns.length - 1)) 0=ns[argBest (btP (ns.map PyData.int)) (ns.length - 1)]:=by rw [List.getD_eq_getElem?_getD,List.getElem?_eq_getElem hlt];rfl
 refine ⟨ns.getD (argBest (btP (ns.map PyData.int)) (ns.length - 1)) 0,?_,fun y hy=>?_,fun Q=>?_⟩
 ·rw [e0];exact List.getElem_mem _
 ·obtain ⟨i,hi,rfl⟩:=List.getElem_of_mem hy
  have:=h2 i (by omega)
  rw [List.getD_eq_getElem?_getD (i:=i),List.getElem?_eq_getElem hi] at this
  exact this
 ·refine Xce h hp ?_ ?_
  ·simp only [minOk,Bool.and_eq_true,decide_eq_true_eq,List.all_eq_true,List.length_map]
   refine ⟨⟨hl,fun a ha b hb=>?_⟩,fun a ha=>?_⟩
   ·obtain ⟨p,_,rfl⟩:=List.mem_map.mp ha
    obtain ⟨q,_,rfl⟩:=List.mem_map.mp hb
    rfl
   ·obtain ⟨p,_,rfl⟩:=List.mem_map.mp ha
    exact ⟨rfl,by simp [PyData.depth]⟩
  ·unfold minAt
   rw [List.length_map,List.getElem?_map,List.getElem?_eq_getElem hlt,e0]
   rfl
theorem xaU {δ:DSt} {st:Store} {fi:DSt→Dm Src} {js:List Nat} {c:DSt→Dm Bool} {f:DSt→Dm D} {Q:D→Store→Prop} (ds:List D) (q:D→Bool) (h:D→D) (hi:Wp (fi δ st) fun S st1=>SrcOk S ds st1∧Ex [] st st1) (hl:ds.length < 100000)
  (cond:∀ d∈ds,∀ st1,Ex [] st st1→Wp (c (some d :: js.map fun j=>δ.getD j none) st1) fun b st2=>b=q d∧Ex [] st1 st2)
  (step:∀ d∈ds,q d=true→∀ st1,Ex [] st st1→Wp (f (some d :: js.map fun j=>δ.getD j none) st1) fun y st2=>y=h d∧Ex [] st1 st2) (fin:∀ st',Ex [] st st'→Q (.ref st'.length) (st' ++ [.lst ((ds.filter q).map h)])):Wp (fComp fi 1 js (hName 0) c f δ st) Q:=by
 obtain ⟨S,st1,e1,hS,k1⟩:=hi
 refine zba ds (fun i ys δ' st8=>(∃ v,δ'=v :: js.map fun j=>δ.getD j none)∧ys=((ds.take i).filter q).map h∧Ex [] st1 st8) ⟨S,st1,e1,fun i ys δ' st8 hi' hp=>hS i st8 hi' hp.2.2,⟨none,rfl⟩,rfl,Ex.refl⟩ hl ?_ ?_ ?_
 ·rintro i ys δ' st8 ⟨_,rfl,_⟩
  rw [List.length_map]
  refine Nat.le_trans (List.length_filter_le _ _) ?_
  rw [List.length_take];omega
 ·rintro i d ys δ' st8 hd ⟨⟨v,rfl⟩,rfl,k8⟩
  obtain ⟨hlt,e⟩:=List.getElem?_eq_some_iff.mp hd
  have hm:=List.mem_of_getElem? hd
  rw [Yba]
  refine Yab (cond d hm st8 (k1.trans k8)) ?_
  rintro b st9 ⟨rfl,k9⟩
  refine ⟨fun hq=>Yab (step d hm hq st9 (k1.trans (k8.trans k9))) ?_,fun hq=>⟨⟨some d,rfl⟩,?_,k8.trans k9⟩⟩
  ·rintro y st10 ⟨rfl,k10⟩
   refine ⟨⟨some d,rfl⟩,?_,(k8.trans k9).trans k10⟩
   rw [List.take_succ_eq_append_getElem hlt,List.filter_append,List.map_append,e,List.filter_cons_of_pos hq];rfl
  ·rw [List.take_succ_eq_append_getElem hlt,List.filter_append,List.map_append,e,List.filter_cons_of_neg (by rw [hq];decide)]
   simp
 ·rintro ys δ' st8 ⟨_,rfl,k8⟩
  rw [List.take_length]
  exact fin st8 (k1.trans k8)
theorem XbP {δ:DSt} {st:Store} {fi:DSt→Dm Src} {js:List Nat} {f:DSt→Dm D} {Q:D→Store→Prop} (ps:List (D×D×D)) (h:D×D×D→D) (hi:Wp (fi δ st) fun S st1=>SrcOk S (ps.map fun p=>.tup [p.1,p.2.1,p.2.2]) st1∧Ex [] st st1) (hl:ps.length < 100000)
  (step:∀ p∈ps,∀ st1,Ex [] st st1→Wp (f (some p.1 :: some p.2.1 :: some p.2.2 :: js.map fun j=>δ.getD j none) st1) fun y st2=>y=h p∧Ex [] st1 st2) (fin:∀ st',Ex [] st st'→Q (.ref st'.length) (st' ++ [.lst (ps.map h)])):Wp (fComp fi 3 js (hTup 3 (hCons (hName 0) (hCons (hName 1) (hCons (hName 2) hNil)))) fTrue f δ st) Q:=by
 obtain ⟨S,st1,e1,hS,k1⟩:=hi
 refine zba (ps.map fun p=>.tup [p.1,p.2.1,p.2.2]) (fun i ys δ' st8=>(∃ v w x,δ'=v :: w :: x :: js.map fun j=>δ.getD j none)∧ys=(ps.take i).map h∧Ex [] st1 st8) ⟨S,st1,e1,fun i ys δ' st8 hi' hp=>hS i st8 hi' hp.2.2,⟨none,none,none,rfl⟩,rfl,Ex.refl⟩ (by rw [List.length_map];exact hl) ?_ ?_ ?_
 ·rintro i ys δ' st8 ⟨_,rfl,_⟩
  rw [List.length_map,List.length_take];omega
 ·rintro i d ys δ' st8 hd ⟨⟨v,w,x,rfl⟩,rfl,k8⟩
  rw [List.getElem?_map] at hd
  obtain ⟨p,hp,rfl⟩:=Option.map_eq_some_iff.mp hd
  obtain ⟨hlt,e⟩:=List.getElem?_eq_some_iff.mp hp
  refine ⟨[some p.1,some p.2.1,some p.2.2] ++ js.map fun j=>δ.getD j none,st8,rfl,?_⟩
  show Wp (fTrue _ _) _
  rw [Xbn]
  refine ⟨fun _=>?_,fun h=>absurd h (by decide)⟩
  refine Yab (step p (List.mem_of_getElem? hp) st8 (k1.trans k8)) ?_
  rintro y st9 ⟨rfl,k9⟩
  refine ⟨⟨_,_,_,rfl⟩,?_,k8.trans k9⟩
  rw [List.take_succ_eq_append_getElem hlt,List.map_append,e];rfl
 ·rintro ys δ' st8 ⟨_,rfl,k8⟩
  rw [List.length_map,List.take_length]
  exact fin st8 (k1.trans k8)
theorem zb3 {ds:List D} {d:D} (h:ds[ds.length - 1]?=some d):atI ds (-1)=some d:=by
 have hl:=(List.getElem?_eq_some_iff.mp h).1
 unfold atI ixN
 rw [if_neg (by decide),if_pos (by omega),Option.bind_some,show ((-1:Int) + (ds.length:Int)).toNat=ds.length - 1 by omega]
 exact h
end L4
namespace L4
open PySem PySem.Spec L2
section
variable {K:PySem.W.Frag}
end
end L4
namespace L4
open PySem PySem.Spec L2
section
variable {K:PySem.W.Frag}
end
section
variable {st:Store} {Q:D→Store→Prop}
end
end L4
namespace L4
open PySem PySem.Spec L2
section
variable {K:PySem.W.Frag}
end
end L4
namespace L4
open PySem PySem.Spec L2
noncomputable def ksO:List D→Option (List Int)
 | []=>some []
 | .int i :: r=>match ksO r with
  | some l=>some (i :: l)
  | none=>none
 | _=>none
noncomputable def tkOf:D→Option (List Int)
 | .tup ds=>ksO ds
 | _=>none
noncomputable def dcuOf (st:Store):D→Option (List (List Int×D))
 | .ref i=>match st[i]? with
  | some (.dcu kvs)=>some kvs
  | _=>none
 | _=>none
noncomputable def valU (kvs:List (List Int×D)) (k:List Int):Option D:=(kvs.find? fun kv=>decide (kv.1=k)).map (·.2)
noncomputable def putU (kvs:List (List Int×D)) (k:List Int) (v:D):List (List Int×D) :=
 if (valU kvs k).isSome=true then kvs.map (fun kv=>if kv.1=k then (kv.1,v) else kv) else kvs ++ [(k,v)]
theorem zbQ:∀ (L:List Int),ksO (L.map D.int)=some L
 | []=>rfl
 | i :: r=>by rw [List.map_cons,ksO,zbQ r]
theorem xbY (L:List Int):tkOf (.tup (L.map D.int))=some L:=zbQ L
section
variable {K:PySem.W.Frag} {ρ:List Addr} {H:Hp} {st:Store}
theorem yb3:∀ {ds:List D} {vs:List V} {k:List Int},Rps K ρ H vs ds→ksO ds=some k→vs=k.map V.int
 | _,_,_,.nil,h=>by cases h;rfl
 | _,_,_,.cons (d:=d) (ds:=ds) r t,h=>by
  cases d <;> first | (cases h;done) | skip
  next i =>
   rw [ksO] at h
   cases hk:ksO ds with
   | none=>rw [hk] at h;cases h
   | some l =>
    rw [hk] at h
    cases h
    cases r
    rw [yb3 t hk];rfl
theorem ycf {x:V} {y:D} {k:List Int} (r:Rp K ρ H x y) (h:tkOf y=some k):∃ b,x=.ref b∧SqT K H b (k.map V.int):=by
 cases r <;> first | (cases h;done) | skip
 next q t=>rw [tkOf] at h;rw [yb3 t h] at q;exact ⟨_,rfl,q⟩
theorem zbu {x:V} {a:D} {kvs:List (List Int×D)} (l:Rl K ρ H st) (r:Rp K ρ H x a) (h:dcuOf st a=some kvs):∃ p i xs,x=.ref p∧a=.ref i∧ρ[i]?=some p∧st[i]?=some (.dcu kvs)∧H p=some (DU p xs)∧Ru K ρ H kvs xs:=by
 cases r <;> first | (cases h;done) | skip
 next hi =>
  simp only [dcuOf] at h
  split at h
  ·next kvs' hs =>
   cases h
   obtain ⟨ws,e,r⟩:=l.obj _ _ _ hi hs
   exact ⟨_,_,ws,rfl,rfl,hi,hs,e,r⟩
  ·cases h
theorem Ru.keys {kvs:List (List Int×D)} {xs:List (List Int×Addr×Value)} (r:Ru K ρ H kvs xs):∀ x∈xs,SqT K H x.2.1 (x.1.map V.int):=by
 induction r with
 | nil=>intro x hx;exact nomatch hx
 | cons h _ ih =>
  intro x hx
  rcases List.mem_cons.mp hx with e | hx
  ·subst e;exact h.2.1
  ·exact ih x hx
theorem Ru.val {kvs:List (List Int×D)} {xs:List (List Int×Addr×Value)} (r:Ru K ρ H kvs xs) (k:List Int):(∀ d,valU kvs k=some d→∃ p v,atKey xs k=some p∧RelV v p.2∧Rp K ρ H v d)∧(atKey xs k).isSome=(valU kvs k).isSome:=by
 induction r with
 | nil=>exact ⟨fun d h=>(by cases h),rfl⟩
 | @cons p q ps qs h t ih =>
  obtain ⟨h1,h2,v,h3,h4⟩:=h
  unfold valU atKey at ih ⊢
  rw [List.find?_cons,List.find?_cons]
  by_cases e:p.1=k
  ·rw [decide_eq_true e,decide_eq_true (h1 ▸ e)]
   exact ⟨fun d hd=>by cases hd;exact ⟨_,v,rfl,h3,h4⟩,rfl⟩
  ·rw [decide_eq_false e,decide_eq_false (h1 ▸ e)]
   exact ih
theorem Ru.app {kvs kvs':List (List Int×D)} {xs xs':List (List Int×Addr×Value)} (r:Ru K ρ H kvs xs) (r':Ru K ρ H kvs' xs'):Ru K ρ H (kvs ++ kvs') (xs ++ xs'):=by
 induction r with
 | nil=>exact r'
 | cons h _ ih=>exact .cons h ih
theorem Ru.put {kvs:List (List Int×D)} {xs:List (List Int×Addr×Value)} {v:V} {u:Value} {d:D} {b:Addr} (r:Ru K ρ H kvs xs) (k:List Int) (hb:SqT K H b (k.map V.int)) (hu:RelV v u) (rv:Rp K ρ H v d):Ru K ρ H (putU kvs k d) (storedH xs k b u):=by
 have hany:=(r.val k).2
 have hmap:Ru K ρ H (kvs.map fun kv=>if kv.1=k then (kv.1,d) else kv) (xs.map (putAt k u)):=by
  clear hany
  induction r with
  | nil=>exact .nil
  | @cons p q ps qs h _ ih =>
   refine .cons ?_ ih
   unfold putAt
   dsimp only
   by_cases e:p.1=k
   ·rw [if_pos e,if_pos (h.1 ▸ e)];exact ⟨h.1,h.2.1,v,hu,rv⟩
   ·rw [if_neg e,if_neg (h.1 ▸ e)];exact h
 unfold putU storedH
 rw [hany]
 split
 ·exact hmap
 ·exact r.app (.cons ⟨rfl,hb,v,hu,rv⟩ .nil)
theorem Ru.length {kvs:List (List Int×D)} {xs:List (List Int×Addr×Value)} (r:Ru K ρ H kvs xs):xs.length=kvs.length:=by
 induction r with
 | nil=>rfl
 | cons _ _ ih=>rw [List.length_cons,List.length_cons,ih]
end
section
variable {K:PySem.W.Frag}
noncomputable def fUNew:DSt→Dm D:=fun _ st=>some (.ref st.length,st ++ [.dcu []])
theorem Zcf:SoE K tUNew fUNew:=by
 intro ρ σ H δ st b st' Q l rs e q
 cases e
 exact fun p hp=>q _ _ _ (Mn.new hp) (l.new hp ⟨[],zao,.nil⟩) (.ref (newR l))
noncomputable def fUGet (fd fy:DSt→Dm D):DSt→Dm D:=fun δ st=>bnd (fd δ st) fun x st1=>bnd (fy δ st1) fun y st2=>match dcuOf st2 x,tkOf y with
 | some kvs,some k=>match valU kvs k with
  | some v=>some (v,st2)
  | none=>none
 | _,_=>none
theorem ybQ {td ty:TE} {fd fy:DSt→Dm D} (hd:SoE K td fd) (hy:SoE K ty fy):SoE K (tUGet K td ty) (fUGet fd fy):=by
 intro ρ σ H δ st b st' Q l rs e q
 obtain ⟨x,st1,e1,e⟩:=xac e
 obtain ⟨y,st2,e2,e⟩:=xac e
 refine hd ρ σ H δ st x st1 _ l rs e1 fun vx H1 ρ1 m1 l1 r1=>hy ρ1 σ H1 δ st1 y st2 _ l1 (rs.mn m1) e2 fun vy H2 ρ2 m2 l2 r2=>?_
 split at e
 ·next kvs k hx hk =>
  split at e
  ·next v hv =>
   cases e
   obtain ⟨p,i,ws,rfl,rfl,hi,hs,hp,rk⟩:=zbu l2 (r1.mn m2) hx
   obtain ⟨w,v',hw,rv,rw'⟩:=(rk.val k).1 _ hv
   exact ⟨p,ws,k,w,v',rfl,⟨ycf r2 hk,hp,rk.keys⟩,hw,rv,q v' H2 ρ2 (m1.trans m2) l2 rw'⟩
  ·cases e
 ·cases e
noncomputable def fUIn (neg:Bool) (fy fd:DSt→Dm D):DSt→Dm D:=fun δ st=>bnd (fy δ st) fun y st1=>bnd (fd δ st1) fun x st2=>match dcuOf st2 x,tkOf y with
 | some kvs,some k=>some (.bl (if neg then !(valU kvs k).isSome else (valU kvs k).isSome),st2)
 | _,_=>none
theorem so_uin {td ty:TE} {fd fy:DSt→Dm D} (hy:SoE K ty fy) (hd:SoE K td fd):SoE K (tUIn K ty td) (fUIn false fy fd):=by
 intro ρ σ H δ st b st' Q l rs e q
 obtain ⟨y,st1,e1,e⟩:=xac e
 obtain ⟨x,st2,e2,e⟩:=xac e
 refine hy ρ σ H δ st y st1 _ l rs e1 fun vy H1 ρ1 m1 l1 r1=>hd ρ1 σ H1 δ st1 x st2 _ l1 (rs.mn m1) e2 fun vx H2 ρ2 m2 l2 r2=>?_
 split at e
 ·next kvs k hx hk =>
  cases e
  obtain ⟨p,i,ws,rfl,rfl,hi,hs,hp,rk⟩:=zbu l2 r2 hx
  refine ⟨p,ws,k,rfl,⟨ycf (r1.mn m2) hk,hp,rk.keys⟩,q _ H2 ρ2 (m1.trans m2) l2 ?_⟩
  rw [(rk.val k).2]
  exact .bl _
 ·cases e
noncomputable def fUPut (fd fy fv:DSt→Dm D):DSt→Dm Fl:=fun δ st=>bnd (fv δ st) fun v st1=>bnd (fd δ st1) fun x st2=>bnd (fy δ st2) fun y st3=>match x,dcuOf st3 x,tkOf y with
 | .ref i,some kvs,some k=>if lim kvs.length=true then some (.nx δ,st3.set i (.dcu (putU kvs k v))) else none
 | _,_,_=>none
theorem Ycf {td ty tv:TE} {fd fy fv:DSt→Dm D} (hd:SoE K td fd) (hy:SoE K ty fy) (hv:SoE K tv fv):SoS K (sUPut K td ty tv) (fUPut fd fy fv):=by
 intro ρ σ H δ st fl st' E l rs e q
 obtain ⟨v,st1,e1,e⟩:=xac e
 obtain ⟨x,st2,e2,e⟩:=xac e
 obtain ⟨y,st3,e3,e⟩:=xac e
 refine hv ρ σ H δ st v st1 _ l rs e1 fun vv H1 ρ1 m1 l1 r1=>hd ρ1 σ H1 δ st1 x st2 _ l1 (rs.mn m1) e2 fun vx H2 ρ2 m2 l2 r2=>hy ρ2 σ H2 δ st2 y st3 _ l2 (rs.mn (m1.trans m2)) e3 fun vy H3 ρ3 m3 l3 r3=>?_
 obtain ⟨i,rfl⟩:∃ i,x=.ref i:=by
  cases x <;> first | exact ⟨_,rfl⟩ | (simp at e;done) | cases e
 cases hx:dcuOf st3 (.ref i) with
 | none=>rw [hx] at e;cases e
 | some kvs =>
 cases hk:tkOf y with
 | none=>rw [hx,hk] at e;cases e
 | some k =>
  rw [hx,hk] at e
  simp only at e
  split at e
  ·next hl =>
   cases e
   obtain ⟨p,j,ws,rfl,ej,hi,hs,hp,rk⟩:=zbu l3 (r2.mn m3) hx
   cases ej
   obtain ⟨b,rfl,hb⟩:=ycf r3 hk
   refine ⟨p,b,ws,k,rfl,rfl,⟨⟨b,rfl,hb⟩,hp,rk.keys⟩,by rw [rk.length];exact ybs hl,fun r rr=>?_⟩
   obtain ⟨l4,m4⟩:=l3.putU hi hs (rk.put k hb rr (r1.mn (m2.trans m3)))
   have mm:=((m1.trans m2).trans m3).trans m4
   exact q σ _ ρ3 mm l4 (rs.mn mm)
  ·cases e
end
section
variable {st:Store} {δ:DSt} {Q:D→Store→Prop}
theorem xcf:Wp (fUNew δ st) Q↔Q (.ref st.length) (st ++ [.dcu []]):=Zab
theorem ZbQ {fd fy:DSt→Dm D}:Wp (fUGet fd fy δ st) Q↔Wp (fd δ st) fun x st1=>Wp (fy δ st1) fun y st2=>∃ kvs k v,dcuOf st2 x=some kvs∧tkOf y=some k∧valU kvs k=some v∧Q v st2:=by
 unfold fUGet;rw [yae];simp only [yae]
 constructor <;> refine fun h=>Yab h fun x s h=>Yab h fun y s2 h=>?_
 ·split at h
  ·next kvs k h1 h2 =>
   split at h
   ·next v h3=>exact ⟨kvs,k,v,by assumption,by assumption,h3,Zab.mp h⟩
   ·exact (Zae.mp h).elim
  ·exact (Zae.mp h).elim
 ·obtain ⟨kvs,k,v,h1,h2,h3,h⟩:=h
  rw [h1,h2]
  simp only [h3]
  exact Zab.mpr h
theorem wp_uin {neg:Bool} {fd fy:DSt→Dm D}:Wp (fUIn neg fy fd δ st) Q↔Wp (fy δ st) fun y st1=>Wp (fd δ st1) fun x st2=>∃ kvs k,dcuOf st2 x=some kvs∧tkOf y=some k∧Q (.bl (if neg then !(valU kvs k).isSome else (valU kvs k).isSome)) st2:=by
 unfold fUIn;rw [yae];simp only [yae]
 constructor <;> refine fun h=>Yab h fun x s h=>Yab h fun y s2 h=>?_
 ·split at h
  ·next kvs k h1 h2=>exact ⟨kvs,k,by assumption,by assumption,Zab.mp h⟩
  ·exact (Zae.mp h).elim
 ·obtain ⟨kvs,k,h1,h2,h⟩:=h
  rw [h1,h2]
  exact Zab.mpr h
theorem Xcf {fd fy fv:DSt→Dm D} {N B C:DSt→Store→Prop} {R:D→Store→Prop} (h:Wp (fv δ st) fun v st1=>Wp (fd δ st1) fun x st2=>Wp (fy δ st2) fun y st3=>∃ i kvs k,x=.ref i∧dcuOf st3 x=some kvs∧tkOf y=some k∧lim kvs.length=true∧N δ (st3.set i (.dcu (putU kvs k v)))):Ws (fUPut fd fy fv δ st) N B C R:=by
 unfold Ws fUPut
 rw [yae]
 refine Yab h fun v st1 h=>?_
 rw [yae]
 refine Yab h fun x st2 h=>?_
 rw [yae]
 refine Yab h fun y st3 h=>?_
 obtain ⟨i,kvs,k,rfl,h1,h2,h3,h⟩:=h
 rw [h1,h2]
 simp only [h3]
 exact Zab.mpr h
end
theorem XaU {st:Store} {i:Nat} {kvs:List (List Int×D)} (h:st[i]?=some (.dcu kvs)):dcuOf st (.ref i)=some kvs:=by simp only [dcuOf,h]
end L4
namespace L4
open PySem PySem.Spec L2
section
variable {K:PySem.W.Frag}
theorem Ru.vals {ρ:List Addr} {H:Hp} {kvs:List (List Int×D)} {xs:List (List Int×Addr×Value)} (r:Ru K ρ H kvs xs):∃ vs,Vals vs (xs.map (·.2.2))∧Rps K ρ H vs (kvs.map (·.2)):=by
 induction r with
 | nil=>exact ⟨[],.nil,.nil⟩
 | cons h _ ih =>
  obtain ⟨_,_,v,h3,h4⟩:=h
  obtain ⟨vs,h5,h6⟩:=ih
  exact ⟨v :: vs,.cons h3 h5,.cons h4 h6⟩
noncomputable def fUVals (fd:DSt→Dm D):DSt→Dm D:=fun δ st=>bnd (fd δ st) fun x st1=>match dcuOf st1 x with
 | some kvs=>some (.ref st1.length,st1 ++ [.lst (kvs.map (·.2))])
 | none=>none
theorem XbY {td:TE} {fd:DSt→Dm D} (hd:SoE K td fd):SoE K (tUVals K td) (fUVals fd):=by
 intro ρ σ H δ st b st' Q l rs e q
 obtain ⟨x,st1,e1,e⟩:=xac e
 refine hd ρ σ H δ st x st1 _ l rs e1 fun vx H1 ρ1 m1 l1 r1=>?_
 split at e
 ·next kvs hx =>
  cases e
  obtain ⟨p,i,ws,rfl,rfl,hi,hs,hp,rk⟩:=zbu l1 r1 hx
  obtain ⟨vs,h1,h2⟩:=rk.vals
  exact ⟨p,ws,vs,rfl,hp,rk.keys,h1,fun a ha=>q _ _ _ (m1.trans (Mn.new ha)) (l1.newL ha h2) (.ref (newR l1))⟩
 ·cases e
noncomputable def gExtendT:D→List D→Dm D
 | .ref i,[.tup ys],st=>match own st i with
  | some xs=>if lim (xs.length + ys.length)=true then some (.non,st.set i (.lst (xs ++ ys))) else none
  | _=>none
 | _,_,_=>none
theorem Ybz:SoM K "list" (rExtendT K) gExtendT:=by
 intro ρ H st x xs a as b st' Q l rx rxs e q
 unfold gExtendT at e
 split at e
 ·split at e
  ·next xs' hx =>
   split at e
   ·next hl =>
    cases e
    obtain ⟨v,rfl,r⟩:=rxs.one'
    cases rx with
    | ref hi =>
     cases r with
     | tup hq r2 =>
      obtain ⟨vs,e1,r1⟩:=l.obj _ _ _ hi (Zal hx)
      obtain ⟨l2,m2⟩:=l.putL hi (Zal hx) (r1.append r2)
      exact ⟨_,_,vs,_,rfl,rfl,e1,hq,by rw [r1.length,r2.length];exact Ya0 hl,q _ _ ρ m2 l2 .non⟩
   ·cases e
  ·cases e
 ·cases e
end
section
variable {st:Store} {δ:DSt} {Q:D→Store→Prop}
theorem zbZ {fd:DSt→Dm D}:Wp (fUVals fd δ st) Q↔Wp (fd δ st) fun x st1=>∃ kvs,dcuOf st1 x=some kvs∧Q (.ref st1.length) (st1 ++ [.lst (kvs.map (·.2))]):=by
 unfold fUVals;rw [yae]
 constructor <;> refine fun h=>Yab h fun x s h=>?_
 ·split at h
  ·next kvs h1=>exact ⟨kvs,by assumption,Zab.mp h⟩
  ·exact (Zae.mp h).elim
 ·obtain ⟨kvs,h1,h⟩:=h
  rw [h1]
  exact Zab.mpr h
theorem xbz {k:Nat} {ys:List D}:Wp (gExtendT (.ref k) [.tup ys] st) Q↔∃ xs,own st k=some xs∧lim (xs.length + ys.length)=true∧Q .non (st.set k (.lst (xs ++ ys))):=by
 constructor
 ·rintro ⟨a,s,e,q⟩
  simp only [gExtendT] at e
  split at e
  ·next xs hx =>
   split at e
   ·next hl=>cases e;exact ⟨xs,hx,hl,q⟩
   ·cases e
  ·cases e
 ·rintro ⟨xs,h1,h2,q⟩
  refine ⟨_,_,?_,q⟩
  simp only [gExtendT,h1,h2]
  rfl
end
end L4
namespace My
open PySem L2 L4
noncomputable def top (i:Nat):Stmt:=PySem.Challenge.pw_shearfloor_k25_bands_told.main.body.getD i (.Pass ⟨0,0,0,0⟩)
structure Txt (mg:Str→Option Value):Prop where
 n_all:mg "all" = none
 n_enumerate:mg "enumerate" = none
 n_int:mg "int" = none
 n_len:mg "len" = none
 n_list:mg "list" = none
 n_max:mg "max" = none
 n_min:mg "min" = none
 n_range:mg "range" = none
 n_repr:mg "repr" = none
 n_sorted:mg "sorted" = none
 n_sum:mg "sum" = none
 n_tuple:mg "tuple" = none
section
variable {P:Program} {w:World} {K:PySem.W.Frag} {mg:Str→Option Value} {base:Heap}
noncomputable def YaK:DSt→Dm Fl :=
 (fSeq (fAsg (fOp gAdd (fOp gMul (fC (.int 7901)) (fVar 1)) (fC (.int 24697))) (hName 2))
 (fSeq (fIf (fTest (fOp gLt (fVar 1) (fCB gLen (fCons (fVar 0) fNil)))) (fAsg (fOp gIxL (fVar 0) (fVar 1)) (hName 2)) (fIf (fTest (fOp gGt (fCB gLen (fCons (fVar 0) fNil)) (fC (.int 0)))) (fAsg (fOp gAdd (fOp gMul (fOp gMod (fOp gIxL (fVar 0) (fOp gMod (fVar 1) (fCB gLen (fCons (fVar 0) fNil)))) (fC (.int 2147483629))) (fC (.int 31))) (fOp gMul (fC (.int 7901)) (fVar 1))) (hName 2)) fNext))
 (fSeq (fAsg (fC (.int 0)) (hName 3))
 (fSeq (fIf (fTest (fOp gGe (fVar 2) (fOp gPow (fC (.int 10)) (fC (.int 18))))) (fAsg (fVar 2) (hName 3)) fNext)
 (fRet (fLst (fCons (fVar 3) (fCons (fOp gAdd (fOp gMod (fOp gPow (fOp gAdd (fOp gMul (fOp gMod (fVar 2) (fC (.int 2147483629))) (fC (.int 48271))) (fOp gMul (fC (.int 40692)) (fVar 1))) (fC (.int 5))) (fC (.int 2147483629))) (fC (.int 1))) fNil))))))))
noncomputable def YaD:List D→Dm D:=fnF 4 YaK
noncomputable def xaD:Stmt:=top 13
theorem Xas:FnScope ["_law_script","_law_k","_law_cell","_law_own"] ["_law_script","_law_k"] (defScope xaD):=⟨rfl,rfl,rfl,by decide +kernel,rfl,by decide +kernel,by decide +kernel⟩
theorem xbi {f:Addr} {fd:FuncData} (D:Def K mg "_law_feed" xaD ["_law_script","_law_k"] f fd) (T:Txt mg)  :FnOk P w K mg base CX0 1 f fd ["_law_script","_law_k"] (spF K 2 YaD):=by
 refine D.F.ok Xas (fun vs H Q E h=>h.1) (fun cdv A outer s H vs Q E hr h=>?_)
 have hu:=hr.units
 have hu1:=zaB hr
 refine ⟨_,(@yab _ _ _ _ _ (@Yaf (i:=2) _ _ _ _ _ _ Xas.nd rfl (by first | exact Or.inl rfl | exact Or.inr rfl) (Zah zaw (Zah xaQ Yac (pv 1)) Yac) (by rfl) (by first | exact .inl rfl | exact .inr rfl | assumption))
  (@yab _ _ _ _ _ (@XaG _ _ _ _ _ _ _ _ (Yah op_lt (pv 1) (xaf Yae (by rfl) T.n_len zar (@zaa _ _ _ _ _ (pv 0) xaa (by rfl))) (nomark _)) (@Yad _ _ _ (@Yaf (i:=2) _ _ _ _ _ _ Xas.nd rfl (by first | exact Or.inl rfl | exact Or.inr rfl) (@Zai _ _ _ _ _ _ _ zak (pv 0) (pv 1) (fun _ _=>rfl)) (by rfl) (by first | exact .inl rfl | exact .inr rfl | assumption))) (@Yad _ _ _ (@XaG _ _ _ _ _ _ _ _ (Yah op_gt (xaf Yae (by rfl) T.n_len zar (@zaa _ _ _ _ _ (pv 0) xaa (by rfl))) Yac (nomark _)) (@Yad _ _ _ (@Yaf (i:=2) _ _ _ _ _ _ Xas.nd rfl (by first | exact Or.inl rfl | exact Or.inr rfl) (Zah zaw (Zah xaQ (Zah yaH (@Zai _ _ _ _ _ _ _ zak (pv 0) (Zah yaH (pv 1) (xaf Yae (by rfl) T.n_len zar (@zaa _ _ _ _ _ (pv 0) xaa (by rfl)))) (fun _ _=>rfl)) Yac) Yac) (Zah xaQ Yac (pv 1))) (by rfl) (by first | exact .inl rfl | exact .inr rfl | assumption))) yam)))
  (@yab _ _ _ _ _ (@Yaf (i:=3) _ _ _ _ _ _ Xas.nd rfl (by first | exact Or.inl rfl | exact Or.inr rfl) Yac (by rfl) (by first | exact .inl rfl | exact .inr rfl | assumption))
  (@yab _ _ _ _ _ (@XaG _ _ _ _ _ _ _ _ (Yah op_ge (pv 2) (Zah xb0 Yac Yac) (nomark _)) (@Yad _ _ _ (@Yaf (i:=3) _ _ _ _ _ _ Xas.nd rfl (by first | exact Or.inl rfl | exact Or.inr rfl) (pv 2) (by rfl) (by first | exact .inl rfl | exact .inr rfl | assumption))) yam)
  (@Yad _ _ _ (@yak _ _ _ _ (@Zan _ _ _ _ (@zaa _ _ _ _ _ (pv 3) (@zaa _ _ _ _ _ (Zah zaw (Zah yaH (Zah xb0 (Zah zaw (Zah xaQ (Zah yaH (pv 2) Yac) Yac) (Zah xaQ Yac (pv 1))) Yac) Yac) Yac) xaa (by rfl)) (by rfl))))))))),?_⟩
 exact xaB (b:=YaK) (Zad (zae (Zac yaw (Zac yaR (Xac _) (Zaa 1)) (Xac _)) (zab 2))
  (Zad (xas (Xag (Zac so_lt (Zaa 1) (zag Zar (yaa (Zaa 0) Xaa)))) (zae (Zac Yaq (Zaa 0) (Zaa 1)) (zab 2)) (xas (Xag (Zac so_gt (zag Zar (yaa (Zaa 0) Xaa)) (Xac _))) (zae (Zac yaw (Zac yaR (Zac ZaH (Zac Yaq (Zaa 0) (Zac ZaH (Zaa 1) (zag Zar (yaa (Zaa 0) Xaa)))) (Xac _)) (Xac _)) (Zac yaR (Xac _) (Zaa 1))) (zab 2)) Yam))
  (Zad (zae (Xac _) (zab 3))
  (Zad (xas (Xag (Zac so_ge (Zaa 2) (Zac zb2 (Xac _) (Xac _)))) (zae (Zaa 2) (zab 3)) Yam)
  (Yak (Yan (yaa (Zaa 3) (yaa (Zac yaw (Zac ZaH (Zac zb2 (Zac yaw (Zac yaR (Zac ZaH (Zaa 2) (Xac _)) (Xac _)) (Zac yaR (Xac _) (Zaa 1))) (Xac _)) (Xac _)) (Xac _)) Xaa)))))))) rfl h
noncomputable def xaK:DSt→Dm Fl :=
 (fSeq (fIf (fTest (fOp gGt (fOp gIxL (fVar 0) (fC (.int 0))) (fC (.int 0)))) (fSeq (fAsg (fOp gMod (fOp gIxL (fVar 0) (fC (.int 0))) (fVar 1)) (hName 2))
 (fSeq (fAsg (fOp gFdiv (fOp gIxL (fVar 0) (fC (.int 0))) (fVar 1)) (hSub (fVar 0) (fC (.int 0))))
 (fRet (fVar 2)))) fNext)
 (fSeq (fAsg (fOp gMod (fOp gMul (fOp gIxL (fVar 0) (fC (.int 1))) (fC (.int 48271))) (fC (.int 2147483647))) (hName 3))
 (fSeq (fAsg (fOp gAdd (fOp gMod (fOp gAdd (fOp gMul (fVar 3) (fC (.int 40692))) (fC (.int 30103))) (fC (.int 2147483399))) (fC (.int 1))) (hSub (fVar 0) (fC (.int 1))))
 (fRet (fOp gMod (fOp gFdiv (fOp gAdd (fOp gMul (fVar 3) (fC (.int 2147483647))) (fOp gIxL (fVar 0) (fC (.int 1)))) (fC (.int 8191))) (fVar 1))))))
noncomputable def Xad:List D→Dm D:=fnF 4 xaK
noncomputable def zan:Stmt:=top 14
theorem YaO:FnScope ["_law_feed_here","_law_many","_law_digit","_law_one"] ["_law_feed_here","_law_many"] (defScope zan):=⟨rfl,rfl,rfl,by decide +kernel,rfl,by decide +kernel,by decide +kernel⟩
theorem Xbi {f:Addr} {fd:FuncData} (D:Def K mg "_law_take" zan ["_law_feed_here","_law_many"] f fd) (T:Txt mg)  :FnOk P w K mg base CX0 1 f fd ["_law_feed_here","_law_many"] (spF K 2 Xad):=by
 refine D.F.ok YaO (fun vs H Q E h=>h.1) (fun cdv A outer s H vs Q E hr h=>?_)
 have hu:=hr.units
 have hu1:=zaB hr
 refine ⟨_,(@yab _ _ _ _ _ (@XaG _ _ _ _ _ _ _ _ (Yah op_gt (@Zai _ _ _ _ _ _ _ zak (pv 0) Yac (fun _ _=>rfl)) Yac (nomark _)) (@yab _ _ _ _ _ (@Yaf (i:=2) _ _ _ _ _ _ YaO.nd rfl (by first | exact Or.inl rfl | exact Or.inr rfl) (Zah yaH (@Zai _ _ _ _ _ _ _ zak (pv 0) Yac (fun _ _=>rfl)) (pv 1)) (by rfl) (by first | exact .inl rfl | exact .inr rfl | assumption))
  (@yab _ _ _ _ _ (YaW (Zah Zbl (@Zai _ _ _ _ _ _ _ zak (pv 0) Yac (fun _ _=>rfl)) (pv 1)) (Ybd (pv 0) Yac zaT))
  (@Yad _ _ _ (@yak _ _ _ _ (pv 2))))) yam)
  (@yab _ _ _ _ _ (@Yaf (i:=3) _ _ _ _ _ _ YaO.nd rfl (by first | exact Or.inl rfl | exact Or.inr rfl) (Zah yaH (Zah xaQ (@Zai _ _ _ _ _ _ _ zak (pv 0) Yac (fun _ _=>rfl)) Yac) Yac) (by rfl) (by first | exact .inl rfl | exact .inr rfl | assumption))
  (@yab _ _ _ _ _ (YaW (Zah zaw (Zah yaH (Zah zaw (Zah xaQ (pv 3) Yac) Yac) Yac) Yac) (Ybd (pv 0) Yac zaT))
  (@Yad _ _ _ (@yak _ _ _ _ (Zah yaH (Zah Zbl (Zah zaw (Zah xaQ (pv 3) Yac) (@Zai _ _ _ _ _ _ _ zak (pv 0) Yac (fun _ _=>rfl))) Yac) (pv 1))))))),?_⟩
 exact xaB (b:=xaK) (Zad (xas (Xag (Zac so_gt (Zac Yaq (Zaa 0) (Xac _)) (Xac _))) (Zad (zae (Zac ZaH (Zac Yaq (Zaa 0) (Xac _)) (Zaa 1)) (zab 2))
  (Zad (zae (Zac Zbn (Zac Yaq (Zaa 0) (Xac _)) (Zaa 1)) (za1 (Zaa 0) (Xac _)))
  (Yak (Zaa 2)))) Yam)
  (Zad (zae (Zac ZaH (Zac yaR (Zac Yaq (Zaa 0) (Xac _)) (Xac _)) (Xac _)) (zab 3))
  (Zad (zae (Zac yaw (Zac ZaH (Zac yaw (Zac yaR (Zaa 3) (Xac _)) (Xac _)) (Xac _)) (Xac _)) (za1 (Zaa 0) (Xac _)))
  (Yak (Zac ZaH (Zac Zbn (Zac yaw (Zac yaR (Zaa 3) (Xac _)) (Zac Yaq (Zaa 0) (Xac _))) (Xac _)) (Zaa 1)))))) rfl h
noncomputable def XaK:DSt→Dm Fl :=
 (fRet (fCB gTuple (fCons (fComp (iTupF (fVar 0)) 1 [1] (hName 0) fTrue (fCB gTuple (fCons (fComp (iRng1F (fCons (fCB gLen (fCons (fVar 1) fNil)) fNil)) 1 [0,1] (hName 0) fTrue (fOp gIxT (fVar 2) (fOp gIxT (fVar 1) (fBM "tuple" gIndex (fVar 2) (fCons (fVar 0) fNil))))) fNil))) fNil)))
noncomputable def Xao:List D→Dm D:=fnF 2 XaK
noncomputable def Xaw:Stmt:=top 20
theorem zbj:FnScope ["_law_floor_here","_law_p"] ["_law_floor_here","_law_p"] (defScope Xaw):=⟨rfl,rfl,rfl,by decide +kernel,rfl,by decide +kernel,by decide +kernel⟩
theorem ybj {f:Addr} {fd:FuncData} (D:Def K mg "_law_anew" Xaw ["_law_floor_here","_law_p"] f fd) (T:Txt mg)  :FnOk P w K mg base CX0 1 f fd ["_law_floor_here","_law_p"] (spF K 2 Xao):=by
 refine D.F.ok zbj (fun vs H Q E h=>h.1) (fun cdv A outer s H vs Q E hr h=>?_)
 have hu:=hr.units
 have hu1:=zaB hr
 refine ⟨_,(@Yad _ _ _ (@yak _ _ _ _ (yad xad (by rfl) T.n_tuple zai (@zaa _ _ _ _ _ (xaq (own:=["_law_turning_here"]) (fr:=["_law_p"]) (js:=[1]) rfl ⟨⟨rfl,by decide +kernel,by decide +kernel,by dsimp only [cxOf,cxComp,Cx.nox,Cx.wish,PyProof.Rows.envOfC,compEnvC,relabel,Env.kindOf];decide +kernel,by decide +kernel⟩,rfl⟩ (XaE (pv 0)) (fun _ _ _ _ _=>(xae (i:=0) (show ((["_law_turning_here"]:List Str) ++ (["_law_p"]:List Str)).Nodup by decide +kernel) rfl (by first | exact Or.inl rfl | exact Or.inr rfl))) (fun _ _ _ _ _=>zaF) (fun _ _ _ _ _=>(yad (za3 (K:=K) rfl) (by rfl) T.n_tuple zai (@zaa _ _ _ _ _ (xaq (own:=["_law_s"]) (fr:=["_law_turning_here","_law_p"]) (js:=[0,1]) rfl ⟨Xby ⟨rfl,by decide +kernel,by decide +kernel,by dsimp only [cxOf,Cx.nox,Cx.wish,PyProof.Rows.envOfC];decide +kernel,by decide +kernel⟩,rfl⟩ (Zaj rfl T.n_range (@zaa _ _ _ _ _ (xaf (ya8 (K:=K) rfl) (by rfl) T.n_len zar (@zaa _ _ _ _ _ (pv 1) xaa (by rfl))) xaa (by rfl))) (fun _ _ _ _ _=>(xae (i:=0) (show ((["_law_s"]:List Str) ++ (["_law_turning_here","_law_p"]:List Str)).Nodup by decide +kernel) rfl (by first | exact Or.inl rfl | exact Or.inr rfl))) (fun _ _ _ _ _=>zaF) (fun _ _ _ _ _=>(@Zai _ _ _ _ _ _ _ (Xat (K:=K) rfl) (pv 2) (@Zai _ _ _ _ _ _ _ (Xat (K:=K) rfl) (pv 1) (xbf (K:=K) rfl PySem.F.plainAttrs_tuple PySem.F.slot_tuple_index PySem.F.type_tuple_index (zaN (K:=K) rfl) (pv 2) (@zaa _ _ _ _ _ (pv 0) xaa (by rfl))) (fun _ _=>rfl)) (fun _ _=>rfl)))) xaa (by rfl))))) xaa (by rfl))))),?_⟩
 exact xaB (b:=XaK) (Yak (zag yai (yaa (Xak (yau (Zaa 0)) (zab 0) Zau (zag yai (yaa (Xak (xam (yaa (zag Zar (yaa (Zaa 1) Xaa)) Xaa)) (zab 0) Zau (Zac Yai (Zaa 2) (Zac Yai (Zaa 1) (ZaM ZaU (Zaa 2) (yaa (Zaa 0) Xaa))))) Xaa))) Xaa))) rfl h
noncomputable def Xax:DSt→Dm Fl :=
 (fSeq (fAsg (fCB gListR (fCons (fCB gRange1 (fCons (fVar 1) fNil)) fNil)) (hName 2))
 (fSeq (fAsg (fTup fNil) (hName 3))
 (fSeq (fWhile (fTest (fOp (gEqD true) (fVar 2) (fLst fNil))) (fAsg (fOp gCatT (fVar 3) (fTup (fCons (fBM "list" gPopAt (fVar 2) (fCons (fCB Xad (fCons (fVar 0) (fCons (fCB gLen (fCons (fVar 2) fNil)) fNil))) fNil)) fNil))) (hName 3)))
 (fRet (fVar 3)))))
noncomputable def Zag:List D→Dm D:=fnF 4 Xax
noncomputable def zal:Stmt:=top 15
theorem Xau:FnScope ["_law_feed_here","_law_n","_law_left","_law_found"] ["_law_feed_here","_law_n"] (defScope zal):=⟨rfl,rfl,rfl,by decide +kernel,rfl,by decide +kernel,by decide +kernel⟩
theorem xa1 {f:Addr} {fd:FuncData} (D:Def K mg "_law_turning" zal ["_law_feed_here","_law_n"] f fd) (T:Txt mg)  {f_law_take:Addr} {d_law_take:FuncData} (D_law_take:Def K mg "_law_take" zan ["_law_feed_here","_law_many"] f_law_take d_law_take) (G_law_take:FnOk P w K mg base CX0 1 f_law_take d_law_take ["_law_feed_here","_law_many"] (spF K 2 Xad)):FnOk P w K mg base CX0 2 f fd ["_law_feed_here","_law_n"] (spF K 2 Zag):=by
 refine D.F.ok Xau (fun vs H Q E h=>h.1) (fun cdv A outer s H vs Q E hr h=>?_)
 have hu:=hr.units
 have hu1:=zaB hr
 refine ⟨_,(@yab _ _ _ _ _ (@Yaf (i:=2) _ _ _ _ _ _ Xau.nd rfl (by first | exact Or.inl rfl | exact Or.inr rfl) (yad (xai rfl) (by rfl) T.n_list yas (@zaa _ _ _ _ _ (yad zaS (by rfl) T.n_range yaB (@zaa _ _ _ _ _ (pv 1) xaa (by rfl))) xaa (by rfl))) (by rfl) (by first | exact .inl rfl | exact .inr rfl | assumption))
  (@yab _ _ _ _ _ (@Yaf (i:=3) _ _ _ _ _ _ Xau.nd rfl (by first | exact Or.inl rfl | exact Or.inr rfl) (@xaA _ _ _ _ _ xaa) (by rfl) (by first | exact .inl rfl | exact .inr rfl | assumption))
  (@yab _ _ _ _ _ (yaJ PassesOwn.never (Yah (zbG hu) (pv 2) (@Zan _ _ _ _ xaa) (nomark _)) (@Yad _ _ _ (@Yaf (i:=3) _ _ _ _ _ _ Xau.nd rfl (by first | exact Or.inl rfl | exact Or.inr rfl) (Zah XbT (pv 3) (@xaA _ _ _ _ _ (@zaa _ _ _ _ _ (ZaT PySem.F.plainAttrs_list PySem.F.slot_list_pop PySem.F.type_list_pop zbT (pv 2) (@zaa _ _ _ _ _ (zaf G_law_take (hr.mono (by decide)) rfl D_law_take.m D_law_take.F.kp D_law_take.b .nil pass0 (@zaa _ _ _ _ _ (pv 0) (@zaa _ _ _ _ _ (xaf Yae (by rfl) T.n_len zar (@zaa _ _ _ _ _ (pv 2) xaa (by rfl))) xaa (by rfl)) (by rfl))) xaa (by rfl))) xaa (by rfl)))) (by rfl) (by first | exact .inl rfl | exact .inr rfl | assumption))))
  (@Yad _ _ _ (@yak _ _ _ _ (pv 3)))))),?_⟩
 exact xaB (b:=Xax) (Zad (zae (zag YaB (yaa (zag Xa0 (yaa (Zaa 1) Xaa)) Xaa)) (zab 2))
  (Zad (zae (XaA Xaa) (zab 3))
  (Zad (yaK (Xag (Zac (ya6 true) (Zaa 2) (Yan Xaa))) (zae (Zac Zb9 (Zaa 3) (XaA (yaa (ZaM YbV (Zaa 2) (yaa (yaf (F:=Xad) (yaa (Zaa 0) (yaa (zag Zar (yaa (Zaa 2) Xaa)) Xaa)) (xab (xab (fun _ _ _ _ h=>Zaf h)))) Xaa)) Xaa))) (zab 3)))
  (Yak (Zaa 3))))) rfl h
noncomputable def XaP:DSt→Dm Fl :=
 (fSeq (fAsg (fLst (fCons (fC (.int 0)) fNil)) (hName 1))
 (fSeq (fFor (iRng1F (fCons (fOp gAdd (fC (.int 1)) (fCB gLen (fCons (fOp gIxT (fVar 0) (fC (.int 0))) fNil))) fNil)) (hName 2) (fFor (iTupF (fVar 0)) (hName 3) (fFor (iListF (fCB gList (fCons (fVar 1) fNil))) (hName 4) (fIf (fTest (fOp (gIn true) (fOp gIxT (fVar 3) (fVar 4)) (fVar 1))) (fDrop (fBM "list" gAppend (fVar 1) (fCons (fOp gIxT (fVar 3) (fVar 4)) fNil))) fNext))))
 (fRet (fVar 1))))
noncomputable def zat:List D→Dm D:=fnF 5 XaP
noncomputable def yaI:Stmt:=top 16
theorem XaD:FnScope ["_law_floor_here","_law_found","_law_turn","_law_turning_here","_law_one"] ["_law_floor_here"] (defScope yaI):=⟨rfl,rfl,rfl,by decide +kernel,rfl,by decide +kernel,by decide +kernel⟩
theorem Ybo {f:Addr} {fd:FuncData} (D:Def K mg "_law_met" yaI ["_law_floor_here"] f fd) (T:Txt mg)  :FnOk P w K mg base CX0 1 f fd ["_law_floor_here"] (spF K 1 zat):=by
 refine D.F.ok XaD (fun vs H Q E h=>h.1) (fun cdv A outer s H vs Q E hr h=>?_)
 have hu:=hr.units
 have hu1:=zaB hr
 refine ⟨_,(@yab _ _ _ _ _ (@Yaf (i:=1) _ _ _ _ _ _ XaD.nd rfl (by first | exact Or.inl rfl | exact Or.inr rfl) (@Zan _ _ _ _ (@zaa _ _ _ _ _ Yac xaa (by rfl))) (by rfl) (by first | exact .inl rfl | exact .inr rfl | assumption))
  (@yab _ _ _ _ _ (@zaH _ _ _ _ _ _ _ _ PassesOwn.never rfl (Zaj rfl T.n_range (@zaa _ _ _ _ _ (Zah zaw Yac (xaf Yae (by rfl) T.n_len zar (@zaa _ _ _ _ _ (@Zai _ _ _ _ _ _ _ Zas (pv 0) Yac (fun _ _=>rfl)) xaa (by rfl)))) xaa (by rfl))) (xae (i:=2) XaD.nd rfl (by first | exact Or.inl rfl | exact Or.inr rfl)) (@Yad _ _ _ (@zaH _ _ _ _ _ _ _ _ PassesOwn.never rfl (XaE (pv 0)) (xae (i:=3) XaD.nd rfl (by first | exact Or.inl rfl | exact Or.inr rfl)) (@Yad _ _ _ (@zaH _ _ _ _ _ _ _ _ PassesOwn.never rfl (xa6 (yad Zay (by rfl) T.n_list yas (@zaa _ _ _ _ _ (pv 1) xaa (by rfl)))) (xae (i:=4) XaD.nd rfl (by first | exact Or.inl rfl | exact Or.inr rfl)) (@Yad _ _ _ (@XaG _ _ _ _ _ _ _ _ (Yah xaM (@Zai _ _ _ _ _ _ _ Zas (pv 3) (pv 4) (fun _ _=>rfl)) (pv 1) (by with_unfolding_all rfl)) (@Yad _ _ _ (Xaz (ZaT PySem.F.plainAttrs_list PySem.F.slot_list_append PySem.F.type_list_append Xaq (pv 1) (@zaa _ _ _ _ _ (@Zai _ _ _ _ _ _ _ Zas (pv 3) (pv 4) (fun _ _=>rfl)) xaa (by rfl))))) yam)) (by intro _;rfl))) (by intro _;rfl))) (by intro _;rfl))
  (@Yad _ _ _ (@yak _ _ _ _ (pv 1))))),?_⟩
 exact xaB (b:=XaP) (Zad (zae (Yan (yaa (Xac _) Xaa)) (zab 1))
  (Zad (xaH (xam (yaa (Zac yaw (Xac _) (zag Zar (yaa (Zac Yai (Zaa 0) (Xac _)) Xaa))) Xaa)) (zab 2) (xaH (yau (Zaa 0)) (zab 3) (xaH (xaX (zag xa0 (yaa (Zaa 1) Xaa))) (zab 4) (xas (Xag (Zac (XbK true) (Zac Yai (Zaa 3) (Zaa 4)) (Zaa 1))) (yaA (ZaM Yar (Zaa 1) (yaa (Zac Yai (Zaa 3) (Zaa 4)) Xaa))) Yam))))
  (Yak (Zaa 1)))) rfl h
noncomputable def yaF:DSt→Dm Fl :=
 (fSeq (fAsg (fCB Xad (fCons (fVar 0) (fCons (fC (.int 6)) fNil))) (hName 2))
 (fSeq (fPar 3 4 (fCons (fCB gList (fCons (fCB Zag (fCons (fVar 0) (fCons (fVar 1) fNil))) fNil)) (fCons (fCB gList (fCons (fCB Zag (fCons (fVar 0) (fCons (fVar 1) fNil))) fNil)) fNil)))
 (fSeq (fIf (fTest (fOp (gEq false) (fVar 2) (fC (.int 0)))) (fAsg (fOp gCat (fCB gListR (fCons (fCB gRange2 (fCons (fC (.int 1)) (fCons (fVar 1) fNil))) fNil)) (fLst (fCons (fC (.int 0)) fNil))) (hName 3)) fNext)
 (fSeq (fIf (fTest (fOp (gEq false) (fVar 2) (fC (.int 1)))) (fPar 3 4 (fCons (fCB gListR (fCons (fCB gRange1 (fCons (fVar 1) fNil)) fNil)) (fCons (fOp gCat (fCB gListR (fCons (fCB gRange2 (fCons (fC (.int 1)) (fCons (fVar 1) fNil))) fNil)) (fLst (fCons (fC (.int 0)) fNil))) fNil))) fNext)
 (fSeq (fIf (fTest (fOp (gEq false) (fVar 2) (fC (.int 2)))) (fSeq (fAsg (fOp gAdd (fC (.int 1)) (fCB Xad (fCons (fVar 0) (fCons (fVar 1) fNil)))) (hName 5))
 (fSeq (fAsg (fOp gCat (fOp gCat (fCB gListR (fCons (fCB gRange2 (fCons (fC (.int 1)) (fCons (fVar 5) fNil))) fNil)) (fLst (fCons (fC (.int 0)) fNil))) (fCB gListR (fCons (fCB gRange2 (fCons (fVar 5) (fCons (fVar 1) fNil))) fNil))) (hName 3))
 (fSeq (fAsg (fSl gSlL (fOp gCat (fOp gCat (fOp gCat (fLst (fCons (fVar 5) fNil)) (fCB gListR (fCons (fCB gRange2 (fCons (fC (.int 1)) (fCons (fVar 5) fNil))) fNil))) (fCB gListR (fCons (fCB gRange2 (fCons (fOp gAdd (fVar 5) (fC (.int 1))) (fCons (fVar 1) fNil))) fNil))) (fLst (fCons (fC (.int 0)) fNil))) fNoPart (fPart (fVar 1))) (hName 4))
 (fIf (fTest (fOp (gEq false) (fVar 5) (fVar 1))) (fAsg (fCB gListR (fCons (fCB gRange1 (fCons (fVar 1) fNil)) fNil)) (hName 4)) fNext)))) fNext)
 (fSeq (fAsg (fTup (fCons (fCB gTuple (fCons (fVar 3) fNil)) (fCons (fCB gTuple (fCons (fVar 4) fNil)) fNil))) (hName 6))
 (fSeq (fAsg (fComp (iRng1F (fCons (fVar 1) fNil)) 1 [6] (hName 0) (fTest (fOp (gIn true) (fVar 0) (fCB zat (fCons (fVar 1) fNil)))) (fVar 0)) (hName 7))
 (fSeq (fWhile (fTest (fOp (gEqD true) (fVar 7) (fLst fNil))) (fSeq (fAsg (fOp gIxL (fVar 7) (fC (.int 0))) (hName 8))
 (fSeq (fAsg (fTup (fCons (fOp gIxL (fVar 3) (fVar 8)) (fCons (fOp gIxL (fVar 3) (fC (.int 0))) fNil))) (hTup 2 (hCons (hSub (fVar 3) (fC (.int 0))) (hCons (hSub (fVar 3) (fVar 8)) hNil))))
 (fSeq (fAsg (fTup (fCons (fCB gTuple (fCons (fVar 3) fNil)) (fCons (fCB gTuple (fCons (fVar 4) fNil)) fNil))) (hName 6))
 (fAsg (fComp (iRng1F (fCons (fVar 1) fNil)) 1 [6] (hName 0) (fTest (fOp (gIn true) (fVar 0) (fCB zat (fCons (fVar 1) fNil)))) (fVar 0)) (hName 7))))))
 (fRet (fVar 6))))))))))
noncomputable def Yay:List D→Dm D:=fnF 9 yaF
noncomputable def xay:Stmt:=top 17
theorem Yag:FnScope ["_law_feed_here","_law_n","_law_form","_law_right_here","_law_up","_law_wide","_law_found","_law_apart","_law_m"] ["_law_feed_here","_law_n"] (defScope xay):=⟨rfl,rfl,rfl,by decide +kernel,rfl,by decide +kernel,by decide +kernel⟩
theorem Xbb {f:Addr} {fd:FuncData} (D:Def K mg "_law_floor" xay ["_law_feed_here","_law_n"] f fd) (T:Txt mg)  {f_law_take:Addr} {d_law_take:FuncData} (D_law_take:Def K mg "_law_take" zan ["_law_feed_here","_law_many"] f_law_take d_law_take) (G_law_take:FnOk P w K mg base CX0 1 f_law_take d_law_take ["_law_feed_here","_law_many"] (spF K 2 Xad)) {f_law_turning:Addr} {d_law_turning:FuncData} (D_law_turning:Def K mg "_law_turning" zal ["_law_feed_here","_law_n"] f_law_turning d_law_turning) (G_law_turning:FnOk P w K mg base CX0 2 f_law_turning d_law_turning ["_law_feed_here","_law_n"] (spF K 2 Zag)) {f_law_met:Addr} {d_law_met:FuncData} (D_law_met:Def K mg "_law_met" yaI ["_law_floor_here"] f_law_met d_law_met) (G_law_met:FnOk P w K mg base CX0 1 f_law_met d_law_met ["_law_floor_here"] (spF K 1 zat)):FnOk P w K mg base CX0 3 f fd ["_law_feed_here","_law_n"] (spF K 2 Yay):=by
 refine D.F.ok Yag (fun vs H Q E h=>h.1) (fun cdv A outer s H vs Q E hr h=>?_)
 have hu:=hr.units
 have hu1:=zaB hr
 refine ⟨_,(@yab _ _ _ _ _ (@Yaf (i:=2) _ _ _ _ _ _ Yag.nd rfl (by first | exact Or.inl rfl | exact Or.inr rfl) (zaf G_law_take (hr.mono (by decide)) rfl D_law_take.m D_law_take.F.kp D_law_take.b .nil pass0 (@zaa _ _ _ _ _ (pv 0) (@zaa _ _ _ _ _ Yac xaa (by rfl)) (by rfl))) (by rfl) (by first | exact .inl rfl | exact .inr rfl | assumption))
  (@yab _ _ _ _ _ (YbC (i:=3) (j:=4) rfl Yag.nd rfl rfl (by decide) rfl rfl (@zaa _ _ _ _ _ (yad Zay (by rfl) T.n_list yas (@zaa _ _ _ _ _ (zaf G_law_turning (hr.mono (by decide)) rfl D_law_turning.m D_law_turning.F.kp D_law_turning.b .nil pass0 (@zaa _ _ _ _ _ (pv 0) (@zaa _ _ _ _ _ (pv 1) xaa (by rfl)) (by rfl))) xaa (by rfl))) (@zaa _ _ _ _ _ (yad Zay (by rfl) T.n_list yas (@zaa _ _ _ _ _ (zaf G_law_turning (hr.mono (by decide)) rfl D_law_turning.m D_law_turning.F.kp D_law_turning.b .nil pass0 (@zaa _ _ _ _ _ (pv 0) (@zaa _ _ _ _ _ (pv 1) xaa (by rfl)) (by rfl))) xaa (by rfl))) xaa (by rfl)) (by rfl)) rfl)
  (@yab _ _ _ _ _ (@XaG _ _ _ _ _ _ _ _ (Yah Xa6 (pv 2) Yac (nomark _)) (@Yad _ _ _ (@Yaf (i:=3) _ _ _ _ _ _ Yag.nd rfl (by first | exact Or.inl rfl | exact Or.inr rfl) (Zah zaR (yad (xai rfl) (by rfl) T.n_list yas (@zaa _ _ _ _ _ (yad Zaw (by rfl) T.n_range yaB (@zaa _ _ _ _ _ Yac (@zaa _ _ _ _ _ (pv 1) xaa (by rfl)) (by rfl))) xaa (by rfl))) (@Zan _ _ _ _ (@zaa _ _ _ _ _ Yac xaa (by rfl)))) (by rfl) (by first | exact .inl rfl | exact .inr rfl | assumption))) yam)
  (@yab _ _ _ _ _ (@XaG _ _ _ _ _ _ _ _ (Yah Xa6 (pv 2) Yac (nomark _)) (@Yad _ _ _ (YbC (i:=3) (j:=4) rfl Yag.nd rfl rfl (by decide) rfl rfl (@zaa _ _ _ _ _ (yad (xai rfl) (by rfl) T.n_list yas (@zaa _ _ _ _ _ (yad zaS (by rfl) T.n_range yaB (@zaa _ _ _ _ _ (pv 1) xaa (by rfl))) xaa (by rfl))) (@zaa _ _ _ _ _ (Zah zaR (yad (xai rfl) (by rfl) T.n_list yas (@zaa _ _ _ _ _ (yad Zaw (by rfl) T.n_range yaB (@zaa _ _ _ _ _ Yac (@zaa _ _ _ _ _ (pv 1) xaa (by rfl)) (by rfl))) xaa (by rfl))) (@Zan _ _ _ _ (@zaa _ _ _ _ _ Yac xaa (by rfl)))) xaa (by rfl)) (by rfl)) rfl)) yam)
  (@yab _ _ _ _ _ (@XaG _ _ _ _ _ _ _ _ (Yah Xa6 (pv 2) Yac (nomark _)) (@yab _ _ _ _ _ (@Yaf (i:=5) _ _ _ _ _ _ Yag.nd rfl (by first | exact Or.inl rfl | exact Or.inr rfl) (Zah zaw Yac (zaf G_law_take (hr.mono (by decide)) rfl D_law_take.m D_law_take.F.kp D_law_take.b .nil pass0 (@zaa _ _ _ _ _ (pv 0) (@zaa _ _ _ _ _ (pv 1) xaa (by rfl)) (by rfl)))) (by rfl) (by first | exact .inl rfl | exact .inr rfl | assumption))
  (@yab _ _ _ _ _ (@Yaf (i:=3) _ _ _ _ _ _ Yag.nd rfl (by first | exact Or.inl rfl | exact Or.inr rfl) (Zah zaR (Zah zaR (yad (xai rfl) (by rfl) T.n_list yas (@zaa _ _ _ _ _ (yad Zaw (by rfl) T.n_range yaB (@zaa _ _ _ _ _ Yac (@zaa _ _ _ _ _ (pv 5) xaa (by rfl)) (by rfl))) xaa (by rfl))) (@Zan _ _ _ _ (@zaa _ _ _ _ _ Yac xaa (by rfl)))) (yad (xai rfl) (by rfl) T.n_list yas (@zaa _ _ _ _ _ (yad Zaw (by rfl) T.n_range yaB (@zaa _ _ _ _ _ (pv 5) (@zaa _ _ _ _ _ (pv 1) xaa (by rfl)) (by rfl))) xaa (by rfl)))) (by rfl) (by first | exact .inl rfl | exact .inr rfl | assumption))
  (@yab _ _ _ _ _ (@Yaf (i:=4) _ _ _ _ _ _ Yag.nd rfl (by first | exact Or.inl rfl | exact Or.inr rfl) (ybq xb4 (Zah zaR (Zah zaR (Zah zaR (@Zan _ _ _ _ (@zaa _ _ _ _ _ (pv 5) xaa (by rfl))) (yad (xai rfl) (by rfl) T.n_list yas (@zaa _ _ _ _ _ (yad Zaw (by rfl) T.n_range yaB (@zaa _ _ _ _ _ Yac (@zaa _ _ _ _ _ (pv 5) xaa (by rfl)) (by rfl))) xaa (by rfl)))) (yad (xai rfl) (by rfl) T.n_list yas (@zaa _ _ _ _ _ (yad Zaw (by rfl) T.n_range yaB (@zaa _ _ _ _ _ (Zah zaw (pv 5) Yac) (@zaa _ _ _ _ _ (pv 1) xaa (by rfl)) (by rfl))) xaa (by rfl)))) (@Zan _ _ _ _ (@zaa _ _ _ _ _ Yac xaa (by rfl)))) ZbE (YbE (pv 1))) (by rfl) (by first | exact .inl rfl | exact .inr rfl | assumption))
  (@Yad _ _ _ (@XaG _ _ _ _ _ _ _ _ (Yah Xa6 (pv 5) (pv 1) (nomark _)) (@Yad _ _ _ (@Yaf (i:=4) _ _ _ _ _ _ Yag.nd rfl (by first | exact Or.inl rfl | exact Or.inr rfl) (yad (xai rfl) (by rfl) T.n_list yas (@zaa _ _ _ _ _ (yad zaS (by rfl) T.n_range yaB (@zaa _ _ _ _ _ (pv 1) xaa (by rfl))) xaa (by rfl))) (by rfl) (by first | exact .inl rfl | exact .inr rfl | assumption))) yam))))) yam)
  (@yab _ _ _ _ _ (@Yaf (i:=6) _ _ _ _ _ _ Yag.nd rfl (by first | exact Or.inl rfl | exact Or.inr rfl) (@xaA _ _ _ _ _ (@zaa _ _ _ _ _ (yad xad (by rfl) T.n_tuple zai (@zaa _ _ _ _ _ (pv 3) xaa (by rfl))) (@zaa _ _ _ _ _ (yad xad (by rfl) T.n_tuple zai (@zaa _ _ _ _ _ (pv 4) xaa (by rfl))) xaa (by rfl)) (by rfl))) (by rfl) (by first | exact .inl rfl | exact .inr rfl | assumption))
  (@yab _ _ _ _ _ (yaZ (i:=7) (own:=["_law_s"]) (fr:=["_law_found"]) (js:=[6]) rfl Yag.nd rfl rfl ⟨⟨rfl,by decide +kernel,by decide +kernel,by dsimp only [cxOf,cxComp,Cx.nox,Cx.wish,PyProof.Rows.envOfC,compEnvC,relabel,Env.kindOf];decide +kernel,by decide +kernel⟩,rfl⟩ (Zaj rfl T.n_range (@zaa _ _ _ _ _ (pv 1) xaa (by rfl))) (fun _ _ _ _ _=>(xae (i:=0) (show ((["_law_s"]:List Str) ++ (["_law_found"]:List Str)).Nodup by decide +kernel) rfl (by first | exact Or.inl rfl | exact Or.inr rfl))) (fun _ _ _ _ _=>(zaZ (Yah (YaT (K:=K) rfl) (pv 0) (zaf G_law_met (hr.mono (by decide)) rfl D_law_met.m D_law_met.F.kp D_law_met.b .nil pass0 (@zaa _ _ _ _ _ (pv 1) xaa (by rfl))) (by with_unfolding_all rfl)))) (fun _ _ _ _ _=>(pv 0)))
  (@yab _ _ _ _ _ (yaJ PassesOwn.never (Yah (zbG hu) (pv 7) (@Zan _ _ _ _ xaa) (nomark _)) (@yab _ _ _ _ _ (@Yaf (i:=8) _ _ _ _ _ _ Yag.nd rfl (by first | exact Or.inl rfl | exact Or.inr rfl) (@Zai _ _ _ _ _ _ _ zak (pv 7) Yac (fun _ _=>rfl)) (by rfl) (by first | exact .inl rfl | exact .inr rfl | assumption))
  (@yab _ _ _ _ _ (YaW (@xaA _ _ _ _ _ (@zaa _ _ _ _ _ (@Zai _ _ _ _ _ _ _ zak (pv 3) (pv 8) (fun _ _=>rfl)) (@zaa _ _ _ _ _ (@Zai _ _ _ _ _ _ _ zak (pv 3) Yac (fun _ _=>rfl)) xaa (by rfl)) (by rfl))) (ZaW (n:=2) rfl (Yaj (Ybd (pv 3) Yac zaT) (Yaj (Ybd (pv 3) (pv 8) zaT) YaM))))
  (@yab _ _ _ _ _ (@Yaf (i:=6) _ _ _ _ _ _ Yag.nd rfl (by first | exact Or.inl rfl | exact Or.inr rfl) (@xaA _ _ _ _ _ (@zaa _ _ _ _ _ (yad xad (by rfl) T.n_tuple zai (@zaa _ _ _ _ _ (pv 3) xaa (by rfl))) (@zaa _ _ _ _ _ (yad xad (by rfl) T.n_tuple zai (@zaa _ _ _ _ _ (pv 4) xaa (by rfl))) xaa (by rfl)) (by rfl))) (by rfl) (by first | exact .inl rfl | exact .inr rfl | assumption))
  (@Yad _ _ _ (yaZ (i:=7) (own:=["_law_s"]) (fr:=["_law_found"]) (js:=[6]) rfl Yag.nd rfl rfl ⟨⟨rfl,by decide +kernel,by decide +kernel,by dsimp only [cxOf,cxComp,Cx.nox,Cx.wish,PyProof.Rows.envOfC,compEnvC,relabel,Env.kindOf];decide +kernel,by decide +kernel⟩,rfl⟩ (Zaj rfl T.n_range (@zaa _ _ _ _ _ (pv 1) xaa (by rfl))) (fun _ _ _ _ _=>(xae (i:=0) (show ((["_law_s"]:List Str) ++ (["_law_found"]:List Str)).Nodup by decide +kernel) rfl (by first | exact Or.inl rfl | exact Or.inr rfl))) (fun _ _ _ _ _=>(zaZ (Yah (YaT (K:=K) rfl) (pv 0) (zaf G_law_met (hr.mono (by decide)) rfl D_law_met.m D_law_met.F.kp D_law_met.b .nil pass0 (@zaa _ _ _ _ _ (pv 1) xaa (by rfl))) (by with_unfolding_all rfl)))) (fun _ _ _ _ _=>(pv 0))))))))
  (@Yad _ _ _ (@yak _ _ _ _ (pv 6))))))))))),?_⟩
 exact xaB (b:=yaF) (Zad (zae (yaf (F:=Xad) (yaa (Zaa 0) (yaa (Xac _) Xaa)) (xab (xab (fun _ _ _ _ h=>Zaf h)))) (zab 2))
  (Zad (YbL (yaa (zag xa0 (yaa (yaf (F:=Zag) (yaa (Zaa 0) (yaa (Zaa 1) Xaa)) (xab (xab (fun _ _ _ _ h=>Zaf h)))) Xaa)) (yaa (zag xa0 (yaa (yaf (F:=Zag) (yaa (Zaa 0) (yaa (Zaa 1) Xaa)) (xab (xab (fun _ _ _ _ h=>Zaf h)))) Xaa)) Xaa)))
  (Zad (xas (Xag (Zac xa9 (Zaa 2) (Xac _))) (zae (Zac ZaR (zag YaB (yaa (zag YaH (yaa (Xac _) (yaa (Zaa 1) Xaa))) Xaa)) (Yan (yaa (Xac _) Xaa))) (zab 3)) Yam)
  (Zad (xas (Xag (Zac xa9 (Zaa 2) (Xac _))) (YbL (yaa (zag YaB (yaa (zag Xa0 (yaa (Zaa 1) Xaa)) Xaa)) (yaa (Zac ZaR (zag YaB (yaa (zag YaH (yaa (Xac _) (yaa (Zaa 1) Xaa))) Xaa)) (Yan (yaa (Xac _) Xaa))) Xaa))) Yam)
  (Zad (xas (Xag (Zac xa9 (Zaa 2) (Xac _))) (Zad (zae (Zac yaw (Xac _) (yaf (F:=Xad) (yaa (Zaa 0) (yaa (Zaa 1) Xaa)) (xab (xab (fun _ _ _ _ h=>Zaf h))))) (zab 5))
  (Zad (zae (Zac ZaR (Zac ZaR (zag YaB (yaa (zag YaH (yaa (Xac _) (yaa (Zaa 5) Xaa))) Xaa)) (Yan (yaa (Xac _) Xaa))) (zag YaB (yaa (zag YaH (yaa (Zaa 5) (yaa (Zaa 1) Xaa))) Xaa))) (zab 3))
  (Zad (zae (so_sl so_slL (Zac ZaR (Zac ZaR (Zac ZaR (Yan (yaa (Zaa 5) Xaa)) (zag YaB (yaa (zag YaH (yaa (Xac _) (yaa (Zaa 5) Xaa))) Xaa))) (zag YaB (yaa (zag YaH (yaa (Zac yaw (Zaa 5) (Xac _)) (yaa (Zaa 1) Xaa))) Xaa))) (Yan (yaa (Xac _) Xaa))) zbi (ZbK (Zaa 1))) (zab 4))
  (xas (Xag (Zac xa9 (Zaa 5) (Zaa 1))) (zae (zag YaB (yaa (zag Xa0 (yaa (Zaa 1) Xaa)) Xaa)) (zab 4)) Yam)))) Yam)
  (Zad (zae (XaA (yaa (zag yai (yaa (Zaa 3) Xaa)) (yaa (zag yai (yaa (Zaa 4) Xaa)) Xaa))) (zab 6))
  (Zad (zae (Xak (xam (yaa (Zaa 1) Xaa)) (zab 0) (Xag (Zac (XbK true) (Zaa 0) (yaf (F:=zat) (yaa (Zaa 1) Xaa) (xab (fun _ _ _ _ h=>Zaf h))))) (Zaa 0)) (zab 7))
  (Zad (yaK (Xag (Zac (ya6 true) (Zaa 7) (Yan Xaa))) (Zad (zae (Zac Yaq (Zaa 7) (Xac _)) (zab 8))
  (Zad (zae (XaA (yaa (Zac Yaq (Zaa 3) (Zaa 8)) (yaa (Zac Yaq (Zaa 3) (Xac _)) Xaa))) (zaO (xaj (za1 (Zaa 3) (Xac _)) (xaj (za1 (Zaa 3) (Zaa 8)) XaN))))
  (Zad (zae (XaA (yaa (zag yai (yaa (Zaa 3) Xaa)) (yaa (zag yai (yaa (Zaa 4) Xaa)) Xaa))) (zab 6))
  (zae (Xak (xam (yaa (Zaa 1) Xaa)) (zab 0) (Xag (Zac (XbK true) (Zaa 0) (yaf (F:=zat) (yaa (Zaa 1) Xaa) (xab (fun _ _ _ _ h=>Zaf h))))) (Zaa 0)) (zab 7))))))
  (Yak (Zaa 6)))))))))) rfl h
noncomputable def ZaF:DSt→Dm Fl :=
 (fSeq (fAsg (fOp gAdd (fC (.int 1)) (fCB Xad (fCons (fVar 0) (fCons (fVar 1) fNil)))) (hName 2))
 (fRet (fCB Xao (fCons (fCB Yay (fCons (fVar 0) (fCons (fVar 2) fNil))) (fCons (fCB Zag (fCons (fVar 0) (fCons (fVar 2) fNil))) fNil)))))
noncomputable def Xay:List D→Dm D:=fnF 3 ZaF
noncomputable def zaz:Stmt:=top 21
theorem zaV:FnScope ["_law_feed_here","_law_most","_law_n"] ["_law_feed_here","_law_most"] (defScope zaz):=⟨rfl,rfl,rfl,by decide +kernel,rfl,by decide +kernel,by decide +kernel⟩
theorem zbc {f:Addr} {fd:FuncData} (D:Def K mg "_law_drawn" zaz ["_law_feed_here","_law_most"] f fd) (T:Txt mg)  {f_law_anew:Addr} {d_law_anew:FuncData} (D_law_anew:Def K mg "_law_anew" Xaw ["_law_floor_here","_law_p"] f_law_anew d_law_anew) (G_law_anew:FnOk P w K mg base CX0 1 f_law_anew d_law_anew ["_law_floor_here","_law_p"] (spF K 2 Xao)) {f_law_take:Addr} {d_law_take:FuncData} (D_law_take:Def K mg "_law_take" zan ["_law_feed_here","_law_many"] f_law_take d_law_take) (G_law_take:FnOk P w K mg base CX0 1 f_law_take d_law_take ["_law_feed_here","_law_many"] (spF K 2 Xad)) {f_law_floor:Addr} {d_law_floor:FuncData} (D_law_floor:Def K mg "_law_floor" xay ["_law_feed_here","_law_n"] f_law_floor d_law_floor) (G_law_floor:FnOk P w K mg base CX0 3 f_law_floor d_law_floor ["_law_feed_here","_law_n"] (spF K 2 Yay)) {f_law_turning:Addr} {d_law_turning:FuncData} (D_law_turning:Def K mg "_law_turning" zal ["_law_feed_here","_law_n"] f_law_turning d_law_turning) (G_law_turning:FnOk P w K mg base CX0 2 f_law_turning d_law_turning ["_law_feed_here","_law_n"] (spF K 2 Zag)):FnOk P w K mg base CX0 4 f fd ["_law_feed_here","_law_most"] (spF K 2 Xay):=by
 refine D.F.ok zaV (fun vs H Q E h=>h.1) (fun cdv A outer s H vs Q E hr h=>?_)
 have hu:=hr.units
 have hu1:=zaB hr
 refine ⟨_,(@yab _ _ _ _ _ (@Yaf (i:=2) _ _ _ _ _ _ zaV.nd rfl (by first | exact Or.inl rfl | exact Or.inr rfl) (Zah zaw Yac (zaf G_law_take (hr.mono (by decide)) rfl D_law_take.m D_law_take.F.kp D_law_take.b .nil pass0 (@zaa _ _ _ _ _ (pv 0) (@zaa _ _ _ _ _ (pv 1) xaa (by rfl)) (by rfl)))) (by rfl) (by first | exact .inl rfl | exact .inr rfl | assumption))
  (@Yad _ _ _ (@yak _ _ _ _ (zaf G_law_anew (hr.mono (by decide)) rfl D_law_anew.m D_law_anew.F.kp D_law_anew.b .nil pass0 (@zaa _ _ _ _ _ (zaf G_law_floor (hr.mono (by decide)) rfl D_law_floor.m D_law_floor.F.kp D_law_floor.b .nil pass0 (@zaa _ _ _ _ _ (pv 0) (@zaa _ _ _ _ _ (pv 2) xaa (by rfl)) (by rfl))) (@zaa _ _ _ _ _ (zaf G_law_turning (hr.mono (by decide)) rfl D_law_turning.m D_law_turning.F.kp D_law_turning.b .nil pass0 (@zaa _ _ _ _ _ (pv 0) (@zaa _ _ _ _ _ (pv 2) xaa (by rfl)) (by rfl))) xaa (by rfl)) (by rfl)))))),?_⟩
 exact xaB (b:=ZaF) (Zad (zae (Zac yaw (Xac _) (yaf (F:=Xad) (yaa (Zaa 0) (yaa (Zaa 1) Xaa)) (xab (xab (fun _ _ _ _ h=>Zaf h))))) (zab 2))
  (Yak (yaf (F:=Xao) (yaa (yaf (F:=Yay) (yaa (Zaa 0) (yaa (Zaa 2) Xaa)) (xab (xab (fun _ _ _ _ h=>Zaf h)))) (yaa (yaf (F:=Zag) (yaa (Zaa 0) (yaa (Zaa 2) Xaa)) (xab (xab (fun _ _ _ _ h=>Zaf h)))) Xaa)) (xab (xab (fun _ _ _ _ h=>Zaf h)))))) rfl h
noncomputable def zaL:DSt→Dm Fl :=
 (fSeq (fAsg (fOp gAdd (fC (.int 1)) (fCB Xad (fCons (fVar 0) (fCons (fC (.int 8)) fNil)))) (hName 1))
 (fSeq (fAsg (fOp gMul (fVar 1) (fOp gAdd (fC (.int 1)) (fCB Xad (fCons (fVar 0) (fCons (fOp gFdiv (fC (.int 8)) (fVar 1)) fNil))))) (hName 2))
 (fSeq (fAsg (fCB Xad (fCons (fVar 0) (fCons (fVar 1) fNil))) (hName 3))
 (fSeq (fAsg (fComp (iRng1F (fCons (fVar 2) fNil)) 1 [1] (hName 0) fTrue (fOp gAdd (fOp gSub (fVar 0) (fOp gMod (fVar 0) (fVar 1))) (fOp gMod (fOp gAdd (fVar 0) (fC (.int 1))) (fVar 1)))) (hName 4))
 (fSeq (fAsg (fOp gCat (fComp (iRng1F (fCons (fOp gSub (fVar 2) (fVar 1)) fNil)) 1 [1] (hName 0) fTrue (fOp gAdd (fVar 0) (fVar 1))) (fComp (iRng1F (fCons (fVar 1) fNil)) 1 [1,3] (hName 0) fTrue (fOp gMod (fOp gAdd (fVar 0) (fVar 2)) (fVar 1)))) (hName 5))
 (fRet (fCB Xao (fCons (fTup (fCons (fCB gTuple (fCons (fVar 4) fNil)) (fCons (fCB gTuple (fCons (fVar 5) fNil)) fNil))) (fCons (fCB Zag (fCons (fVar 0) (fCons (fVar 2) fNil))) fNil)))))))))
noncomputable def zaE:List D→Dm D:=fnF 6 zaL
noncomputable def yaE:Stmt:=top 25
theorem yat:FnScope ["_law_feed_here","_law_wide","_law_n","_law_on","_law_right_here","_law_up"] ["_law_feed_here"] (defScope yaE):=⟨rfl,rfl,rfl,by decide +kernel,rfl,by decide +kernel,by decide +kernel⟩
theorem Zbj {f:Addr} {fd:FuncData} (D:Def K mg "_law_band" yaE ["_law_feed_here"] f fd) (T:Txt mg)  {f_law_take:Addr} {d_law_take:FuncData} (D_law_take:Def K mg "_law_take" zan ["_law_feed_here","_law_many"] f_law_take d_law_take) (G_law_take:FnOk P w K mg base CX0 1 f_law_take d_law_take ["_law_feed_here","_law_many"] (spF K 2 Xad)) {f_law_anew:Addr} {d_law_anew:FuncData} (D_law_anew:Def K mg "_law_anew" Xaw ["_law_floor_here","_law_p"] f_law_anew d_law_anew) (G_law_anew:FnOk P w K mg base CX0 1 f_law_anew d_law_anew ["_law_floor_here","_law_p"] (spF K 2 Xao)) {f_law_turning:Addr} {d_law_turning:FuncData} (D_law_turning:Def K mg "_law_turning" zal ["_law_feed_here","_law_n"] f_law_turning d_law_turning) (G_law_turning:FnOk P w K mg base CX0 2 f_law_turning d_law_turning ["_law_feed_here","_law_n"] (spF K 2 Zag)):FnOk P w K mg base CX0 3 f fd ["_law_feed_here"] (spF K 1 zaE):=by
 refine D.F.ok yat (fun vs H Q E h=>h.1) (fun cdv A outer s H vs Q E hr h=>?_)
 have hu:=hr.units
 have hu1:=zaB hr
 refine ⟨_,(@yab _ _ _ _ _ (@Yaf (i:=1) _ _ _ _ _ _ yat.nd rfl (by first | exact Or.inl rfl | exact Or.inr rfl) (Zah zaw Yac (zaf G_law_take (hr.mono (by decide)) rfl D_law_take.m D_law_take.F.kp D_law_take.b .nil pass0 (@zaa _ _ _ _ _ (pv 0) (@zaa _ _ _ _ _ Yac xaa (by rfl)) (by rfl)))) (by rfl) (by first | exact .inl rfl | exact .inr rfl | assumption))
  (@yab _ _ _ _ _ (@Yaf (i:=2) _ _ _ _ _ _ yat.nd rfl (by first | exact Or.inl rfl | exact Or.inr rfl) (Zah xaQ (pv 1) (Zah zaw Yac (zaf G_law_take (hr.mono (by decide)) rfl D_law_take.m D_law_take.F.kp D_law_take.b .nil pass0 (@zaa _ _ _ _ _ (pv 0) (@zaa _ _ _ _ _ (Zah Zbl Yac (pv 1)) xaa (by rfl)) (by rfl))))) (by rfl) (by first | exact .inl rfl | exact .inr rfl | assumption))
  (@yab _ _ _ _ _ (@Yaf (i:=3) _ _ _ _ _ _ yat.nd rfl (by first | exact Or.inl rfl | exact Or.inr rfl) (zaf G_law_take (hr.mono (by decide)) rfl D_law_take.m D_law_take.F.kp D_law_take.b .nil pass0 (@zaa _ _ _ _ _ (pv 0) (@zaa _ _ _ _ _ (pv 1) xaa (by rfl)) (by rfl))) (by rfl) (by first | exact .inl rfl | exact .inr rfl | assumption))
  (@yab _ _ _ _ _ (yaZ (i:=4) (own:=["_law_s"]) (fr:=["_law_wide"]) (js:=[1]) rfl yat.nd rfl rfl ⟨⟨rfl,by decide +kernel,by decide +kernel,by dsimp only [cxOf,cxComp,Cx.nox,Cx.wish,PyProof.Rows.envOfC,compEnvC,relabel,Env.kindOf];decide +kernel,by decide +kernel⟩,rfl⟩ (Zaj rfl T.n_range (@zaa _ _ _ _ _ (pv 2) xaa (by rfl))) (fun _ _ _ _ _=>(xae (i:=0) (show ((["_law_s"]:List Str) ++ (["_law_wide"]:List Str)).Nodup by decide +kernel) rfl (by first | exact Or.inl rfl | exact Or.inr rfl))) (fun _ _ _ _ _=>zaF) (fun _ _ _ _ _=>(Zah zaw (Zah Xbp (pv 0) (Zah yaH (pv 0) (pv 1))) (Zah yaH (Zah zaw (pv 0) Yac) (pv 1)))))
  (@yab _ _ _ _ _ (@Yaf (i:=5) _ _ _ _ _ _ yat.nd rfl (by first | exact Or.inl rfl | exact Or.inr rfl) (Zah zaR (xaq (own:=["_law_s"]) (fr:=["_law_wide"]) (js:=[1]) rfl ⟨⟨rfl,by decide +kernel,by decide +kernel,by dsimp only [cxOf,cxComp,Cx.nox,Cx.wish,PyProof.Rows.envOfC,compEnvC,relabel,Env.kindOf];decide +kernel,by decide +kernel⟩,rfl⟩ (Zaj rfl T.n_range (@zaa _ _ _ _ _ (Zah Xbp (pv 2) (pv 1)) xaa (by rfl))) (fun _ _ _ _ _=>(xae (i:=0) (show ((["_law_s"]:List Str) ++ (["_law_wide"]:List Str)).Nodup by decide +kernel) rfl (by first | exact Or.inl rfl | exact Or.inr rfl))) (fun _ _ _ _ _=>zaF) (fun _ _ _ _ _=>(Zah zaw (pv 0) (pv 1)))) (xaq (own:=["_law_s"]) (fr:=["_law_wide","_law_on"]) (js:=[1,3]) rfl ⟨⟨rfl,by decide +kernel,by decide +kernel,by dsimp only [cxOf,cxComp,Cx.nox,Cx.wish,PyProof.Rows.envOfC,compEnvC,relabel,Env.kindOf];decide +kernel,by decide +kernel⟩,rfl⟩ (Zaj rfl T.n_range (@zaa _ _ _ _ _ (pv 1) xaa (by rfl))) (fun _ _ _ _ _=>(xae (i:=0) (show ((["_law_s"]:List Str) ++ (["_law_wide","_law_on"]:List Str)).Nodup by decide +kernel) rfl (by first | exact Or.inl rfl | exact Or.inr rfl))) (fun _ _ _ _ _=>zaF) (fun _ _ _ _ _=>(Zah yaH (Zah zaw (pv 0) (pv 2)) (pv 1))))) (by rfl) (by first | exact .inl rfl | exact .inr rfl | assumption))
  (@Yad _ _ _ (@yak _ _ _ _ (zaf G_law_anew (hr.mono (by decide)) rfl D_law_anew.m D_law_anew.F.kp D_law_anew.b .nil pass0 (@zaa _ _ _ _ _ (@xaA _ _ _ _ _ (@zaa _ _ _ _ _ (yad xad (by rfl) T.n_tuple zai (@zaa _ _ _ _ _ (pv 4) xaa (by rfl))) (@zaa _ _ _ _ _ (yad xad (by rfl) T.n_tuple zai (@zaa _ _ _ _ _ (pv 5) xaa (by rfl))) xaa (by rfl)) (by rfl))) (@zaa _ _ _ _ _ (zaf G_law_turning (hr.mono (by decide)) rfl D_law_turning.m D_law_turning.F.kp D_law_turning.b .nil pass0 (@zaa _ _ _ _ _ (pv 0) (@zaa _ _ _ _ _ (pv 2) xaa (by rfl)) (by rfl))) xaa (by rfl)) (by rfl)))))))))),?_⟩
 exact xaB (b:=zaL) (Zad (zae (Zac yaw (Xac _) (yaf (F:=Xad) (yaa (Zaa 0) (yaa (Xac _) Xaa)) (xab (xab (fun _ _ _ _ h=>Zaf h))))) (zab 1))
  (Zad (zae (Zac yaR (Zaa 1) (Zac yaw (Xac _) (yaf (F:=Xad) (yaa (Zaa 0) (yaa (Zac Zbn (Xac _) (Zaa 1)) Xaa)) (xab (xab (fun _ _ _ _ h=>Zaf h)))))) (zab 2))
  (Zad (zae (yaf (F:=Xad) (yaa (Zaa 0) (yaa (Zaa 1) Xaa)) (xab (xab (fun _ _ _ _ h=>Zaf h)))) (zab 3))
  (Zad (zae (Xak (xam (yaa (Zaa 2) Xaa)) (zab 0) Zau (Zac yaw (Zac Zbs (Zaa 0) (Zac ZaH (Zaa 0) (Zaa 1))) (Zac ZaH (Zac yaw (Zaa 0) (Xac _)) (Zaa 1)))) (zab 4))
  (Zad (zae (Zac ZaR (Xak (xam (yaa (Zac Zbs (Zaa 2) (Zaa 1)) Xaa)) (zab 0) Zau (Zac yaw (Zaa 0) (Zaa 1))) (Xak (xam (yaa (Zaa 1) Xaa)) (zab 0) Zau (Zac ZaH (Zac yaw (Zaa 0) (Zaa 2)) (Zaa 1)))) (zab 5))
  (Yak (yaf (F:=Xao) (yaa (XaA (yaa (zag yai (yaa (Zaa 4) Xaa)) (yaa (zag yai (yaa (Zaa 5) Xaa)) Xaa))) (yaa (yaf (F:=Zag) (yaa (Zaa 0) (yaa (Zaa 2) Xaa)) (xab (xab (fun _ _ _ _ h=>Zaf h)))) Xaa)) (xab (xab (fun _ _ _ _ h=>Zaf h)))))))))) rfl h
noncomputable def XaB:DSt→Dm Fl :=
 (fSeq (fIf (fTest (fOp gLt (fVar 2) (fC (.int 0)))) (fSeq (fAsg (fCB gTuple (fCons (fComp (iRng1F (fCons (fCB gLen (fCons (fVar 0) fNil)) fNil)) 1 [0] (hName 0) fTrue (fBM "tuple" gIndex (fVar 1) (fCons (fVar 0) fNil))) fNil)) (hName 0))
 (fAsg (fOp gSub (fC (.int 0)) (fVar 2)) (hName 2))) fNext)
 (fSeq (fAsg (fLst (fCons (fVar 1) fNil)) (hName 3))
 (fSeq (fWhile (fTest (fOp (gEq true) (fOp gIxT (fVar 0) (fOp gIxL (fVar 3) (fUn gNeg (fC (.int 1))))) (fVar 1))) (fDrop (fBM "list" gAppend (fVar 3) (fCons (fOp gIxT (fVar 0) (fOp gIxL (fVar 3) (fUn gNeg (fC (.int 1))))) fNil))))
 (fRet (fOp gIxL (fVar 3) (fOp gMod (fVar 2) (fCB gLen (fCons (fVar 3) fNil))))))))
noncomputable def zav:List D→Dm D:=fnF 4 XaB
noncomputable def yav:Stmt:=top 18
theorem zay:FnScope ["_law_turning_here","_law_s","_law_k","_law_ring"] ["_law_turning_here","_law_s","_law_k"] (defScope yav):=⟨rfl,rfl,rfl,by decide +kernel,rfl,by decide +kernel,by decide +kernel⟩
theorem Ya3 {f:Addr} {fd:FuncData} (D:Def K mg "_law_behind" yav ["_law_turning_here","_law_s","_law_k"] f fd) (T:Txt mg)  :FnOk P w K mg base CX0 1 f fd ["_law_turning_here","_law_s","_law_k"] (spF K 3 zav):=by
 refine D.F.ok zay (fun vs H Q E h=>h.1) (fun cdv A outer s H vs Q E hr h=>?_)
 have hu:=hr.units
 have hu1:=zaB hr
 refine ⟨_,(@yab _ _ _ _ _ (@XaG _ _ _ _ _ _ _ _ (Yah op_lt (pv 2) Yac (nomark _)) (@yab _ _ _ _ _ (@Yaf (i:=0) _ _ _ _ _ _ zay.nd rfl (by first | exact Or.inl rfl | exact Or.inr rfl) (yad xad (by rfl) T.n_tuple zai (@zaa _ _ _ _ _ (xaq (own:=["_law_one"]) (fr:=["_law_turning_here"]) (js:=[0]) rfl ⟨⟨rfl,by decide +kernel,by decide +kernel,by dsimp only [cxOf,cxComp,Cx.nox,Cx.wish,PyProof.Rows.envOfC,compEnvC,relabel,Env.kindOf];decide +kernel,by decide +kernel⟩,rfl⟩ (Zaj rfl T.n_range (@zaa _ _ _ _ _ (xaf Yae (by rfl) T.n_len zar (@zaa _ _ _ _ _ (pv 0) xaa (by rfl))) xaa (by rfl))) (fun _ _ _ _ _=>(xae (i:=0) (show ((["_law_one"]:List Str) ++ (["_law_turning_here"]:List Str)).Nodup by decide +kernel) rfl (by first | exact Or.inl rfl | exact Or.inr rfl))) (fun _ _ _ _ _=>zaF) (fun _ _ _ _ _=>(xbf (K:=K) rfl PySem.F.plainAttrs_tuple PySem.F.slot_tuple_index PySem.F.type_tuple_index (zaN (K:=K) rfl) (pv 1) (@zaa _ _ _ _ _ (pv 0) xaa (by rfl))))) xaa (by rfl))) (by rfl) (by first | exact .inl rfl | exact .inr rfl | assumption))
  (@Yad _ _ _ (@Yaf (i:=2) _ _ _ _ _ _ zay.nd rfl (by first | exact Or.inl rfl | exact Or.inr rfl) (Zah Xbp Yac (pv 2)) (by rfl) (by first | exact .inl rfl | exact .inr rfl | assumption)))) yam)
  (@yab _ _ _ _ _ (@Yaf (i:=3) _ _ _ _ _ _ zay.nd rfl (by first | exact Or.inl rfl | exact Or.inr rfl) (@Zan _ _ _ _ (@zaa _ _ _ _ _ (pv 1) xaa (by rfl))) (by rfl) (by first | exact .inl rfl | exact .inr rfl | assumption))
  (@yab _ _ _ _ _ (yaJ PassesOwn.never (Yah zbw (@Zai _ _ _ _ _ _ _ Zas (pv 0) (@Zai _ _ _ _ _ _ _ zak (pv 3) (Xa2 XaQ Yac) (fun _ _=>rfl)) (fun _ _=>rfl)) (pv 1) (nomark _)) (@Yad _ _ _ (Xaz (ZaT PySem.F.plainAttrs_list PySem.F.slot_list_append PySem.F.type_list_append Xaq (pv 3) (@zaa _ _ _ _ _ (@Zai _ _ _ _ _ _ _ Zas (pv 0) (@Zai _ _ _ _ _ _ _ zak (pv 3) (Xa2 XaQ Yac) (fun _ _=>rfl)) (fun _ _=>rfl)) xaa (by rfl))))))
  (@Yad _ _ _ (@yak _ _ _ _ (@Zai _ _ _ _ _ _ _ zak (pv 3) (Zah yaH (pv 2) (xaf Yae (by rfl) T.n_len zar (@zaa _ _ _ _ _ (pv 3) xaa (by rfl)))) (fun _ _=>rfl))))))),?_⟩
 exact xaB (b:=XaB) (Zad (xas (Xag (Zac so_lt (Zaa 2) (Xac _))) (Zad (zae (zag yai (yaa (Xak (xam (yaa (zag Zar (yaa (Zaa 0) Xaa)) Xaa)) (zab 0) Zau (ZaM ZaU (Zaa 1) (yaa (Zaa 0) Xaa))) Xaa)) (zab 0))
  (zae (Zac Zbs (Xac _) (Zaa 2)) (zab 2))) Yam)
  (Zad (zae (Yan (yaa (Zaa 1) Xaa)) (zab 3))
  (Zad (yaK (Xag (Zac xby (Zac Yai (Zaa 0) (Zac Yaq (Zaa 3) (ya3 yaU (Xac _)))) (Zaa 1))) (yaA (ZaM Yar (Zaa 3) (yaa (Zac Yai (Zaa 0) (Zac Yaq (Zaa 3) (ya3 yaU (Xac _)))) Xaa))))
  (Yak (Zac Yaq (Zaa 3) (Zac ZaH (Zaa 2) (zag Zar (yaa (Zaa 3) Xaa)))))))) rfl h
noncomputable def xan:DSt→Dm Fl :=
 (fSeq (fAsg (fVar 0) (hTup 2 (hCons (hName 2) (hCons (hName 3) hNil))))
 (fSeq (fIf (fTest (fOp (gEq false) (fOp gIxT (fVar 1) (fC (.int 0))) (fC (.str "s")))) (fRet (fTup (fCons (fVar 2) (fCons (fCB gTuple (fCons (fComp (iRng1F (fCons (fCB gLen (fCons (fVar 3) fNil)) fNil)) 1 [1,2,3] (hName 0) fTrue (fOp gIxT (fVar 3) (fCB zav (fCons (fVar 2) (fCons (fVar 0) (fCons (fOp gSub (fC (.int 0)) (fOp gIxT (fVar 1) (fC (.int 1)))) fNil)))))) fNil)) fNil)))) fNext)
 (fSeq (fFor (iRng1F (fCons (fOp gMod (fOp gIxT (fVar 1) (fC (.int 1))) (fC (.int 4))) fNil)) (hName 4) (fAsg (fTup (fCons (fCB gTuple (fCons (fComp (iRng1F (fCons (fCB gLen (fCons (fVar 3) fNil)) fNil)) 1 [3] (hName 0) fTrue (fBM "tuple" gIndex (fVar 1) (fCons (fVar 0) fNil))) fNil)) (fCons (fVar 2) fNil))) (hTup 2 (hCons (hName 2) (hCons (hName 3) hNil)))))
 (fRet (fTup (fCons (fVar 2) (fCons (fVar 3) fNil)))))))
noncomputable def yal:List D→Dm D:=fnF 5 xan
noncomputable def xar:Stmt:=top 19
theorem Yal:FnScope ["_law_floor_here","_law_step","_law_right_here","_law_up","_law_turn"] ["_law_floor_here","_law_step"] (defScope xar):=⟨rfl,rfl,rfl,by decide +kernel,rfl,by decide +kernel,by decide +kernel⟩
theorem Xa1 {f:Addr} {fd:FuncData} (D:Def K mg "_law_stepped" xar ["_law_floor_here","_law_step"] f fd) (T:Txt mg)  {f_law_behind:Addr} {d_law_behind:FuncData} (D_law_behind:Def K mg "_law_behind" yav ["_law_turning_here","_law_s","_law_k"] f_law_behind d_law_behind) (G_law_behind:FnOk P w K mg base CX0 1 f_law_behind d_law_behind ["_law_turning_here","_law_s","_law_k"] (spF K 3 zav)):FnOk P w K mg base CX0 2 f fd ["_law_floor_here","_law_step"] (spF K 2 yal):=by
 refine D.F.ok Yal (fun vs H Q E h=>h.1) (fun cdv A outer s H vs Q E hr h=>?_)
 have hu:=hr.units
 have hu1:=zaB hr
 refine ⟨_,(@yab _ _ _ _ _ (YaW (pv 0) (ZaW (n:=2) rfl (Yaj (xae (i:=2) Yal.nd rfl (by first | exact Or.inl rfl | exact Or.inr rfl)) (Yaj (xae (i:=3) Yal.nd rfl (by first | exact Or.inl rfl | exact Or.inr rfl)) YaM))))
  (@yab _ _ _ _ _ (@XaG _ _ _ _ _ _ _ _ (Yah Xa6 (@Zai _ _ _ _ _ _ _ Zas (pv 1) Yac (fun _ _=>rfl)) ybd (nomark _)) (@Yad _ _ _ (@yak _ _ _ _ (@xaA _ _ _ _ _ (@zaa _ _ _ _ _ (pv 2) (@zaa _ _ _ _ _ (yad xad (by rfl) T.n_tuple zai (@zaa _ _ _ _ _ (xaq (own:=["_law_s"]) (fr:=["_law_step","_law_right_here","_law_up"]) (js:=[1,2,3]) rfl ⟨⟨rfl,by decide +kernel,by decide +kernel,by dsimp only [cxOf,cxComp,Cx.nox,Cx.wish,PyProof.Rows.envOfC,compEnvC,relabel,Env.kindOf];decide +kernel,by decide +kernel⟩,rfl⟩ (Zaj rfl T.n_range (@zaa _ _ _ _ _ (xaf Yae (by rfl) T.n_len zar (@zaa _ _ _ _ _ (pv 3) xaa (by rfl))) xaa (by rfl))) (fun _ _ _ _ _=>(xae (i:=0) (show ((["_law_s"]:List Str) ++ (["_law_step","_law_right_here","_law_up"]:List Str)).Nodup by decide +kernel) rfl (by first | exact Or.inl rfl | exact Or.inr rfl))) (fun _ _ _ _ _=>zaF) (fun _ _ _ _ _=>(@Zai _ _ _ _ _ _ _ (Xat (K:=K) rfl) (pv 3) (zaf G_law_behind (hr.mono (by decide)) rfl D_law_behind.m D_law_behind.F.kp D_law_behind.b .nil pass0 (@zaa _ _ _ _ _ (pv 2) (@zaa _ _ _ _ _ (pv 0) (@zaa _ _ _ _ _ (Zah Xbp Yac (@Zai _ _ _ _ _ _ _ (Xat (K:=K) rfl) (pv 1) Yac (fun _ _=>rfl))) xaa (by rfl)) (by rfl)) (by rfl))) (fun _ _=>rfl)))) xaa (by rfl))) xaa (by rfl)) (by rfl))))) yam)
  (@yab _ _ _ _ _ (@zaH _ _ _ _ _ _ _ _ PassesOwn.never rfl (Zaj rfl T.n_range (@zaa _ _ _ _ _ (Zah yaH (@Zai _ _ _ _ _ _ _ Zas (pv 1) Yac (fun _ _=>rfl)) Yac) xaa (by rfl))) (xae (i:=4) Yal.nd rfl (by first | exact Or.inl rfl | exact Or.inr rfl)) (@Yad _ _ _ (YaW (@xaA _ _ _ _ _ (@zaa _ _ _ _ _ (yad xad (by rfl) T.n_tuple zai (@zaa _ _ _ _ _ (xaq (own:=["_law_s"]) (fr:=["_law_up"]) (js:=[3]) rfl ⟨⟨rfl,by decide +kernel,by decide +kernel,by dsimp only [cxOf,cxComp,Cx.nox,Cx.wish,PyProof.Rows.envOfC,compEnvC,relabel,Env.kindOf];decide +kernel,by decide +kernel⟩,rfl⟩ (Zaj rfl T.n_range (@zaa _ _ _ _ _ (xaf Yae (by rfl) T.n_len zar (@zaa _ _ _ _ _ (pv 3) xaa (by rfl))) xaa (by rfl))) (fun _ _ _ _ _=>(xae (i:=0) (show ((["_law_s"]:List Str) ++ (["_law_up"]:List Str)).Nodup by decide +kernel) rfl (by first | exact Or.inl rfl | exact Or.inr rfl))) (fun _ _ _ _ _=>zaF) (fun _ _ _ _ _=>(xbf (K:=K) rfl PySem.F.plainAttrs_tuple PySem.F.slot_tuple_index PySem.F.type_tuple_index (zaN (K:=K) rfl) (pv 1) (@zaa _ _ _ _ _ (pv 0) xaa (by rfl))))) xaa (by rfl))) (@zaa _ _ _ _ _ (pv 2) xaa (by rfl)) (by rfl))) (ZaW (n:=2) rfl (Yaj (xae (i:=2) Yal.nd rfl (by first | exact Or.inl rfl | exact Or.inr rfl)) (Yaj (xae (i:=3) Yal.nd rfl (by first | exact Or.inl rfl | exact Or.inr rfl)) YaM))))) (by intro _;rfl))
  (@Yad _ _ _ (@yak _ _ _ _ (@xaA _ _ _ _ _ (@zaa _ _ _ _ _ (pv 2) (@zaa _ _ _ _ _ (pv 3) xaa (by rfl)) (by rfl)))))))),?_⟩
 exact xaB (b:=xan) (Zad (zae (Zaa 0) (zaO (xaj (zab 2) (xaj (zab 3) XaN))))
  (Zad (xas (Xag (Zac xa9 (Zac Yai (Zaa 1) (Xac _)) (Xbh _))) (Yak (XaA (yaa (Zaa 2) (yaa (zag yai (yaa (Xak (xam (yaa (zag Zar (yaa (Zaa 3) Xaa)) Xaa)) (zab 0) Zau (Zac Yai (Zaa 3) (yaf (F:=zav) (yaa (Zaa 2) (yaa (Zaa 0) (yaa (Zac Zbs (Xac _) (Zac Yai (Zaa 1) (Xac _))) Xaa))) (xab (xab (xab (fun _ _ _ _ h=>Zaf h))))))) Xaa)) Xaa)))) Yam)
  (Zad (xaH (xam (yaa (Zac ZaH (Zac Yai (Zaa 1) (Xac _)) (Xac _)) Xaa)) (zab 4) (zae (XaA (yaa (zag yai (yaa (Xak (xam (yaa (zag Zar (yaa (Zaa 3) Xaa)) Xaa)) (zab 0) Zau (ZaM ZaU (Zaa 1) (yaa (Zaa 0) Xaa))) Xaa)) (yaa (Zaa 2) Xaa))) (zaO (xaj (zab 2) (xaj (zab 3) XaN)))))
  (Yak (XaA (yaa (Zaa 2) (yaa (Zaa 3) Xaa))))))) rfl h
noncomputable def yaL:DSt→Dm Fl :=
 (fSeq (fAsg (fLst (fCons (fVar 1) fNil)) (hName 2))
 (fSeq (fAsg (fOp gIxT (fVar 0) (fVar 1)) (hName 3))
 (fSeq (fWhile (fTest (fOp (gEq true) (fVar 3) (fVar 1))) (fSeq (fDrop (fBM "list" gAppend (fVar 2) (fCons (fVar 3) fNil)))
 (fAsg (fOp gIxT (fVar 0) (fVar 3)) (hName 3))))
 (fRet (fCB gTuple (fCons (fVar 2) fNil))))))
noncomputable def zap:List D→Dm D:=fnF 4 yaL
noncomputable def zax:Stmt:=top 3
theorem YaF:FnScope ["turning","first","ring","reached"] ["turning","first"] (defScope zax):=⟨rfl,rfl,rfl,by decide +kernel,rfl,by decide +kernel,by decide +kernel⟩
theorem Ybj {f:Addr} {fd:FuncData} (D:Def K mg "ring_from" zax ["turning","first"] f fd) (T:Txt mg)  :FnOk P w K mg base CX0 1 f fd ["turning","first"] (spF K 2 zap):=by
 refine D.F.ok YaF (fun vs H Q E h=>h.1) (fun cdv A outer s H vs Q E hr h=>?_)
 have hu:=hr.units
 have hu1:=zaB hr
 refine ⟨_,(@yab _ _ _ _ _ (@Yaf (i:=2) _ _ _ _ _ _ YaF.nd rfl (by first | exact Or.inl rfl | exact Or.inr rfl) (@Zan _ _ _ _ (@zaa _ _ _ _ _ (pv 1) xaa (by rfl))) (by rfl) (by first | exact .inl rfl | exact .inr rfl | assumption))
  (@yab _ _ _ _ _ (@Yaf (i:=3) _ _ _ _ _ _ YaF.nd rfl (by first | exact Or.inl rfl | exact Or.inr rfl) (@Zai _ _ _ _ _ _ _ Zas (pv 0) (pv 1) (fun _ _=>rfl)) (by rfl) (by first | exact .inl rfl | exact .inr rfl | assumption))
  (@yab _ _ _ _ _ (yaJ PassesOwn.never (Yah zbw (pv 3) (pv 1) (nomark _)) (@yab _ _ _ _ _ (Xaz (ZaT PySem.F.plainAttrs_list PySem.F.slot_list_append PySem.F.type_list_append Xaq (pv 2) (@zaa _ _ _ _ _ (pv 3) xaa (by rfl))))
  (@Yad _ _ _ (@Yaf (i:=3) _ _ _ _ _ _ YaF.nd rfl (by first | exact Or.inl rfl | exact Or.inr rfl) (@Zai _ _ _ _ _ _ _ Zas (pv 0) (pv 3) (fun _ _=>rfl)) (by rfl) (by first | exact .inl rfl | exact .inr rfl | assumption)))))
  (@Yad _ _ _ (@yak _ _ _ _ (yad xad (by rfl) T.n_tuple zai (@zaa _ _ _ _ _ (pv 2) xaa (by rfl)))))))),?_⟩
 exact xaB (b:=yaL) (Zad (zae (Yan (yaa (Zaa 1) Xaa)) (zab 2))
  (Zad (zae (Zac Yai (Zaa 0) (Zaa 1)) (zab 3))
  (Zad (yaK (Xag (Zac xby (Zaa 3) (Zaa 1))) (Zad (yaA (ZaM Yar (Zaa 2) (yaa (Zaa 3) Xaa)))
  (zae (Zac Yai (Zaa 0) (Zaa 3)) (zab 3))))
  (Yak (zag yai (yaa (Zaa 2) Xaa)))))) rfl h
noncomputable def zaQ:DSt→Dm Fl :=
 (fSeq (fAsg (fLst fNil) (hName 1))
 (fSeq (fAsg fDNew (hName 2))
 (fSeq (fFor (iRng1F (fCons (fCB gLen (fCons (fVar 0) fNil)) fNil)) (hName 3) (fIf (fTest (fDIn true (fVar 3) (fVar 2))) (fSeq (fAsg (fCB zap (fCons (fVar 0) (fCons (fVar 3) fNil))) (hName 4))
 (fSeq (fDrop (fBM "list" gAppend (fVar 1) (fCons (fVar 4) fNil)))
 (fFor (iTupF (fVar 4)) (hName 5) (fDPut (fVar 2) (fVar 5) (fC (.bl true)))))) fNext))
 (fRet (fCB gTuple (fCons (fVar 1) fNil))))))
noncomputable def ZaI:List D→Dm D:=fnF 6 zaQ
noncomputable def YaI:Stmt:=top 4
theorem yax:FnScope ["turning","rings","seen","first","ring","number"] ["turning"] (defScope YaI):=⟨rfl,rfl,rfl,by decide +kernel,rfl,by decide +kernel,by decide +kernel⟩
theorem xbo {f:Addr} {fd:FuncData} (D:Def K mg "rings_of" YaI ["turning"] f fd) (T:Txt mg)  {fring_from:Addr} {dring_from:FuncData} (Dring_from:Def K mg "ring_from" zax ["turning","first"] fring_from dring_from) (Gring_from:FnOk P w K mg base CX0 1 fring_from dring_from ["turning","first"] (spF K 2 zap)):FnOk P w K mg base CX0 2 f fd ["turning"] (spF K 1 ZaI):=by
 refine D.F.ok yax (fun vs H Q E h=>h.1) (fun cdv A outer s H vs Q E hr h=>?_)
 have hu:=hr.units
 have hu1:=zaB hr
 refine ⟨_,(@yab _ _ _ _ _ (@Yaf (i:=1) _ _ _ _ _ _ yax.nd rfl (by first | exact Or.inl rfl | exact Or.inr rfl) (@Zan _ _ _ _ xaa) (by rfl) (by first | exact .inl rfl | exact .inr rfl | assumption))
  (@yab _ _ _ _ _ (@Yaf (i:=2) _ _ _ _ _ _ yax.nd rfl (by first | exact Or.inl rfl | exact Or.inr rfl) ZbT (by rfl) (by first | exact .inl rfl | exact .inr rfl | assumption))
  (@yab _ _ _ _ _ (@zaH _ _ _ _ _ _ _ _ PassesOwn.never rfl (Zaj rfl T.n_range (@zaa _ _ _ _ _ (xaf Yae (by rfl) T.n_len zar (@zaa _ _ _ _ _ (pv 0) xaa (by rfl))) xaa (by rfl))) (xae (i:=3) yax.nd rfl (by first | exact Or.inl rfl | exact Or.inr rfl)) (@Yad _ _ _ (@XaG _ _ _ _ _ _ _ _ (Yb0 (ZbF hu1 (pv 3) (pv 2))) (@yab _ _ _ _ _ (@Yaf (i:=4) _ _ _ _ _ _ yax.nd rfl (by first | exact Or.inl rfl | exact Or.inr rfl) (zaf Gring_from (hr.mono (by decide)) rfl Dring_from.m Dring_from.F.kp Dring_from.b .nil pass0 (@zaa _ _ _ _ _ (pv 0) (@zaa _ _ _ _ _ (pv 3) xaa (by rfl)) (by rfl))) (by rfl) (by first | exact .inl rfl | exact .inr rfl | assumption))
  (@yab _ _ _ _ _ (Xaz (ZaT PySem.F.plainAttrs_list PySem.F.slot_list_append PySem.F.type_list_append Xaq (pv 1) (@zaa _ _ _ _ _ (pv 4) xaa (by rfl))))
  (@Yad _ _ _ (@zaH _ _ _ _ _ _ _ _ PassesOwn.never rfl (XaE (pv 4)) (xae (i:=5) yax.nd rfl (by first | exact Or.inl rfl | exact Or.inr rfl)) (@Yad _ _ _ (Yb5 hu1 (pv 2) (pv 5) ybC rfl)) (by intro _;rfl))))) yam)) (by intro _;rfl))
  (@Yad _ _ _ (@yak _ _ _ _ (yad xad (by rfl) T.n_tuple zai (@zaa _ _ _ _ _ (pv 1) xaa (by rfl)))))))),?_⟩
 exact xaB (b:=zaQ) (Zad (zae (Yan Xaa) (zab 1))
  (Zad (zae Xcb (zab 2))
  (Zad (xaH (xam (yaa (zag Zar (yaa (Zaa 0) Xaa)) Xaa)) (zab 3) (xas (ybK (YbM (Zaa 3) (Zaa 2))) (Zad (zae (yaf (F:=zap) (yaa (Zaa 0) (yaa (Zaa 3) Xaa)) (xab (xab (fun _ _ _ _ h=>Zaf h)))) (zab 4))
  (Zad (yaA (ZaM Yar (Zaa 1) (yaa (Zaa 4) Xaa)))
  (xaH (yau (Zaa 4)) (zab 5) (zcc (Zaa 2) (Zaa 5) (zbK _))))) Yam))
  (Yak (zag yai (yaa (Zaa 1) Xaa)))))) rfl h
noncomputable def ZaL:DSt→Dm Fl :=
 (fRet (fCB zap (fCons (fOp gIxT (fVar 0) (fC (.int 0))) (fCons (fCB gMinD (fCons (fComp (iTupF (fVar 1)) 1 [0] (hName 0) fTrue (fOp gIxT (fOp gIxT (fVar 1) (fC (.int 1))) (fVar 0))) fNil)) fNil))))
noncomputable def yap:List D→Dm D:=fnF 2 ZaL
noncomputable def Zax:Stmt:=top 9
theorem xbj:FnScope ["floor","row"] ["floor","row"] (defScope Zax):=⟨rfl,rfl,rfl,by decide +kernel,rfl,by decide +kernel,by decide +kernel⟩
theorem Xbj {f:Addr} {fd:FuncData} (D:Def K mg "upper_row" Zax ["floor","row"] f fd) (T:Txt mg)  {fring_from:Addr} {dring_from:FuncData} (Dring_from:Def K mg "ring_from" zax ["turning","first"] fring_from dring_from) (Gring_from:FnOk P w K mg base CX0 1 fring_from dring_from ["turning","first"] (spF K 2 zap)):FnOk P w K mg base CX0 2 f fd ["floor","row"] (spF K 2 yap):=by
 refine D.F.ok xbj (fun vs H Q E h=>h.1) (fun cdv A outer s H vs Q E hr h=>?_)
 have hu:=hr.units
 have hu1:=zaB hr
 refine ⟨_,(@Yad _ _ _ (@yak _ _ _ _ (zaf Gring_from (hr.mono (by decide)) rfl Dring_from.m Dring_from.F.kp Dring_from.b .nil pass0 (@zaa _ _ _ _ _ (@Zai _ _ _ _ _ _ _ Zas (pv 0) Yac (fun _ _=>rfl)) (@zaa _ _ _ _ _ (xaf (ZbH rfl hu) (by rfl) T.n_min Zb1 (@zaa _ _ _ _ _ (xaq (own:=["s"]) (fr:=["floor"]) (js:=[0]) rfl ⟨⟨rfl,by decide +kernel,by decide +kernel,by dsimp only [cxOf,cxComp,Cx.nox,Cx.wish,PyProof.Rows.envOfC,compEnvC,relabel,Env.kindOf];decide +kernel,by decide +kernel⟩,rfl⟩ (XaE (pv 1)) (fun _ _ _ _ _=>(xae (i:=0) (show ((["s"]:List Str) ++ (["floor"]:List Str)).Nodup by decide +kernel) rfl (by first | exact Or.inl rfl | exact Or.inr rfl))) (fun _ _ _ _ _=>zaF) (fun _ _ _ _ _=>(@Zai _ _ _ _ _ _ _ (Xat (K:=K) rfl) (@Zai _ _ _ _ _ _ _ (Xat (K:=K) rfl) (pv 1) Yac (fun _ _=>rfl)) (pv 0) (fun _ _=>rfl)))) xaa (by rfl))) xaa (by rfl)) (by rfl))))),?_⟩
 exact xaB (b:=ZaL) (Yak (yaf (F:=zap) (yaa (Zac Yai (Zaa 0) (Xac _)) (yaa (zag xce (yaa (Xak (yau (Zaa 1)) (zab 0) Zau (Zac Yai (Zac Yai (Zaa 1) (Xac _)) (Zaa 0))) Xaa)) Xaa)) (xab (xab (fun _ _ _ _ h=>Zaf h))))) rfl h
noncomputable def yaQ:DSt→Dm Fl :=
 (fRet (fCB gTuple (fCons (fComp (iTupF (fVar 0)) 1 [1] (hName 0) fTrue (fOp gIxT (fVar 1) (fVar 0))) fNil)))
noncomputable def yaq:List D→Dm D:=fnF 2 yaQ
noncomputable def xaI:Stmt:=top 1
theorem Xbo:FnScope ["one","other"] ["one","other"] (defScope xaI):=⟨rfl,rfl,rfl,by decide +kernel,rfl,by decide +kernel,by decide +kernel⟩
theorem zbp {f:Addr} {fd:FuncData} (D:Def K mg "followed" xaI ["one","other"] f fd) (T:Txt mg)  :FnOk P w K mg base CX0 1 f fd ["one","other"] (spF K 2 yaq):=by
 refine D.F.ok Xbo (fun vs H Q E h=>h.1) (fun cdv A outer s H vs Q E hr h=>?_)
 have hu:=hr.units
 have hu1:=zaB hr
 refine ⟨_,(@Yad _ _ _ (@yak _ _ _ _ (yad xad (by rfl) T.n_tuple zai (@zaa _ _ _ _ _ (xaq (own:=["number"]) (fr:=["other"]) (js:=[1]) rfl ⟨⟨rfl,by decide +kernel,by decide +kernel,by dsimp only [cxOf,cxComp,Cx.nox,Cx.wish,PyProof.Rows.envOfC,compEnvC,relabel,Env.kindOf];decide +kernel,by decide +kernel⟩,rfl⟩ (XaE (pv 0)) (fun _ _ _ _ _=>(xae (i:=0) (show ((["number"]:List Str) ++ (["other"]:List Str)).Nodup by decide +kernel) rfl (by first | exact Or.inl rfl | exact Or.inr rfl))) (fun _ _ _ _ _=>zaF) (fun _ _ _ _ _=>(@Zai _ _ _ _ _ _ _ (Xat (K:=K) rfl) (pv 1) (pv 0) (fun _ _=>rfl)))) xaa (by rfl))))),?_⟩
 exact xaB (b:=yaQ) (Yak (zag yai (yaa (Xak (yau (Zaa 0)) (zab 0) Zau (Zac Yai (Zaa 1) (Zaa 0))) Xaa))) rfl h
noncomputable def zaC:DSt→Dm Fl :=
 (fSeq (fAsg (fOp gRep (fLst (fCons (fC (.int 0)) fNil)) (fCB gLen (fCons (fVar 0) fNil))) (hName 1))
 (fSeq (fFor (iEnumF (fCons (fVar 0) fNil)) (hTup 2 (hCons (hName 2) (hCons (hName 3) hNil))) (fAsg (fVar 2) (hSub (fVar 1) (fVar 3))))
 (fRet (fCB gTuple (fCons (fVar 1) fNil)))))
noncomputable def yan:List D→Dm D:=fnF 4 zaC
noncomputable def Zav:Stmt:=top 2
theorem yay:FnScope ["turning","back","number","led"] ["turning"] (defScope Zav):=⟨rfl,rfl,rfl,by decide +kernel,rfl,by decide +kernel,by decide +kernel⟩
theorem xa3 {f:Addr} {fd:FuncData} (D:Def K mg "turned_back" Zav ["turning"] f fd) (T:Txt mg)  :FnOk P w K mg base CX0 1 f fd ["turning"] (spF K 1 yan):=by
 refine D.F.ok yay (fun vs H Q E h=>h.1) (fun cdv A outer s H vs Q E hr h=>?_)
 have hu:=hr.units
 have hu1:=zaB hr
 refine ⟨_,(@yab _ _ _ _ _ (@Yaf (i:=1) _ _ _ _ _ _ yay.nd rfl (by first | exact Or.inl rfl | exact Or.inr rfl) (Zah yb1 (@Zan _ _ _ _ (@zaa _ _ _ _ _ Yac xaa (by rfl))) (xaf Yae (by rfl) T.n_len zar (@zaa _ _ _ _ _ (pv 0) xaa (by rfl)))) (by rfl) (by first | exact .inl rfl | exact .inr rfl | assumption))
  (@yab _ _ _ _ _ (@zaH _ _ _ _ _ _ _ _ PassesOwn.never rfl (yb6 rfl T.n_enumerate (@zaa _ _ _ _ _ (pv 0) xaa (by rfl))) (ZaW (n:=2) rfl (Yaj (xae (i:=2) yay.nd rfl (by first | exact Or.inl rfl | exact Or.inr rfl)) (Yaj (xae (i:=3) yay.nd rfl (by first | exact Or.inl rfl | exact Or.inr rfl)) YaM))) (@Yad _ _ _ (YaW (pv 2) (Ybd (pv 1) (pv 3) zaT))) (by intro _;rfl))
  (@Yad _ _ _ (@yak _ _ _ _ (yad xad (by rfl) T.n_tuple zai (@zaa _ _ _ _ _ (pv 1) xaa (by rfl))))))),?_⟩
 exact xaB (b:=zaC) (Zad (zae (Zac xb2 (Yan (yaa (Xac _) Xaa)) (zag Zar (yaa (Zaa 0) Xaa))) (zab 1))
  (Zad (xaH (XbV (yaa (Zaa 0) Xaa)) (zaO (xaj (zab 2) (xaj (zab 3) XaN))) (zae (Zaa 2) (za1 (Zaa 1) (Zaa 3))))
  (Yak (zag yai (yaa (Zaa 1) Xaa))))) rfl h
noncomputable def Yav:DSt→Dm Fl :=
 (fSeq (fAsg (fOp gIxT (fVar 0) (fC (.int 0))) (hName 1))
 (fSeq (fAsg (fOp gIxT (fVar 0) (fC (.int 1))) (hName 2))
 (fSeq (fAsg (fCB yaq (fCons (fCB yan (fCons (fVar 1) fNil)) (fCons (fCB yan (fCons (fVar 2) fNil)) fNil))) (hName 3))
 (fRet (fCB yaq (fCons (fCB yaq (fCons (fVar 1) (fCons (fVar 2) fNil))) (fCons (fVar 3) fNil)))))))
noncomputable def Zap:List D→Dm D:=fnF 4 Yav
noncomputable def Yap:Stmt:=top 6
theorem zas:FnScope ["floor","right","up","back"] ["floor"] (defScope Yap):=⟨rfl,rfl,rfl,by decide +kernel,rfl,by decide +kernel,by decide +kernel⟩
theorem ZaX {f:Addr} {fd:FuncData} (D:Def K mg "round_corners" Yap ["floor"] f fd) (T:Txt mg)  {ffollowed:Addr} {dfollowed:FuncData} (Dfollowed:Def K mg "followed" xaI ["one","other"] ffollowed dfollowed) (Gfollowed:FnOk P w K mg base CX0 1 ffollowed dfollowed ["one","other"] (spF K 2 yaq)) {fturned_back:Addr} {dturned_back:FuncData} (Dturned_back:Def K mg "turned_back" Zav ["turning"] fturned_back dturned_back) (Gturned_back:FnOk P w K mg base CX0 1 fturned_back dturned_back ["turning"] (spF K 1 yan)):FnOk P w K mg base CX0 2 f fd ["floor"] (spF K 1 Zap):=by
 refine D.F.ok zas (fun vs H Q E h=>h.1) (fun cdv A outer s H vs Q E hr h=>?_)
 have hu:=hr.units
 have hu1:=zaB hr
 refine ⟨_,(@yab _ _ _ _ _ (@Yaf (i:=1) _ _ _ _ _ _ zas.nd rfl (by first | exact Or.inl rfl | exact Or.inr rfl) (@Zai _ _ _ _ _ _ _ Zas (pv 0) Yac (fun _ _=>rfl)) (by rfl) (by first | exact .inl rfl | exact .inr rfl | assumption))
  (@yab _ _ _ _ _ (@Yaf (i:=2) _ _ _ _ _ _ zas.nd rfl (by first | exact Or.inl rfl | exact Or.inr rfl) (@Zai _ _ _ _ _ _ _ Zas (pv 0) Yac (fun _ _=>rfl)) (by rfl) (by first | exact .inl rfl | exact .inr rfl | assumption))
  (@yab _ _ _ _ _ (@Yaf (i:=3) _ _ _ _ _ _ zas.nd rfl (by first | exact Or.inl rfl | exact Or.inr rfl) (zaf Gfollowed (hr.mono (by decide)) rfl Dfollowed.m Dfollowed.F.kp Dfollowed.b .nil pass0 (@zaa _ _ _ _ _ (zaf Gturned_back (hr.mono (by decide)) rfl Dturned_back.m Dturned_back.F.kp Dturned_back.b .nil pass0 (@zaa _ _ _ _ _ (pv 1) xaa (by rfl))) (@zaa _ _ _ _ _ (zaf Gturned_back (hr.mono (by decide)) rfl Dturned_back.m Dturned_back.F.kp Dturned_back.b .nil pass0 (@zaa _ _ _ _ _ (pv 2) xaa (by rfl))) xaa (by rfl)) (by rfl))) (by rfl) (by first | exact .inl rfl | exact .inr rfl | assumption))
  (@Yad _ _ _ (@yak _ _ _ _ (zaf Gfollowed (hr.mono (by decide)) rfl Dfollowed.m Dfollowed.F.kp Dfollowed.b .nil pass0 (@zaa _ _ _ _ _ (zaf Gfollowed (hr.mono (by decide)) rfl Dfollowed.m Dfollowed.F.kp Dfollowed.b .nil pass0 (@zaa _ _ _ _ _ (pv 1) (@zaa _ _ _ _ _ (pv 2) xaa (by rfl)) (by rfl))) (@zaa _ _ _ _ _ (pv 3) xaa (by rfl)) (by rfl)))))))),?_⟩
 exact xaB (b:=Yav) (Zad (zae (Zac Yai (Zaa 0) (Xac _)) (zab 1))
  (Zad (zae (Zac Yai (Zaa 0) (Xac _)) (zab 2))
  (Zad (zae (yaf (F:=yaq) (yaa (yaf (F:=yan) (yaa (Zaa 1) Xaa) (xab (fun _ _ _ _ h=>Zaf h))) (yaa (yaf (F:=yan) (yaa (Zaa 2) Xaa) (xab (fun _ _ _ _ h=>Zaf h))) Xaa)) (xab (xab (fun _ _ _ _ h=>Zaf h)))) (zab 3))
  (Yak (yaf (F:=yaq) (yaa (yaf (F:=yaq) (yaa (Zaa 1) (yaa (Zaa 2) Xaa)) (xab (xab (fun _ _ _ _ h=>Zaf h)))) (yaa (Zaa 3) Xaa)) (xab (xab (fun _ _ _ _ h=>Zaf h)))))))) rfl h
noncomputable def YaL:DSt→Dm Fl :=
 (fSeq (fAsg (fCB Zap (fCons (fVar 0) fNil)) (hName 2))
 (fRet (fCB gAll (fCons (fComp (iTupF (fVar 1)) 1 [2] (hName 0) fTrue (fOp (gEq false) (fOp gIxT (fVar 1) (fVar 0)) (fVar 0))) fNil))))
noncomputable def xap:List D→Dm D:=fnF 3 YaL
noncomputable def Yax:Stmt:=top 8
theorem zaX:FnScope ["floor","ring","led"] ["floor","ring"] (defScope Yax):=⟨rfl,rfl,rfl,by decide +kernel,rfl,by decide +kernel,by decide +kernel⟩
theorem zbk {f:Addr} {fd:FuncData} (D:Def K mg "is_smooth" Yax ["floor","ring"] f fd) (T:Txt mg)  {fround_corners:Addr} {dround_corners:FuncData} (Dround_corners:Def K mg "round_corners" Yap ["floor"] fround_corners dround_corners) (Ground_corners:FnOk P w K mg base CX0 2 fround_corners dround_corners ["floor"] (spF K 1 Zap)):FnOk P w K mg base CX0 3 f fd ["floor","ring"] (spF K 2 xap):=by
 refine D.F.ok zaX (fun vs H Q E h=>h.1) (fun cdv A outer s H vs Q E hr h=>?_)
 have hu:=hr.units
 have hu1:=zaB hr
 refine ⟨_,(@yab _ _ _ _ _ (@Yaf (i:=2) _ _ _ _ _ _ zaX.nd rfl (by first | exact Or.inl rfl | exact Or.inr rfl) (zaf Ground_corners (hr.mono (by decide)) rfl Dround_corners.m Dround_corners.F.kp Dround_corners.b .nil pass0 (@zaa _ _ _ _ _ (pv 0) xaa (by rfl))) (by rfl) (by first | exact .inl rfl | exact .inr rfl | assumption))
  (@Yad _ _ _ (@yak _ _ _ _ (xaf (ybG rfl) (by rfl) T.n_all bt_all (@zaa _ _ _ _ _ (xaq (own:=["s"]) (fr:=["led"]) (js:=[2]) rfl ⟨⟨rfl,by decide +kernel,by decide +kernel,by dsimp only [cxOf,cxComp,Cx.nox,Cx.wish,PyProof.Rows.envOfC,compEnvC,relabel,Env.kindOf];decide +kernel,by decide +kernel⟩,rfl⟩ (XaE (pv 1)) (fun _ _ _ _ _=>(xae (i:=0) (show ((["s"]:List Str) ++ (["led"]:List Str)).Nodup by decide +kernel) rfl (by first | exact Or.inl rfl | exact Or.inr rfl))) (fun _ _ _ _ _=>zaF) (fun _ _ _ _ _=>(Ybl Xa6 (@Zai _ _ _ _ _ _ _ (Xat (K:=K) rfl) (pv 1) (pv 0) (fun _ _=>rfl)) (pv 0) (nomark _)))) xaa (by rfl)))))),?_⟩
 exact xaB (b:=YaL) (Zad (zae (yaf (F:=Zap) (yaa (Zaa 0) Xaa) (xab (fun _ _ _ _ h=>Zaf h))) (zab 2))
  (Yak (zag so_all (yaa (Xak (yau (Zaa 1)) (zab 0) Zau (Zac xa9 (Zac Yai (Zaa 1) (Zaa 0)) (Zaa 0))) Xaa)))) rfl h
noncomputable def xaL:DSt→Dm Fl :=
 (fSeq (fAsg (fLst (fCons (fVar 1) fNil)) (hName 2))
 (fSeq (fWhile (fTest (fCB xap (fCons (fVar 0) (fCons (fOp gIxL (fVar 2) (fUn gNeg (fC (.int 1)))) fNil)))) (fSeq (fAsg (fCB yap (fCons (fVar 0) (fCons (fOp gIxL (fVar 2) (fUn gNeg (fC (.int 1)))) fNil))) (hName 3))
 (fSeq (fIf (fTest (fOp (gEqD false) (fVar 3) (fVar 1))) fBreak fNext)
 (fDrop (fBM "list" gAppend (fVar 2) (fCons (fVar 3) fNil))))))
 (fRet (fTup (fCons (fCB gLen (fCons (fVar 1) fNil)) (fCons (fCB gLen (fCons (fVar 2) fNil)) (fCons (fCB gTuple (fCons (fVar 2) fNil)) fNil)))))))
noncomputable def xax:List D→Dm D:=fnF 4 xaL
noncomputable def ZaE:Stmt:=top 10
theorem xaO:FnScope ["floor","lowest","rows","upper"] ["floor","lowest"] (defScope ZaE):=⟨rfl,rfl,rfl,by decide +kernel,rfl,by decide +kernel,by decide +kernel⟩
theorem ybk {f:Addr} {fd:FuncData} (D:Def K mg "band_from" ZaE ["floor","lowest"] f fd) (T:Txt mg)  {fis_smooth:Addr} {dis_smooth:FuncData} (Dis_smooth:Def K mg "is_smooth" Yax ["floor","ring"] fis_smooth dis_smooth) (Gis_smooth:FnOk P w K mg base CX0 3 fis_smooth dis_smooth ["floor","ring"] (spF K 2 xap)) {fupper_row:Addr} {dupper_row:FuncData} (Dupper_row:Def K mg "upper_row" Zax ["floor","row"] fupper_row dupper_row) (Gupper_row:FnOk P w K mg base CX0 2 fupper_row dupper_row ["floor","row"] (spF K 2 yap)):FnOk P w K mg base CX0 4 f fd ["floor","lowest"] (spF K 2 xax):=by
 refine D.F.ok xaO (fun vs H Q E h=>h.1) (fun cdv A outer s H vs Q E hr h=>?_)
 have hu:=hr.units
 have hu1:=zaB hr
 refine ⟨_,(@yab _ _ _ _ _ (@Yaf (i:=2) _ _ _ _ _ _ xaO.nd rfl (by first | exact Or.inl rfl | exact Or.inr rfl) (@Zan _ _ _ _ (@zaa _ _ _ _ _ (pv 1) xaa (by rfl))) (by rfl) (by first | exact .inl rfl | exact .inr rfl | assumption))
  (@yab _ _ _ _ _ (yaJ PassesOwn.never (ZbC (zaf Gis_smooth (hr.mono (by decide)) rfl Dis_smooth.m Dis_smooth.F.kp Dis_smooth.b .nil pass0 (@zaa _ _ _ _ _ (pv 0) (@zaa _ _ _ _ _ (@Zai _ _ _ _ _ _ _ zak (pv 2) (Xa2 XaQ Yac) (fun _ _=>rfl)) xaa (by rfl)) (by rfl)))) (@yab _ _ _ _ _ (@Yaf (i:=3) _ _ _ _ _ _ xaO.nd rfl (by first | exact Or.inl rfl | exact Or.inr rfl) (zaf Gupper_row (hr.mono (by decide)) rfl Dupper_row.m Dupper_row.F.kp Dupper_row.b .nil pass0 (@zaa _ _ _ _ _ (pv 0) (@zaa _ _ _ _ _ (@Zai _ _ _ _ _ _ _ zak (pv 2) (Xa2 XaQ Yac) (fun _ _=>rfl)) xaa (by rfl)) (by rfl))) (by rfl) (by first | exact .inl rfl | exact .inr rfl | assumption))
  (@yab _ _ _ _ _ (@XaG _ _ _ _ _ _ _ _ (Yah (XbF hu) (pv 3) (pv 1) (nomark _)) (@Yad _ _ _ ybS) yam)
  (@Yad _ _ _ (Xaz (ZaT PySem.F.plainAttrs_list PySem.F.slot_list_append PySem.F.type_list_append Xaq (pv 2) (@zaa _ _ _ _ _ (pv 3) xaa (by rfl))))))))
  (@Yad _ _ _ (@yak _ _ _ _ (@xaA _ _ _ _ _ (@zaa _ _ _ _ _ (xaf Yae (by rfl) T.n_len zar (@zaa _ _ _ _ _ (pv 1) xaa (by rfl))) (@zaa _ _ _ _ _ (xaf Yae (by rfl) T.n_len zar (@zaa _ _ _ _ _ (pv 2) xaa (by rfl))) (@zaa _ _ _ _ _ (yad xad (by rfl) T.n_tuple zai (@zaa _ _ _ _ _ (pv 2) xaa (by rfl))) xaa (by rfl)) (by rfl)) (by rfl))))))),?_⟩
 exact xaB (b:=xaL) (Zad (zae (Yan (yaa (Zaa 1) Xaa)) (zab 2))
  (Zad (yaK (ybK (yaf (F:=xap) (yaa (Zaa 0) (yaa (Zac Yaq (Zaa 2) (ya3 yaU (Xac _))) Xaa)) (xab (xab (fun _ _ _ _ h=>Zaf h))))) (Zad (zae (yaf (F:=yap) (yaa (Zaa 0) (yaa (Zac Yaq (Zaa 2) (ya3 yaU (Xac _))) Xaa)) (xab (xab (fun _ _ _ _ h=>Zaf h)))) (zab 3))
  (Zad (xas (Xag (Zac (ya6 false) (Zaa 3) (Zaa 1))) xbV Yam)
  (yaA (ZaM Yar (Zaa 2) (yaa (Zaa 3) Xaa))))))
  (Yak (XaA (yaa (zag Zar (yaa (Zaa 1) Xaa)) (yaa (zag Zar (yaa (Zaa 2) Xaa)) (yaa (zag yai (yaa (Zaa 2) Xaa)) Xaa))))))) rfl h
noncomputable def ZaQ:DSt→Dm Fl :=
 (fSeq (fAsg (fCB ZaI (fCons (fOp gIxT (fVar 0) (fC (.int 0))) fNil)) (hName 1))
 (fSeq (fAsg (fComp (iTupF (fVar 1)) 1 [0] (hName 0) (fTest (fCB xap (fCons (fVar 1) (fCons (fVar 0) fNil)))) (fCB yap (fCons (fVar 1) (fCons (fVar 0) fNil)))) (hName 2))
 (fSeq (fAsg (fComp (iTupF (fVar 1)) 1 [2] (hName 0) (fTest (fOp (gInD true) (fVar 0) (fVar 1))) (fVar 0)) (hName 3))
 (fSeq (fIf (fTest (fOp (gEq false) (fCB gLen (fCons (fVar 3) fNil)) (fC (.int 0)))) (fAsg (fLst (fCons (fOp gIxT (fVar 1) (fC (.int 0))) fNil)) (hName 3)) fNext)
 (fRet (fCB gTuple (fCons (fCB gSortD (fCons (fComp (iListF (fVar 3)) 1 [0] (hName 0) fTrue (fCB xax (fCons (fVar 1) (fCons (fVar 0) fNil)))) fNil)) fNil)))))))
noncomputable def XaI:List D→Dm D:=fnF 4 ZaQ
noncomputable def zaJ:Stmt:=top 11
theorem YaE:FnScope ["floor","rows","upper_rows","lowest_rows"] ["floor"] (defScope zaJ):=⟨rfl,rfl,rfl,by decide +kernel,rfl,by decide +kernel,by decide +kernel⟩
theorem ybp {f:Addr} {fd:FuncData} (D:Def K mg "bands_of" zaJ ["floor"] f fd) (T:Txt mg)  {frings_of:Addr} {drings_of:FuncData} (Drings_of:Def K mg "rings_of" YaI ["turning"] frings_of drings_of) (Grings_of:FnOk P w K mg base CX0 2 frings_of drings_of ["turning"] (spF K 1 ZaI)) {fupper_row:Addr} {dupper_row:FuncData} (Dupper_row:Def K mg "upper_row" Zax ["floor","row"] fupper_row dupper_row) (Gupper_row:FnOk P w K mg base CX0 2 fupper_row dupper_row ["floor","row"] (spF K 2 yap)) {fis_smooth:Addr} {dis_smooth:FuncData} (Dis_smooth:Def K mg "is_smooth" Yax ["floor","ring"] fis_smooth dis_smooth) (Gis_smooth:FnOk P w K mg base CX0 3 fis_smooth dis_smooth ["floor","ring"] (spF K 2 xap)) {fband_from:Addr} {dband_from:FuncData} (Dband_from:Def K mg "band_from" ZaE ["floor","lowest"] fband_from dband_from) (Gband_from:FnOk P w K mg base CX0 4 fband_from dband_from ["floor","lowest"] (spF K 2 xax)):FnOk P w K mg base CX0 5 f fd ["floor"] (spF K 1 XaI):=by
 refine D.F.ok YaE (fun vs H Q E h=>h.1) (fun cdv A outer s H vs Q E hr h=>?_)
 have hu:=hr.units
 have hu1:=zaB hr
 refine ⟨_,(@yab _ _ _ _ _ (@Yaf (i:=1) _ _ _ _ _ _ YaE.nd rfl (by first | exact Or.inl rfl | exact Or.inr rfl) (zaf Grings_of (hr.mono (by decide)) rfl Drings_of.m Drings_of.F.kp Drings_of.b .nil pass0 (@zaa _ _ _ _ _ (@Zai _ _ _ _ _ _ _ Zas (pv 0) Yac (fun _ _=>rfl)) xaa (by rfl))) (by rfl) (by first | exact .inl rfl | exact .inr rfl | assumption))
  (@yab _ _ _ _ _ (@Yaf (i:=2) _ _ _ _ _ _ YaE.nd rfl (by first | exact Or.inl rfl | exact Or.inr rfl) (xaq (own:=["row"]) (fr:=["floor"]) (js:=[0]) rfl ⟨⟨rfl,by decide +kernel,by decide +kernel,by dsimp only [cxOf,cxComp,Cx.nox,Cx.wish,PyProof.Rows.envOfC,compEnvC,relabel,Env.kindOf];decide +kernel,by decide +kernel⟩,rfl⟩ (XaE (pv 1)) (fun _ _ _ _ _=>(xae (i:=0) (show ((["row"]:List Str) ++ (["floor"]:List Str)).Nodup by decide +kernel) rfl (by first | exact Or.inl rfl | exact Or.inr rfl))) (fun _ _ _ _ _=>(zaZ (ZbC (zaf Gis_smooth (hr.mono (by decide)) rfl Dis_smooth.m Dis_smooth.F.kp Dis_smooth.b .nil pass0 (@zaa _ _ _ _ _ (pv 1) (@zaa _ _ _ _ _ (pv 0) xaa (by rfl)) (by rfl)))))) (fun _ _ _ _ _=>(zaf Gupper_row (hr.mono (by decide)) rfl Dupper_row.m Dupper_row.F.kp Dupper_row.b .nil pass0 (@zaa _ _ _ _ _ (pv 1) (@zaa _ _ _ _ _ (pv 0) xaa (by rfl)) (by rfl))))) (by rfl) (by first | exact .inl rfl | exact .inr rfl | assumption))
  (@yab _ _ _ _ _ (yaZ (i:=3) (own:=["row"]) (fr:=["upper_rows"]) (js:=[2]) rfl YaE.nd rfl rfl ⟨⟨rfl,by decide +kernel,by decide +kernel,by dsimp only [cxOf,cxComp,Cx.nox,Cx.wish,PyProof.Rows.envOfC,compEnvC,relabel,Env.kindOf];decide +kernel,by decide +kernel⟩,rfl⟩ (XaE (pv 1)) (fun _ _ _ _ _=>(xae (i:=0) (show ((["row"]:List Str) ++ (["upper_rows"]:List Str)).Nodup by decide +kernel) rfl (by first | exact Or.inl rfl | exact Or.inr rfl))) (fun _ _ _ _ _=>(zaZ (Yah (ya5 (K:=K) rfl hu) (pv 0) (pv 1) (by with_unfolding_all rfl)))) (fun _ _ _ _ _=>(pv 0)))
  (@yab _ _ _ _ _ (@XaG _ _ _ _ _ _ _ _ (Yah Xa6 (xaf Yae (by rfl) T.n_len zar (@zaa _ _ _ _ _ (pv 3) xaa (by rfl))) Yac (nomark _)) (@Yad _ _ _ (@Yaf (i:=3) _ _ _ _ _ _ YaE.nd rfl (by first | exact Or.inl rfl | exact Or.inr rfl) (@Zan _ _ _ _ (@zaa _ _ _ _ _ (@Zai _ _ _ _ _ _ _ Zas (pv 1) Yac (fun _ _=>rfl)) xaa (by rfl))) (by rfl) (by first | exact .inl rfl | exact .inr rfl | assumption))) yam)
  (@Yad _ _ _ (@yak _ _ _ _ (yad xad (by rfl) T.n_tuple zai (@zaa _ _ _ _ _ (xaf (ZaN hu) (by rfl) T.n_sorted XaY (@zaa _ _ _ _ _ (xaq (own:=["row"]) (fr:=["floor"]) (js:=[0]) rfl ⟨⟨rfl,by decide +kernel,by decide +kernel,by dsimp only [cxOf,cxComp,Cx.nox,Cx.wish,PyProof.Rows.envOfC,compEnvC,relabel,Env.kindOf];decide +kernel,by decide +kernel⟩,rfl⟩ (xa6 (pv 3)) (fun _ _ _ _ _=>(xae (i:=0) (show ((["row"]:List Str) ++ (["floor"]:List Str)).Nodup by decide +kernel) rfl (by first | exact Or.inl rfl | exact Or.inr rfl))) (fun _ _ _ _ _=>zaF) (fun _ _ _ _ _=>(zaf Gband_from (hr.mono (by decide)) rfl Dband_from.m Dband_from.F.kp Dband_from.b .nil pass0 (@zaa _ _ _ _ _ (pv 1) (@zaa _ _ _ _ _ (pv 0) xaa (by rfl)) (by rfl))))) xaa (by rfl))) xaa (by rfl))))))))),?_⟩
 exact xaB (b:=ZaQ) (Zad (zae (yaf (F:=ZaI) (yaa (Zac Yai (Zaa 0) (Xac _)) Xaa) (xab (fun _ _ _ _ h=>Zaf h))) (zab 1))
  (Zad (zae (Xak (yau (Zaa 1)) (zab 0) (ybK (yaf (F:=xap) (yaa (Zaa 1) (yaa (Zaa 0) Xaa)) (xab (xab (fun _ _ _ _ h=>Zaf h))))) (yaf (F:=yap) (yaa (Zaa 1) (yaa (Zaa 0) Xaa)) (xab (xab (fun _ _ _ _ h=>Zaf h))))) (zab 2))
  (Zad (zae (Xak (yau (Zaa 1)) (zab 0) (Xag (Zac (ybP true) (Zaa 0) (Zaa 1))) (Zaa 0)) (zab 3))
  (Zad (xas (Xag (Zac xa9 (zag Zar (yaa (Zaa 3) Xaa)) (Xac _))) (zae (Yan (yaa (Zac Yai (Zaa 1) (Xac _)) Xaa)) (zab 3)) Yam)
  (Yak (zag yai (yaa (zag Ybb (yaa (Xak (xaX (Zaa 3)) (zab 0) Zau (yaf (F:=xax) (yaa (Zaa 1) (yaa (Zaa 0) Xaa)) (xab (xab (fun _ _ _ _ h=>Zaf h))))) Xaa)) Xaa))))))) rfl h
noncomputable def yaC:DSt→Dm Fl :=
 (fSeq (fAsg (fVar 0) (hTup 2 (hCons (hName 1) (hCons (hName 2) hNil))))
 (fRet (fCB gTuple (fCons (fComp (iRng1F (fCons (fCB gLen (fCons (fVar 2) fNil)) fNil)) 1 [1,2] (hName 0) fTrue (fBM "tuple" gIndex (fVar 2) (fCons (fBM "tuple" gIndex (fVar 1) (fCons (fOp gIxT (fVar 2) (fOp gIxT (fVar 1) (fVar 0))) fNil)) fNil))) fNil))))
noncomputable def xav:List D→Dm D:=fnF 3 yaC
noncomputable def Xav:Stmt:=top 22
theorem xaG:FnScope ["_law_floor_here","_law_right_here","_law_up"] ["_law_floor_here"] (defScope Xav):=⟨rfl,rfl,rfl,by decide +kernel,rfl,by decide +kernel,by decide +kernel⟩
theorem Xa3 {f:Addr} {fd:FuncData} (D:Def K mg "_law_around" Xav ["_law_floor_here"] f fd) (T:Txt mg)  :FnOk P w K mg base CX0 1 f fd ["_law_floor_here"] (spF K 1 xav):=by
 refine D.F.ok xaG (fun vs H Q E h=>h.1) (fun cdv A outer s H vs Q E hr h=>?_)
 have hu:=hr.units
 have hu1:=zaB hr
 refine ⟨_,(@yab _ _ _ _ _ (YaW (pv 0) (ZaW (n:=2) rfl (Yaj (xae (i:=1) xaG.nd rfl (by first | exact Or.inl rfl | exact Or.inr rfl)) (Yaj (xae (i:=2) xaG.nd rfl (by first | exact Or.inl rfl | exact Or.inr rfl)) YaM))))
  (@Yad _ _ _ (@yak _ _ _ _ (yad xad (by rfl) T.n_tuple zai (@zaa _ _ _ _ _ (xaq (own:=["_law_s"]) (fr:=["_law_right_here","_law_up"]) (js:=[1,2]) rfl ⟨⟨rfl,by decide +kernel,by decide +kernel,by dsimp only [cxOf,cxComp,Cx.nox,Cx.wish,PyProof.Rows.envOfC,compEnvC,relabel,Env.kindOf];decide +kernel,by decide +kernel⟩,rfl⟩ (Zaj rfl T.n_range (@zaa _ _ _ _ _ (xaf Yae (by rfl) T.n_len zar (@zaa _ _ _ _ _ (pv 2) xaa (by rfl))) xaa (by rfl))) (fun _ _ _ _ _=>(xae (i:=0) (show ((["_law_s"]:List Str) ++ (["_law_right_here","_law_up"]:List Str)).Nodup by decide +kernel) rfl (by first | exact Or.inl rfl | exact Or.inr rfl))) (fun _ _ _ _ _=>zaF) (fun _ _ _ _ _=>(xbf (K:=K) rfl PySem.F.plainAttrs_tuple PySem.F.slot_tuple_index PySem.F.type_tuple_index (zaN (K:=K) rfl) (pv 2) (@zaa _ _ _ _ _ (xbf (K:=K) rfl PySem.F.plainAttrs_tuple PySem.F.slot_tuple_index PySem.F.type_tuple_index (zaN (K:=K) rfl) (pv 1) (@zaa _ _ _ _ _ (@Zai _ _ _ _ _ _ _ (Xat (K:=K) rfl) (pv 2) (@Zai _ _ _ _ _ _ _ (Xat (K:=K) rfl) (pv 1) (pv 0) (fun _ _=>rfl)) (fun _ _=>rfl)) xaa (by rfl))) xaa (by rfl))))) xaa (by rfl)))))),?_⟩
 exact xaB (b:=yaC) (Zad (zae (Zaa 0) (zaO (xaj (zab 1) (xaj (zab 2) XaN))))
  (Yak (zag yai (yaa (Xak (xam (yaa (zag Zar (yaa (Zaa 2) Xaa)) Xaa)) (zab 0) Zau (ZaM ZaU (Zaa 2) (yaa (ZaM ZaU (Zaa 1) (yaa (Zac Yai (Zaa 2) (Zac Yai (Zaa 1) (Zaa 0))) Xaa)) Xaa))) Xaa)))) rfl h
noncomputable def xaF:DSt→Dm Fl :=
 (fSeq (fPar 1 2 (fCons (fLst fNil) (fCons (fLst fNil) fNil)))
 (fSeq (fFor (iRng1F (fCons (fCB gLen (fCons (fVar 0) fNil)) fNil)) (hName 3) (fIf (fTest (fOp (gIn true) (fVar 3) (fVar 2))) (fSeq (fAsg (fLst (fCons (fVar 3) fNil)) (hName 4))
 (fSeq (fWhile (fTest (fOp (gEq true) (fOp gIxT (fVar 0) (fOp gIxL (fVar 4) (fUn gNeg (fC (.int 1))))) (fVar 3))) (fDrop (fBM "list" gAppend (fVar 4) (fCons (fOp gIxT (fVar 0) (fOp gIxL (fVar 4) (fUn gNeg (fC (.int 1))))) fNil))))
 (fSeq (fDrop (fBM "list" gExtend (fVar 2) (fCons (fVar 4) fNil)))
 (fDrop (fBM "list" gAppend (fVar 1) (fCons (fCB gTuple (fCons (fVar 4) fNil)) fNil)))))) fNext))
 (fRet (fCB gTuple (fCons (fVar 1) fNil)))))
noncomputable def Xal:List D→Dm D:=fnF 5 xaF
noncomputable def Zat:Stmt:=top 23
theorem ZaC:FnScope ["_law_turning_here","_law_found","_law_met_here","_law_k","_law_ring"] ["_law_turning_here"] (defScope Zat):=⟨rfl,rfl,rfl,by decide +kernel,rfl,by decide +kernel,by decide +kernel⟩
theorem ybc {f:Addr} {fd:FuncData} (D:Def K mg "_law_rings" Zat ["_law_turning_here"] f fd) (T:Txt mg)  :FnOk P w K mg base CX0 1 f fd ["_law_turning_here"] (spF K 1 Xal):=by
 refine D.F.ok ZaC (fun vs H Q E h=>h.1) (fun cdv A outer s H vs Q E hr h=>?_)
 have hu:=hr.units
 have hu1:=zaB hr
 refine ⟨_,(@yab _ _ _ _ _ (YbC (i:=1) (j:=2) rfl ZaC.nd rfl rfl (by decide) rfl rfl (@zaa _ _ _ _ _ (@Zan _ _ _ _ xaa) (@zaa _ _ _ _ _ (@Zan _ _ _ _ xaa) xaa (by rfl)) (by rfl)) rfl)
  (@yab _ _ _ _ _ (@zaH _ _ _ _ _ _ _ _ PassesOwn.never rfl (Zaj rfl T.n_range (@zaa _ _ _ _ _ (xaf Yae (by rfl) T.n_len zar (@zaa _ _ _ _ _ (pv 0) xaa (by rfl))) xaa (by rfl))) (xae (i:=3) ZaC.nd rfl (by first | exact Or.inl rfl | exact Or.inr rfl)) (@Yad _ _ _ (@XaG _ _ _ _ _ _ _ _ (Yah xaM (pv 3) (pv 2) (by with_unfolding_all rfl)) (@yab _ _ _ _ _ (@Yaf (i:=4) _ _ _ _ _ _ ZaC.nd rfl (by first | exact Or.inl rfl | exact Or.inr rfl) (@Zan _ _ _ _ (@zaa _ _ _ _ _ (pv 3) xaa (by rfl))) (by rfl) (by first | exact .inl rfl | exact .inr rfl | assumption))
  (@yab _ _ _ _ _ (yaJ PassesOwn.never (Yah zbw (@Zai _ _ _ _ _ _ _ Zas (pv 0) (@Zai _ _ _ _ _ _ _ zak (pv 4) (Xa2 XaQ Yac) (fun _ _=>rfl)) (fun _ _=>rfl)) (pv 3) (nomark _)) (@Yad _ _ _ (Xaz (ZaT PySem.F.plainAttrs_list PySem.F.slot_list_append PySem.F.type_list_append Xaq (pv 4) (@zaa _ _ _ _ _ (@Zai _ _ _ _ _ _ _ Zas (pv 0) (@Zai _ _ _ _ _ _ _ zak (pv 4) (Xa2 XaQ Yac) (fun _ _=>rfl)) (fun _ _=>rfl)) xaa (by rfl))))))
  (@yab _ _ _ _ _ (Xaz (ZaT PySem.F.plainAttrs_list PySem.F.slot_list_extend PySem.F.type_list_extend zbF (pv 2) (@zaa _ _ _ _ _ (pv 4) xaa (by rfl))))
  (@Yad _ _ _ (Xaz (ZaT PySem.F.plainAttrs_list PySem.F.slot_list_append PySem.F.type_list_append Xaq (pv 1) (@zaa _ _ _ _ _ (yad xad (by rfl) T.n_tuple zai (@zaa _ _ _ _ _ (pv 4) xaa (by rfl))) xaa (by rfl)))))))) yam)) (by intro _;rfl))
  (@Yad _ _ _ (@yak _ _ _ _ (yad xad (by rfl) T.n_tuple zai (@zaa _ _ _ _ _ (pv 1) xaa (by rfl))))))),?_⟩
 exact xaB (b:=xaF) (Zad (YbL (yaa (Yan Xaa) (yaa (Yan Xaa) Xaa)))
  (Zad (xaH (xam (yaa (zag Zar (yaa (Zaa 0) Xaa)) Xaa)) (zab 3) (xas (Xag (Zac (XbK true) (Zaa 3) (Zaa 2))) (Zad (zae (Yan (yaa (Zaa 3) Xaa)) (zab 4))
  (Zad (yaK (Xag (Zac xby (Zac Yai (Zaa 0) (Zac Yaq (Zaa 4) (ya3 yaU (Xac _)))) (Zaa 3))) (yaA (ZaM Yar (Zaa 4) (yaa (Zac Yai (Zaa 0) (Zac Yaq (Zaa 4) (ya3 yaU (Xac _)))) Xaa))))
  (Zad (yaA (ZaM ZbL (Zaa 2) (yaa (Zaa 4) Xaa)))
  (yaA (ZaM Yar (Zaa 1) (yaa (zag yai (yaa (Zaa 4) Xaa)) Xaa)))))) Yam))
  (Yak (zag yai (yaa (Zaa 1) Xaa))))) rfl h
noncomputable def XaF:DSt→Dm Fl :=
 (fSeq (fAsg (fTup (fCons (fCB xav (fCons (fVar 0) fNil)) (fCons (fCB Xal (fCons (fOp gIxT (fVar 0) (fC (.int 0))) fNil)) fNil))) (hTup 2 (hCons (hName 1) (hCons (hName 2) hNil))))
 (fSeq (fAsg fUNew (hName 3))
 (fSeq (fFor (iTupF (fVar 2)) (hName 4) (fIf (fTest (fOp (gEqD false) (fComp (iTupF (fVar 4)) 1 [1] (hName 0) (fTest (fOp (gEq true) (fOp gIxT (fVar 1) (fVar 0)) (fVar 0))) (fVar 0)) (fLst fNil))) (fUPut (fVar 3) (fVar 4) (fOp gIxL (fComp (iTupF (fVar 2)) 1 [0,4] (hName 0) (fTest (fOp (gIn false) (fOp gIxT (fOp gIxT (fVar 1) (fC (.int 1))) (fOp gIxT (fVar 2) (fC (.int 0)))) (fVar 0))) (fVar 0)) (fC (.int 0)))) fNext))
 (fSeq (fAsg (fComp (iTupF (fVar 2)) 1 [3] (hName 0) (fTest (fOp (gInD true) (fVar 0) (fUVals (fVar 1)))) (fVar 0)) (hName 5))
 (fSeq (fAsg (fLst fNil) (hName 6))
 (fSeq (fFor (iListF (fOp gCat (fVar 5) (fOp gRep (fCB gList (fCons (fSl gSlT (fVar 2) fNoPart (fPart (fC (.int 1)))) fNil)) (fCB gInt1 (fCons (fOp (gEqD false) (fVar 5) (fLst fNil)) fNil))))) (hName 4) (fSeq (fAsg (fLst (fCons (fVar 4) fNil)) (hName 7))
 (fSeq (fWhile (fAnd (fTest (fUIn false (fOp gIxL (fVar 7) (fUn gNeg (fC (.int 1)))) (fVar 3))) (fTest (fOp (gInD true) (fUGet (fVar 3) (fOp gIxL (fVar 7) (fUn gNeg (fC (.int 1))))) (fVar 7)))) (fDrop (fBM "list" gAppend (fVar 7) (fCons (fUGet (fVar 3) (fOp gIxL (fVar 7) (fUn gNeg (fC (.int 1))))) fNil))))
 (fDrop (fBM "list" gAppend (fVar 6) (fCons (fTup (fCons (fCB gLen (fCons (fVar 4) fNil)) (fCons (fCB gLen (fCons (fVar 7) fNil)) (fCons (fCB gTuple (fCons (fVar 7) fNil)) fNil)))) fNil))))))
 (fRet (fCB gTuple (fCons (fCB gSortD (fCons (fVar 6) fNil)) fNil)))))))))
noncomputable def yaz:List D→Dm D:=fnF 8 XaF
noncomputable def Zaz:Stmt:=top 24
theorem Xai:FnScope ["_law_floor_here","_law_around_here","_law_every","_law_above","_law_row","_law_begins","_law_found","_law_band_here"] ["_law_floor_here"] (defScope Zaz):=⟨rfl,rfl,rfl,by decide +kernel,rfl,by decide +kernel,by decide +kernel⟩
theorem Zbc {f:Addr} {fd:FuncData} (D:Def K mg "_law_bands" Zaz ["_law_floor_here"] f fd) (T:Txt mg)  {f_law_around:Addr} {d_law_around:FuncData} (D_law_around:Def K mg "_law_around" Xav ["_law_floor_here"] f_law_around d_law_around) (G_law_around:FnOk P w K mg base CX0 1 f_law_around d_law_around ["_law_floor_here"] (spF K 1 xav)) {f_law_rings:Addr} {d_law_rings:FuncData} (D_law_rings:Def K mg "_law_rings" Zat ["_law_turning_here"] f_law_rings d_law_rings) (G_law_rings:FnOk P w K mg base CX0 1 f_law_rings d_law_rings ["_law_turning_here"] (spF K 1 Xal)):FnOk P w K mg base CX0 2 f fd ["_law_floor_here"] (spF K 1 yaz):=by
 refine D.F.ok Xai (fun vs H Q E h=>h.1) (fun cdv A outer s H vs Q E hr h=>?_)
 have hu:=hr.units
 have hu1:=zaB hr
 refine ⟨_,(@yab _ _ _ _ _ (YaW (@xaA _ _ _ _ _ (@zaa _ _ _ _ _ (zaf G_law_around (hr.mono (by decide)) rfl D_law_around.m D_law_around.F.kp D_law_around.b .nil pass0 (@zaa _ _ _ _ _ (pv 0) xaa (by rfl))) (@zaa _ _ _ _ _ (zaf G_law_rings (hr.mono (by decide)) rfl D_law_rings.m D_law_rings.F.kp D_law_rings.b .nil pass0 (@zaa _ _ _ _ _ (@Zai _ _ _ _ _ _ _ Zas (pv 0) Yac (fun _ _=>rfl)) xaa (by rfl))) xaa (by rfl)) (by rfl))) (ZaW (n:=2) rfl (Yaj (xae (i:=1) Xai.nd rfl (by first | exact Or.inl rfl | exact Or.inr rfl)) (Yaj (xae (i:=2) Xai.nd rfl (by first | exact Or.inl rfl | exact Or.inr rfl)) YaM))))
  (@yab _ _ _ _ _ (@Yaf (i:=3) _ _ _ _ _ _ Xai.nd rfl (by first | exact Or.inl rfl | exact Or.inr rfl) Yb6 (by rfl) (by first | exact .inl rfl | exact .inr rfl | assumption))
  (@yab _ _ _ _ _ (@zaH _ _ _ _ _ _ _ _ PassesOwn.never rfl (XaE (pv 2)) (xae (i:=4) Xai.nd rfl (by first | exact Or.inl rfl | exact Or.inr rfl)) (@Yad _ _ _ (@XaG _ _ _ _ _ _ _ _ (Yah (XbF hu) (xaq (own:=["_law_s"]) (fr:=["_law_around_here"]) (js:=[1]) rfl ⟨⟨rfl,by decide +kernel,by decide +kernel,by dsimp only [cxOf,cxComp,Cx.nox,Cx.wish,PyProof.Rows.envOfC,compEnvC,relabel,Env.kindOf];decide +kernel,by decide +kernel⟩,rfl⟩ (XaE (pv 4)) (fun _ _ _ _ _=>(xae (i:=0) (show ((["_law_s"]:List Str) ++ (["_law_around_here"]:List Str)).Nodup by decide +kernel) rfl (by first | exact Or.inl rfl | exact Or.inr rfl))) (fun _ _ _ _ _=>(zaZ (Yah zbw (@Zai _ _ _ _ _ _ _ (Xat (K:=K) rfl) (pv 1) (pv 0) (fun _ _=>rfl)) (pv 0) (nomark _)))) (fun _ _ _ _ _=>(pv 0))) (@Zan _ _ _ _ xaa) (nomark _)) (@Yad _ _ _ (xb6 hu1 (pv 3) (pv 4) (@Zai _ _ _ _ _ _ _ zak (xaq (own:=["_law_other"]) (fr:=["_law_floor_here","_law_row"]) (js:=[0,4]) rfl ⟨⟨rfl,by decide +kernel,by decide +kernel,by dsimp only [cxOf,cxComp,Cx.nox,Cx.wish,PyProof.Rows.envOfC,compEnvC,relabel,Env.kindOf];decide +kernel,by decide +kernel⟩,rfl⟩ (XaE (pv 2)) (fun _ _ _ _ _=>(xae (i:=0) (show ((["_law_other"]:List Str) ++ (["_law_floor_here","_law_row"]:List Str)).Nodup by decide +kernel) rfl (by first | exact Or.inl rfl | exact Or.inr rfl))) (fun _ _ _ _ _=>(zaZ (Yah (Xbw (K:=K) rfl) (@Zai _ _ _ _ _ _ _ (Xat (K:=K) rfl) (@Zai _ _ _ _ _ _ _ (Xat (K:=K) rfl) (pv 1) Yac (fun _ _=>rfl)) (@Zai _ _ _ _ _ _ _ (Xat (K:=K) rfl) (pv 2) Yac (fun _ _=>rfl)) (fun _ _=>rfl)) (pv 0) (by with_unfolding_all rfl)))) (fun _ _ _ _ _=>(pv 0))) Yac (fun _ _=>rfl)) rfl)) yam)) (by intro _;rfl))
  (@yab _ _ _ _ _ (yaZ (i:=5) (own:=["_law_row"]) (fr:=["_law_above"]) (js:=[3]) rfl Xai.nd rfl rfl ⟨⟨rfl,by decide +kernel,by decide +kernel,by dsimp only [cxOf,cxComp,Cx.nox,Cx.wish,PyProof.Rows.envOfC,compEnvC,relabel,Env.kindOf];decide +kernel,by decide +kernel⟩,rfl⟩ (XaE (pv 2)) (fun _ _ _ _ _=>(xae (i:=0) (show ((["_law_row"]:List Str) ++ (["_law_above"]:List Str)).Nodup by decide +kernel) rfl (by first | exact Or.inl rfl | exact Or.inr rfl))) (fun _ _ _ _ _=>(zaZ (Yah (ya5 (K:=K) rfl hu) (pv 0) (zbJ (K:=K) rfl (by rfl) (by rfl) T.n_list (pv 1)) (by with_unfolding_all rfl)))) (fun _ _ _ _ _=>(pv 0)))
  (@yab _ _ _ _ _ (@Yaf (i:=6) _ _ _ _ _ _ Xai.nd rfl (by first | exact Or.inl rfl | exact Or.inr rfl) (@Zan _ _ _ _ xaa) (by rfl) (by first | exact .inl rfl | exact .inr rfl | assumption))
  (@yab _ _ _ _ _ (@zaH _ _ _ _ _ _ _ _ PassesOwn.never rfl (xa6 (Zah zaR (pv 5) (Zah yb1 (yad Zay (by rfl) T.n_list yas (@zaa _ _ _ _ _ (ybq Xb5 (pv 2) ZbE (YbE Yac)) xaa (by rfl))) (yad XbD (by rfl) T.n_int bt_int (@zaa _ _ _ _ _ (Ybl (XbF hu) (pv 5) (@Zan _ _ _ _ xaa) (nomark _)) xaa (by rfl)))))) (xae (i:=4) Xai.nd rfl (by first | exact Or.inl rfl | exact Or.inr rfl)) (@yab _ _ _ _ _ (@Yaf (i:=7) _ _ _ _ _ _ Xai.nd rfl (by first | exact Or.inl rfl | exact Or.inr rfl) (@Zan _ _ _ _ (@zaa _ _ _ _ _ (pv 4) xaa (by rfl))) (by rfl) (by first | exact .inl rfl | exact .inr rfl | assumption))
  (@yab _ _ _ _ _ (yaJ PassesOwn.never (PW.pt (pw_and (Yb0 (pc_uin hu1 (@Zai _ _ _ _ _ _ _ zak (pv 7) (Xa2 XaQ Yac) (fun _ _=>rfl)) (pv 3))) (Xb3 (Yah (Xbf hu) (zbH hu1 (pv 3) (@Zai _ _ _ _ _ _ _ zak (pv 7) (Xa2 XaQ Yac) (fun _ _=>rfl)) (fun _ _=>rfl)) (pv 7) (by with_unfolding_all rfl))))) (@Yad _ _ _ (Xaz (ZaT PySem.F.plainAttrs_list PySem.F.slot_list_append PySem.F.type_list_append Xaq (pv 7) (@zaa _ _ _ _ _ (zbH hu1 (pv 3) (@Zai _ _ _ _ _ _ _ zak (pv 7) (Xa2 XaQ Yac) (fun _ _=>rfl)) (fun _ _=>rfl)) xaa (by rfl))))))
  (@Yad _ _ _ (Xaz (ZaT PySem.F.plainAttrs_list PySem.F.slot_list_append PySem.F.type_list_append Xaq (pv 6) (@zaa _ _ _ _ _ (@xaA _ _ _ _ _ (@zaa _ _ _ _ _ (xaf Yae (by rfl) T.n_len zar (@zaa _ _ _ _ _ (pv 4) xaa (by rfl))) (@zaa _ _ _ _ _ (xaf Yae (by rfl) T.n_len zar (@zaa _ _ _ _ _ (pv 7) xaa (by rfl))) (@zaa _ _ _ _ _ (yad xad (by rfl) T.n_tuple zai (@zaa _ _ _ _ _ (pv 7) xaa (by rfl))) xaa (by rfl)) (by rfl)) (by rfl))) xaa (by rfl))))))) (by intro _;rfl))
  (@Yad _ _ _ (@yak _ _ _ _ (yad xad (by rfl) T.n_tuple zai (@zaa _ _ _ _ _ (xaf (ZaN hu) (by rfl) T.n_sorted XaY (@zaa _ _ _ _ _ (pv 6) xaa (by rfl))) xaa (by rfl))))))))))),?_⟩
 exact xaB (b:=XaF) (Zad (zae (XaA (yaa (yaf (F:=xav) (yaa (Zaa 0) Xaa) (xab (fun _ _ _ _ h=>Zaf h))) (yaa (yaf (F:=Xal) (yaa (Zac Yai (Zaa 0) (Xac _)) Xaa) (xab (fun _ _ _ _ h=>Zaf h))) Xaa))) (zaO (xaj (zab 1) (xaj (zab 2) XaN))))
  (Zad (zae Zcf (zab 3))
  (Zad (xaH (yau (Zaa 2)) (zab 4) (xas (Xag (Zac (ya6 false) (Xak (yau (Zaa 4)) (zab 0) (Xag (Zac xby (Zac Yai (Zaa 1) (Zaa 0)) (Zaa 0))) (Zaa 0)) (Yan Xaa))) (Ycf (Zaa 3) (Zaa 4) (Zac Yaq (Xak (yau (Zaa 2)) (zab 0) (Xag (Zac (XbK false) (Zac Yai (Zac Yai (Zaa 1) (Xac _)) (Zac Yai (Zaa 2) (Xac _))) (Zaa 0))) (Zaa 0)) (Xac _))) Yam))
  (Zad (zae (Xak (yau (Zaa 2)) (zab 0) (Xag (Zac (ybP true) (Zaa 0) (XbY (Zaa 1)))) (Zaa 0)) (zab 5))
  (Zad (zae (Yan Xaa) (zab 6))
  (Zad (xaH (xaX (Zac ZaR (Zaa 5) (Zac xb2 (zag xa0 (yaa (so_sl so_slT (Zaa 2) zbi (ZbK (Xac _))) Xaa)) (zag Xb9 (yaa (Zac (ya6 false) (Zaa 5) (Yan Xaa)) Xaa))))) (zab 4) (Zad (zae (Yan (yaa (Zaa 4) Xaa)) (zab 7))
  (Zad (yaK (so_and (ybK (so_uin (Zac Yaq (Zaa 7) (ya3 yaU (Xac _))) (Zaa 3))) (Xag (Zac (ybP true) (ybQ (Zaa 3) (Zac Yaq (Zaa 7) (ya3 yaU (Xac _)))) (Zaa 7)))) (yaA (ZaM Yar (Zaa 7) (yaa (ybQ (Zaa 3) (Zac Yaq (Zaa 7) (ya3 yaU (Xac _)))) Xaa))))
  (yaA (ZaM Yar (Zaa 6) (yaa (XaA (yaa (zag Zar (yaa (Zaa 4) Xaa)) (yaa (zag Zar (yaa (Zaa 7) Xaa)) (yaa (zag yai (yaa (Zaa 7) Xaa)) Xaa)))) Xaa))))))
  (Yak (zag yai (yaa (zag Ybb (yaa (Zaa 6) Xaa)) Xaa))))))))) rfl h
noncomputable def zaG:DSt→Dm Fl :=
 (fSeq (fAsg (fCB XaI (fCons (fVar 0) fNil)) (hName 1))
 (fSeq (fIf (fTest (fOp (gEq true) (fCB gRepr (fCons (fVar 1) fNil)) (fCB gRepr (fCons (fCB yaz (fCons (fVar 0) fNil)) fNil)))) (fRet (fC (.bl false))) fNext)
 (fSeq (fAsg (fLst fNil) (hName 2))
 (fSeq (fFor (iTupF (fVar 1)) (hTup 3 (hCons (hName 3) (hCons (hName 4) (hCons (hName 5) hNil)))) (fDrop (fBM "list" gExtendT (fVar 2) (fCons (fVar 5) fNil))))
 (fSeq (fIf (fTest (fOp (gEqD true) (fCB gSortD (fCons (fVar 2) fNil)) (fCB gList (fCons (fCB Xal (fCons (fOp gIxT (fVar 0) (fC (.int 0))) fNil)) fNil)))) (fRet (fC (.bl false))) fNext)
 (fRet (fOp (gEq false) (fCB gSum (fCons (fComp (iTupF (fVar 1)) 3 [] (hTup 3 (hCons (hName 0) (hCons (hName 1) (hCons (hName 2) hNil)))) fTrue (fOp gMul (fVar 0) (fVar 1))) fNil)) (fCB gLen (fCons (fOp gIxT (fVar 0) (fC (.int 0))) fNil)))))))))
noncomputable def Yaz:List D→Dm D:=fnF 6 zaG
noncomputable def xaz:Stmt:=top 26
theorem Zaq:FnScope ["_law_floor_here","_law_found","_law_rows_in","_law_width","_law_height","_law_band_here"] ["_law_floor_here"] (defScope xaz):=⟨rfl,rfl,rfl,by decide +kernel,rfl,by decide +kernel,by decide +kernel⟩
theorem Ybc {f:Addr} {fd:FuncData} (D:Def K mg "_law_right" xaz ["_law_floor_here"] f fd) (T:Txt mg)  {fbands_of:Addr} {dbands_of:FuncData} (Dbands_of:Def K mg "bands_of" zaJ ["floor"] fbands_of dbands_of) (Gbands_of:FnOk P w K mg base CX0 5 fbands_of dbands_of ["floor"] (spF K 1 XaI)) {f_law_bands:Addr} {d_law_bands:FuncData} (D_law_bands:Def K mg "_law_bands" Zaz ["_law_floor_here"] f_law_bands d_law_bands) (G_law_bands:FnOk P w K mg base CX0 2 f_law_bands d_law_bands ["_law_floor_here"] (spF K 1 yaz)) {f_law_rings:Addr} {d_law_rings:FuncData} (D_law_rings:Def K mg "_law_rings" Zat ["_law_turning_here"] f_law_rings d_law_rings) (G_law_rings:FnOk P w K mg base CX0 1 f_law_rings d_law_rings ["_law_turning_here"] (spF K 1 Xal)):FnOk P w K mg base CX0 6 f fd ["_law_floor_here"] (spF K 1 Yaz):=by
 refine D.F.ok Zaq (fun vs H Q E h=>h.1) (fun cdv A outer s H vs Q E hr h=>?_)
 have hu:=hr.units
 have hu1:=zaB hr
 refine ⟨_,(@yab _ _ _ _ _ (@Yaf (i:=1) _ _ _ _ _ _ Zaq.nd rfl (by first | exact Or.inl rfl | exact Or.inr rfl) (zaf Gbands_of (hr.mono (by decide)) rfl Dbands_of.m Dbands_of.F.kp Dbands_of.b .nil pass0 (@zaa _ _ _ _ _ (pv 0) xaa (by rfl))) (by rfl) (by first | exact .inl rfl | exact .inr rfl | assumption))
  (@yab _ _ _ _ _ (@XaG _ _ _ _ _ _ _ _ (Yah zbw (xaf (ZaP hr) (by rfl) T.n_repr Ya7 (@zaa _ _ _ _ _ (pv 1) xaa (by rfl))) (xaf (ZaP hr) (by rfl) T.n_repr Ya7 (@zaa _ _ _ _ _ (zaf G_law_bands (hr.mono (by decide)) rfl D_law_bands.m D_law_bands.F.kp D_law_bands.b .nil pass0 (@zaa _ _ _ _ _ (pv 0) xaa (by rfl))) xaa (by rfl))) (nomark _)) (@Yad _ _ _ (@yak _ _ _ _ ybC)) yam)
  (@yab _ _ _ _ _ (@Yaf (i:=2) _ _ _ _ _ _ Zaq.nd rfl (by first | exact Or.inl rfl | exact Or.inr rfl) (@Zan _ _ _ _ xaa) (by rfl) (by first | exact .inl rfl | exact .inr rfl | assumption))
  (@yab _ _ _ _ _ (@zaH _ _ _ _ _ _ _ _ PassesOwn.never rfl (XaE (pv 1)) (ZaW (n:=3) rfl (Yaj (xae (i:=3) Zaq.nd rfl (by first | exact Or.inl rfl | exact Or.inr rfl)) (Yaj (xae (i:=4) Zaq.nd rfl (by first | exact Or.inl rfl | exact Or.inr rfl)) (Yaj (xae (i:=5) Zaq.nd rfl (by first | exact Or.inl rfl | exact Or.inr rfl)) YaM)))) (@Yad _ _ _ (Xaz (ZaT PySem.F.plainAttrs_list PySem.F.slot_list_extend PySem.F.type_list_extend yby (pv 2) (@zaa _ _ _ _ _ (pv 5) xaa (by rfl))))) (by intro _;rfl))
  (@yab _ _ _ _ _ (@XaG _ _ _ _ _ _ _ _ (Yah (zbG hu) (xaf (ZaN hu) (by rfl) T.n_sorted XaY (@zaa _ _ _ _ _ (pv 2) xaa (by rfl))) (yad Zay (by rfl) T.n_list yas (@zaa _ _ _ _ _ (zaf G_law_rings (hr.mono (by decide)) rfl D_law_rings.m D_law_rings.F.kp D_law_rings.b .nil pass0 (@zaa _ _ _ _ _ (@Zai _ _ _ _ _ _ _ Zas (pv 0) Yac (fun _ _=>rfl)) xaa (by rfl))) xaa (by rfl))) (nomark _)) (@Yad _ _ _ (@yak _ _ _ _ ybC)) yam)
  (@Yad _ _ _ (@yak _ _ _ _ (Ybl Xa6 (xaf (xbI rfl) (by rfl) T.n_sum bt_sum (@zaa _ _ _ _ _ (xaq (own:=["_law_width","_law_height","_law_band_here"]) (fr:=[]) (js:=[]) rfl ⟨⟨rfl,by decide +kernel,by decide +kernel,by dsimp only [cxOf,cxComp,Cx.nox,Cx.wish,PyProof.Rows.envOfC,compEnvC,relabel,Env.kindOf];decide +kernel,by decide +kernel⟩,rfl⟩ (XaE (pv 1)) (fun _ _ _ _ _=>(Zb6 (K:=K) (n:=3) rfl rfl (Yaj (xae (i:=0) (show ((["_law_width","_law_height","_law_band_here"]:List Str) ++ ([]:List Str)).Nodup by decide +kernel) rfl (by first | exact Or.inl rfl | exact Or.inr rfl)) (Yaj (xae (i:=1) (show ((["_law_width","_law_height","_law_band_here"]:List Str) ++ ([]:List Str)).Nodup by decide +kernel) rfl (by first | exact Or.inl rfl | exact Or.inr rfl)) (Yaj (xae (i:=2) (show ((["_law_width","_law_height","_law_band_here"]:List Str) ++ ([]:List Str)).Nodup by decide +kernel) rfl (by first | exact Or.inl rfl | exact Or.inr rfl)) YaM))))) (fun _ _ _ _ _=>zaF) (fun _ _ _ _ _=>(Zah xaQ (pv 0) (pv 1)))) xaa (by rfl))) (xaf Yae (by rfl) T.n_len zar (@zaa _ _ _ _ _ (@Zai _ _ _ _ _ _ _ Zas (pv 0) Yac (fun _ _=>rfl)) xaa (by rfl))) (nomark _))))))))),?_⟩
 exact xaB (b:=zaG) (Zad (zae (yaf (F:=XaI) (yaa (Zaa 0) Xaa) (xab (fun _ _ _ _ h=>Zaf h))) (zab 1))
  (Zad (xas (Xag (Zac xby (zag Xa9 (yaa (Zaa 1) Xaa)) (zag Xa9 (yaa (yaf (F:=yaz) (yaa (Zaa 0) Xaa) (xab (fun _ _ _ _ h=>Zaf h))) Xaa)))) (Yak (zbK _)) Yam)
  (Zad (zae (Yan Xaa) (zab 2))
  (Zad (xaH (yau (Zaa 1)) (zaO (xaj (zab 3) (xaj (zab 4) (xaj (zab 5) XaN)))) (yaA (ZaM Ybz (Zaa 2) (yaa (Zaa 5) Xaa))))
  (Zad (xas (Xag (Zac (ya6 true) (zag Ybb (yaa (Zaa 2) Xaa)) (zag xa0 (yaa (yaf (F:=Xal) (yaa (Zac Yai (Zaa 0) (Xac _)) Xaa) (xab (fun _ _ _ _ h=>Zaf h))) Xaa)))) (Yak (zbK _)) Yam)
  (Yak (Zac xa9 (zag so_sum (yaa (Xak (yau (Zaa 1)) (zaO (xaj (zab 0) (xaj (zab 1) (xaj (zab 2) XaN)))) Zau (Zac yaR (Zaa 0) (Zaa 1))) Xaa)) (zag Zar (yaa (Zac Yai (Zaa 0) (Xac _)) Xaa))))))))) rfl h
noncomputable def ybZ:DSt→Dm Fl :=
 (fSeq (fAsg (fLst fNil) (hName 1))
 (fSeq (fFor (iRng1F (fCons (fCB gMax2 (fCons (fC (.int 3)) (fCons (fCB gMin2 (fCons (fC (.int 6)) (fCons (fCB gLen (fCons (fVar 0) fNil)) fNil))) fNil))) fNil)) (hName 2) (fSeq (fAsg (fCB YaD (fCons (fVar 0) (fCons (fVar 2) fNil))) (hName 3))
 (fSeq (fAsg (fCB Xad (fCons (fVar 3) (fCons (fC (.int 4)) fNil))) (hName 4))
 (fSeq (fAsg (fCB Xay (fCons (fVar 3) (fCons (fC (.int 8)) fNil))) (hName 5))
 (fSeq (fIf (fTest (fOp (gEq false) (fCB Xad (fCons (fVar 3) (fCons (fC (.int 4)) fNil))) (fC (.int 0)))) (fAsg (fCB zaE (fCons (fVar 3) fNil)) (hName 5)) fNext)
 (fSeq (fAsg (fOp gIxL (fLst (fCons (fTup (fCons (fC (.str "s")) (fCons (fC (.int 0)) fNil))) (fCons (fTup (fCons (fC (.str "s")) (fCons (fOp gAdd (fC (.int 1)) (fCB Xad (fCons (fVar 3) (fCons (fC (.int 7)) fNil)))) fNil))) (fCons (fTup (fCons (fC (.str "t")) (fCons (fC (.int 1)) fNil))) (fCons (fTup (fCons (fC (.str "t")) (fCons (fC (.int 2)) fNil))) fNil))))) (fVar 4)) (hName 6))
 (fDrop (fBM "list" gAppend (fVar 1) (fCons (fCB yal (fCons (fVar 5) (fCons (fVar 6) fNil))) fNil)))))))))
 (fSeq (fFor (iListF (fOp gCat (fVar 1) (fUn gRevL (fVar 1)))) (hName 5) (fSeq (fAsg (fCB gRepr (fCons (fVar 5) fNil)) (hName 7))
 (fIf (fOr (fNot (fTest (fCB Yaz (fCons (fVar 5) fNil)))) (fTest (fOp (gEq true) (fCB gRepr (fCons (fVar 5) fNil)) (fVar 7)))) (fRet (fC (.bl false))) fNext)))
 (fRet (fC (.bl true))))))
noncomputable def zcg:List D→Dm D:=fnF 8 ybZ
noncomputable def ZbZ:Stmt:=top 27
theorem XaR:FnScope ["_law_script","_law_some","_law_k","_law_feed_here","_law_form","_law_floor_here","_law_step","_law_kept"] ["_law_script"] (defScope ZbZ):=⟨rfl,rfl,rfl,by decide +kernel,rfl,by decide +kernel,by decide +kernel⟩
theorem ok_law {f:Addr} {fd:FuncData} (D:Def K mg "law" ZbZ ["_law_script"] f fd) (T:Txt mg)  {f_law_feed:Addr} {d_law_feed:FuncData} (D_law_feed:Def K mg "_law_feed" xaD ["_law_script","_law_k"] f_law_feed d_law_feed) (G_law_feed:FnOk P w K mg base CX0 1 f_law_feed d_law_feed ["_law_script","_law_k"] (spF K 2 YaD)) {f_law_take:Addr} {d_law_take:FuncData} (D_law_take:Def K mg "_law_take" zan ["_law_feed_here","_law_many"] f_law_take d_law_take) (G_law_take:FnOk P w K mg base CX0 1 f_law_take d_law_take ["_law_feed_here","_law_many"] (spF K 2 Xad)) {f_law_drawn:Addr} {d_law_drawn:FuncData} (D_law_drawn:Def K mg "_law_drawn" zaz ["_law_feed_here","_law_most"] f_law_drawn d_law_drawn) (G_law_drawn:FnOk P w K mg base CX0 4 f_law_drawn d_law_drawn ["_law_feed_here","_law_most"] (spF K 2 Xay)) {f_law_band:Addr} {d_law_band:FuncData} (D_law_band:Def K mg "_law_band" yaE ["_law_feed_here"] f_law_band d_law_band) (G_law_band:FnOk P w K mg base CX0 3 f_law_band d_law_band ["_law_feed_here"] (spF K 1 zaE)) {f_law_stepped:Addr} {d_law_stepped:FuncData} (D_law_stepped:Def K mg "_law_stepped" xar ["_law_floor_here","_law_step"] f_law_stepped d_law_stepped) (G_law_stepped:FnOk P w K mg base CX0 2 f_law_stepped d_law_stepped ["_law_floor_here","_law_step"] (spF K 2 yal)) {f_law_right:Addr} {d_law_right:FuncData} (D_law_right:Def K mg "_law_right" xaz ["_law_floor_here"] f_law_right d_law_right) (G_law_right:FnOk P w K mg base CX0 6 f_law_right d_law_right ["_law_floor_here"] (spF K 1 Yaz)):FnOk P w K mg base CX0 7 f fd ["_law_script"] (spF K 1 zcg):=by
 refine D.F.ok XaR (fun vs H Q E h=>h.1) (fun cdv A outer s H vs Q E hr h=>?_)
 have hu:=hr.units
 have hu1:=zaB hr
 refine ⟨_,(@yab _ _ _ _ _ (@Yaf (i:=1) _ _ _ _ _ _ XaR.nd rfl (by first | exact Or.inl rfl | exact Or.inr rfl) (@Zan _ _ _ _ xaa) (by rfl) (by first | exact .inl rfl | exact .inr rfl | assumption))
  (@yab _ _ _ _ _ (@zaH _ _ _ _ _ _ _ _ PassesOwn.never rfl (Zaj rfl T.n_range (@zaa _ _ _ _ _ (xaf (YbD rfl) (by rfl) T.n_max bt_max (@zaa _ _ _ _ _ Yac (@zaa _ _ _ _ _ (xaf (xbD rfl) (by rfl) T.n_min Zb1 (@zaa _ _ _ _ _ Yac (@zaa _ _ _ _ _ (xaf Yae (by rfl) T.n_len zar (@zaa _ _ _ _ _ (pv 0) xaa (by rfl))) xaa (by rfl)) (by rfl))) xaa (by rfl)) (by rfl))) xaa (by rfl))) (xae (i:=2) XaR.nd rfl (by first | exact Or.inl rfl | exact Or.inr rfl)) (@yab _ _ _ _ _ (@Yaf (i:=3) _ _ _ _ _ _ XaR.nd rfl (by first | exact Or.inl rfl | exact Or.inr rfl) (zaf G_law_feed (hr.mono (by decide)) rfl D_law_feed.m D_law_feed.F.kp D_law_feed.b .nil pass0 (@zaa _ _ _ _ _ (pv 0) (@zaa _ _ _ _ _ (pv 2) xaa (by rfl)) (by rfl))) (by rfl) (by first | exact .inl rfl | exact .inr rfl | assumption))
  (@yab _ _ _ _ _ (@Yaf (i:=4) _ _ _ _ _ _ XaR.nd rfl (by first | exact Or.inl rfl | exact Or.inr rfl) (zaf G_law_take (hr.mono (by decide)) rfl D_law_take.m D_law_take.F.kp D_law_take.b .nil pass0 (@zaa _ _ _ _ _ (pv 3) (@zaa _ _ _ _ _ Yac xaa (by rfl)) (by rfl))) (by rfl) (by first | exact .inl rfl | exact .inr rfl | assumption))
  (@yab _ _ _ _ _ (@Yaf (i:=5) _ _ _ _ _ _ XaR.nd rfl (by first | exact Or.inl rfl | exact Or.inr rfl) (zaf G_law_drawn (hr.mono (by decide)) rfl D_law_drawn.m D_law_drawn.F.kp D_law_drawn.b .nil pass0 (@zaa _ _ _ _ _ (pv 3) (@zaa _ _ _ _ _ Yac xaa (by rfl)) (by rfl))) (by rfl) (by first | exact .inl rfl | exact .inr rfl | assumption))
  (@yab _ _ _ _ _ (@XaG _ _ _ _ _ _ _ _ (Yah Xa6 (zaf G_law_take (hr.mono (by decide)) rfl D_law_take.m D_law_take.F.kp D_law_take.b .nil pass0 (@zaa _ _ _ _ _ (pv 3) (@zaa _ _ _ _ _ Yac xaa (by rfl)) (by rfl))) Yac (nomark _)) (@Yad _ _ _ (@Yaf (i:=5) _ _ _ _ _ _ XaR.nd rfl (by first | exact Or.inl rfl | exact Or.inr rfl) (zaf G_law_band (hr.mono (by decide)) rfl D_law_band.m D_law_band.F.kp D_law_band.b .nil pass0 (@zaa _ _ _ _ _ (pv 3) xaa (by rfl))) (by rfl) (by first | exact .inl rfl | exact .inr rfl | assumption))) yam)
  (@yab _ _ _ _ _ (@Yaf (i:=6) _ _ _ _ _ _ XaR.nd rfl (by first | exact Or.inl rfl | exact Or.inr rfl) (@Zai _ _ _ _ _ _ _ zak (@Zan _ _ _ _ (@zaa _ _ _ _ _ (@xaA _ _ _ _ _ (@zaa _ _ _ _ _ ybd (@zaa _ _ _ _ _ Yac xaa (by rfl)) (by rfl))) (@zaa _ _ _ _ _ (@xaA _ _ _ _ _ (@zaa _ _ _ _ _ ybd (@zaa _ _ _ _ _ (Zah zaw Yac (zaf G_law_take (hr.mono (by decide)) rfl D_law_take.m D_law_take.F.kp D_law_take.b .nil pass0 (@zaa _ _ _ _ _ (pv 3) (@zaa _ _ _ _ _ Yac xaa (by rfl)) (by rfl)))) xaa (by rfl)) (by rfl))) (@zaa _ _ _ _ _ (@xaA _ _ _ _ _ (@zaa _ _ _ _ _ ybd (@zaa _ _ _ _ _ Yac xaa (by rfl)) (by rfl))) (@zaa _ _ _ _ _ (@xaA _ _ _ _ _ (@zaa _ _ _ _ _ ybd (@zaa _ _ _ _ _ Yac xaa (by rfl)) (by rfl))) xaa (by rfl)) (by rfl)) (by rfl)) (by rfl))) (pv 4) (fun _ _=>rfl)) (by rfl) (by first | exact .inl rfl | exact .inr rfl | assumption))
  (@Yad _ _ _ (Xaz (ZaT PySem.F.plainAttrs_list PySem.F.slot_list_append PySem.F.type_list_append Xaq (pv 1) (@zaa _ _ _ _ _ (zaf G_law_stepped (hr.mono (by decide)) rfl D_law_stepped.m D_law_stepped.F.kp D_law_stepped.b .nil pass0 (@zaa _ _ _ _ _ (pv 5) (@zaa _ _ _ _ _ (pv 6) xaa (by rfl)) (by rfl))) xaa (by rfl)))))))))) (by intro _;rfl))
  (@yab _ _ _ _ _ (@zaH _ _ _ _ _ _ _ _ PassesOwn.never rfl (xa6 (Zah zaR (pv 1) (pe_rev zb6 (pv 1)))) (xae (i:=5) XaR.nd rfl (by first | exact Or.inl rfl | exact Or.inr rfl)) (@yab _ _ _ _ _ (@Yaf (i:=7) _ _ _ _ _ _ XaR.nd rfl (by first | exact Or.inl rfl | exact Or.inr rfl) (xaf (ZaP hr) (by rfl) T.n_repr Ya7 (@zaa _ _ _ _ _ (pv 5) xaa (by rfl))) (by rfl) (by first | exact .inl rfl | exact .inr rfl | assumption))
  (@Yad _ _ _ (@XaG _ _ _ _ _ _ _ _ (PW.pt (pw_or (pt_not (ZbC (zaf G_law_right (hr.mono (by decide)) rfl D_law_right.m D_law_right.F.kp D_law_right.b .nil pass0 (@zaa _ _ _ _ _ (pv 5) xaa (by rfl))))) (pw_or1 (Yah zbw (xaf (ZaP hr) (by rfl) T.n_repr Ya7 (@zaa _ _ _ _ _ (pv 5) xaa (by rfl))) (pv 7) (nomark _))))) (@Yad _ _ _ (@yak _ _ _ _ ybC)) yam))) (by intro _;rfl))
  (@Yad _ _ _ (@yak _ _ _ _ ybC))))),?_⟩
 exact xaB (b:=ybZ) (Zad (zae (Yan Xaa) (zab 1))
  (Zad (xaH (xam (yaa (zag Yb9 (yaa (Xac _) (yaa (zag xb9 (yaa (Xac _) (yaa (zag Zar (yaa (Zaa 0) Xaa)) Xaa))) Xaa))) Xaa)) (zab 2) (Zad (zae (yaf (F:=YaD) (yaa (Zaa 0) (yaa (Zaa 2) Xaa)) (xab (xab (fun _ _ _ _ h=>Zaf h)))) (zab 3))
  (Zad (zae (yaf (F:=Xad) (yaa (Zaa 3) (yaa (Xac _) Xaa)) (xab (xab (fun _ _ _ _ h=>Zaf h)))) (zab 4))
  (Zad (zae (yaf (F:=Xay) (yaa (Zaa 3) (yaa (Xac _) Xaa)) (xab (xab (fun _ _ _ _ h=>Zaf h)))) (zab 5))
  (Zad (xas (Xag (Zac xa9 (yaf (F:=Xad) (yaa (Zaa 3) (yaa (Xac _) Xaa)) (xab (xab (fun _ _ _ _ h=>Zaf h)))) (Xac _))) (zae (yaf (F:=zaE) (yaa (Zaa 3) Xaa) (xab (fun _ _ _ _ h=>Zaf h))) (zab 5)) Yam)
  (Zad (zae (Zac Yaq (Yan (yaa (XaA (yaa (Xbh _) (yaa (Xac _) Xaa))) (yaa (XaA (yaa (Xbh _) (yaa (Zac yaw (Xac _) (yaf (F:=Xad) (yaa (Zaa 3) (yaa (Xac _) Xaa)) (xab (xab (fun _ _ _ _ h=>Zaf h))))) Xaa))) (yaa (XaA (yaa (Xbh _) (yaa (Xac _) Xaa))) (yaa (XaA (yaa (Xbh _) (yaa (Xac _) Xaa))) Xaa))))) (Zaa 4)) (zab 6))
  (yaA (ZaM Yar (Zaa 1) (yaa (yaf (F:=yal) (yaa (Zaa 5) (yaa (Zaa 6) Xaa)) (xab (xab (fun _ _ _ _ h=>Zaf h)))) Xaa)))))))))
  (Zad (xaH (xaX (Zac ZaR (Zaa 1) (so_un' yb9 (Zaa 1)))) (zab 5) (Zad (zae (zag Xa9 (yaa (Zaa 5) Xaa)) (zab 7))
  (xas (so_or (so_not (ybK (yaf (F:=Yaz) (yaa (Zaa 5) Xaa) (xab (fun _ _ _ _ h=>Zaf h))))) (Xag (Zac xby (zag Xa9 (yaa (Zaa 5) Xaa)) (Zaa 7)))) (Yak (zbK _)) Yam)))
  (Yak (zbK _))))) rfl h
end
theorem Xar {st:Store} {f:Nat} {n:Int} (hf:FeedIs st f) (h0:0 < n) (h1:n < 1073741824):Wp (Xad [.ref f,.int n] st) fun d st'=>∃ k:Int,d=.int k∧0≤k∧k < n∧FeedIs st' f∧Ex [f] st st':=by
 obtain ⟨o,m,e,o0,m0,m1⟩:=hf
 have hfl:=yac e
 refine YaA ?_
 show Ws (xaK [some (.ref f),some (.int n),none,none] st) _ _ _ _
 unfold xaK
 refine zad (ZaG ?_)
 set_option simprocs false in simp only [wpB,zac e,Xah e]
 refine ⟨fun ho=>?_,fun ho=>?_⟩
 ·refine zad (Xae ?_)
  set_option simprocs false in simp only [wpB,zac e]
  refine ⟨h0,zad (YaR ?_)⟩
  set_option simprocs false in simp only [wpB,zac e,Xah e,(show ixN [D.int o,D.int m].length 0=some 0 from ix2_0)]
  refine ⟨⟨h0,h1⟩,xal ?_⟩
  set_option simprocs false in simp only [wpB]
  refine ⟨Int.emod_nonneg _ (by omega),Int.emod_lt_of_pos _ h0,⟨o / n,m,?_,Int.ediv_nonneg o0 (by omega),m0,m1⟩,Ex.refl.put (by simp)⟩
  rw [List.getElem?_set_self hfl]
 ·refine Xam (zad (Xae ?_))
  set_option simprocs false in simp only [wpB,zac e]
  refine ⟨by omega,by omega,zad (YaR ?_)⟩
  set_option simprocs false in simp only [wpB,zac e,Xah e,(show ixN [D.int o,D.int m].length 1=some 1 from ix2_1)]
  refine ⟨by omega,by omega,xal ?_⟩
  have e2:(st.set f (.lst [.int o,.int ((m * 48271 % 2147483647 * 40692 + 30103) % 2147483399 + 1)]))[f]?=some (.lst [.int o,.int ((m * 48271 % 2147483647 * 40692 + 30103) % 2147483399 + 1)]):=List.getElem?_set_self hfl
  set_option simprocs false in simp only [wpB,zac e2]
  refine ⟨by omega,by omega,h0,Int.emod_nonneg _ (by omega),Int.emod_lt_of_pos _ h0,⟨_,_,e2,o0,by omega,by omega⟩,Ex.refl.put (by simp)⟩
theorem YbQ {st:Store} {a:Nat} {ns:List Int} {k:Nat} (hs:items st a=some (ns.map D.int)) (hk:k≤100):Wp (YaD [.ref a,.int (k:Int)] st) fun d st'=>d=.ref st.length∧FeedIs st' st.length∧Ex [] st st':=by
 refine YaA ?_
 show Ws (YaK [some (.ref a),some (.int (k:Int)),none,none] st) _ _ _ _
 unfold YaK
 refine zad (Xae ?_)
 set_option simprocs false in simp only [wpB]
 refine ⟨by omega,zad (YaS (N:=fun δ st1=>st1=st∧∃ c:Int,δ=[some (.ref a),some (.int (k:Int)),some (.int c),none]) (ZaG ?_) ?_)⟩
 ·set_option simprocs false in simp only [wpB,hs]
  refine ⟨fun h=>Xae ?_,fun h=>ZaG ?_⟩
  ·have h:=of_decide_eq_true h
   rw [List.length_map] at h
   set_option simprocs false in simp only [wpB,hs]
   refine ⟨.int (ns[k]'(by omega)),zaD (by rw [List.getElem?_map,List.getElem?_eq_getElem];rfl),_,rfl⟩
  ·set_option simprocs false in simp only [wpB,hs]
   refine ⟨fun h=>Xae ?_,fun h=>Xam ⟨rfl,_,rfl⟩⟩
   have h:=of_decide_eq_true h
   obtain ⟨v,hv,hm⟩:=atI_lt (xs:=ns.map D.int) (i:=(k:Int) % ((ns.map D.int).length:Int)) (Int.emod_nonneg _ (by omega)) (Int.emod_lt_of_pos _ h)
   obtain ⟨c,_,rfl⟩:=List.mem_map.mp hm
   set_option simprocs false in simp only [wpB,hs]
   refine ⟨h,_,hv,?_⟩
   set_option simprocs false in simp only [wpB]
   exact ⟨by omega,by omega,by omega,_,rfl⟩
 ·rintro δ st1 ⟨rfl,c,rfl⟩
  refine zad (Xae ?_)
  set_option simprocs false in simp only [wpB]
  refine zad (YaS (N:=fun δ st2=>st2=st1∧∃ o:Int,0≤o∧δ=[some (.ref a),some (.int (k:Int)),some (.int c),some (.int o)]) (ZaG ?_) ?_)
  ·set_option simprocs false in simp only [wpB]
   refine ⟨by decide,fun h=>Xae ?_,fun h=>Xam ⟨rfl,0,by decide,rfl⟩⟩
   have h:=of_decide_eq_true h
   set_option simprocs false in simp only [wpB]
   exact ⟨c,Int.le_trans (by decide) h,rfl⟩
  ·rintro δ st2 ⟨rfl,o,o0,rfl⟩
   refine xal ?_
   set_option simprocs false in simp only [wpB]
   have h1:0≤c % 2147483629:=Int.emod_nonneg _ (by decide)
   have h2:c % 2147483629 < 2147483629:=Int.emod_lt_of_pos _ (by decide)
   refine ⟨by omega,by omega,by omega,by omega,by omega,by rfl,⟨_,_,xag,o0,?_,?_⟩,Ex.app0 _⟩
   ·have:=Int.emod_nonneg ((c % 2147483629 * 48271 + 40692 * (k:Int)) ^ (5:Int).toNat) (show (2147483629:Int)≠0 by decide)
    omega
   ·have:=Int.emod_lt_of_pos ((c % 2147483629 * 48271 + 40692 * (k:Int)) ^ (5:Int).toNat) (show (0:Int) < 2147483629 by decide)
    omega
theorem yaG {st:Store} {f:Nat} {n:Nat} (hf:FeedIs st f) (hn:n≤100):Wp (Zag [.ref f,.int (n:Int)] st) fun d st'=>∃ xs:List Int,d=.tup (xs.map D.int)∧Mth.Tn n xs∧FeedIs st' f∧Ex [f] st st':=by
 have hfl:=hf.lt
 refine YaA ?_
 show Ws (Xax [some (.ref f),some (.int (n:Int)),none,none] st) _ _ _ _
 unfold Xax
 refine zad (Xae ?_)
 set_option simprocs false in simp only [wpB]
 have e1:((n:Int) - 0).toNat=n:=by omega
 rw [e1,yag]
 refine ⟨by unfold okR;rw [Bool.and_eq_true,decide_eq_true_eq];exact ⟨by omega,xak (by omega)⟩,zad (Xae ?_)⟩
 set_option simprocs false in simp only [wpB]
 refine ⟨rfl,zad (ZaK (fun m δ st2=>∃ L xs:List Int,m=L.length∧δ=[some (.ref f),some (.int (n:Int)),some (.ref (st ++ [O.rng 0 (n:Int)]).length),some (.tup (xs.map D.int))]∧st2[(st ++ [O.rng 0 (n:Int)]).length]?=some (.lst (L.map D.int))∧(xs ++ L).Perm (Mth.upto n)∧FeedIs st2 f∧Ex [f] st st2) n (Nat.lt_of_le_of_lt hn (by decide)) ⟨Mth.upto n,[],(Mth.xah n).symm,rfl,xag,List.Perm.refl _,hf.keep ((Ex.app0 _).app _),(Ex.app0 _).app _⟩ ?_)⟩
 have hl:(st ++ [O.rng 0 (n:Int)]).length≠f:=by rw [List.length_append];omega
 have hls:st.length≤(st ++ [O.rng 0 (n:Int)]).length:=by rw [List.length_append];omega
 generalize (st ++ [O.rng 0 (n:Int)]).length=l at hl hls ⊢
 rintro m δ st2 ⟨L,xs,rfl,rfl,hL,pm,hf2,k2⟩
 have hlen:(xs ++ L).length=n:=by rw [pm.length_eq,Mth.xah]
 rw [List.length_append] at hlen
 refine Yaa ?_
 intro qhQ hQ
 set_option simprocs false in simp only [wpB,ybO (L:=L) (M:=[]) (st:=st2 ++ [O.lst []]) (zac (Xaf hL)) zah]
 refine ⟨rfl,hQ _ _ ⟨fun h=>?_,fun h=>?_⟩⟩
 ·have hne:L≠[]:=by simpa using h
  have hpos:0 < L.length:=List.length_pos_iff.mpr hne
  have hL3:(st2 ++ [O.lst []])[l]?=some (.lst (L.map D.int)):=Xaf hL
  have f3:FeedIs (st2 ++ [O.lst []]) f:=hf2.keep (Ex.app0 _)
  have k3:Ex [f] st (st2 ++ [O.lst []]):=k2.app _
  generalize (st2 ++ [O.lst []])=st3 at hL3 f3 k3 ⊢
  refine Xae ?_
  refine Yaa ?_
  intro qhQ hQ
  set_option simprocs false in simp only [wpB,zac hL3]
  refine ⟨Xap (by rw [zac hL3];rfl),?_⟩
  refine Yab (Xar (n:=((L.map D.int).length:Int)) f3 (by rw [List.length_map];omega) (by rw [List.length_map];omega)) ?_
  rintro d st4 ⟨k,rfl,k0,k1,f4,k4⟩
  rw [List.length_map] at k1
  have hL4:=k4.keep _ _ hL3 (by simpa using hl)
  have hkl:k.toNat < L.length:=by omega
  set_option simprocs false in simp only [wpB,Xah hL4]
  have hk':((k.toNat:Nat):Int)=k:=Int.toNat_of_nonneg k0
  refine ⟨by omega,k.toNat,?_,D.int L[k.toNat],by rw [List.getElem?_map,List.getElem?_eq_getElem hkl];rfl,rfl,xak ?_,hQ _ _ ⟨(L.eraseIdx k.toNat).length,?_,L.eraseIdx k.toNat,xs ++ [L[k.toNat]],rfl,?_,?_,?_,?_,?_⟩⟩
  ·rw [← hk',Int.toNat_natCast]
   exact (xbl (Xa7 (by rw [List.length_map];exact hkl))).1
  ·simp only [List.length_map,List.length_cons,List.length_nil];omega
  ·rw [List.length_eraseIdx,if_pos hkl];omega
  ·rw [List.map_append];rfl
  ·rw [List.getElem?_set_self (yac hL4),Zbz]
  ·refine List.Perm.trans ?_ pm
   rw [List.append_assoc]
   exact List.Perm.append_left xs (ybo hkl)
  ·exact f4.ne hl
  ·exact (k3.trans k4).loc hls
 ·have he:L=[]:=by simpa using h
  subst he
  refine xal ?_
  refine Yaa ?_
  intro qhQ hQ
  set_option simprocs false in simp only [wpB]
  exact hQ _ _ ⟨xs,rfl,by simpa [Mth.Tn] using pm,hf2.keep (Ex.app0 _),k2.app _⟩
theorem YbZ {st:Store} {xs ys:List Int} {n:Nat} (tx:Mth.Tn n xs) (ty:Mth.Tn n ys) (n0:0 < n) (hn:n≤100):Wp (zat [flD xs ys] st) fun d st'=>∃ (g:Nat) (F:List Int),d=.ref g∧items st' g=some (F.map D.int)∧(∀ x,x∈F↔Mth.Rch xs ys x)∧F.length≤n∧Ex [] st st':=by
 have hlx:=tx.length
 have hly:=ty.length
 refine YaA ?_
 show Ws (XaP [some (flD xs ys),none,none,none,none] st) _ _ _ _
 unfold XaP
 refine zad (Xae ?_)
 refine Yaa ?_
 intro qhQ hQ
 set_option simprocs false in simp only [wpB]
 refine ⟨rfl,hQ _ _ (zad (xaR (rangeD 0 (n + 1)) (fun i δ st2=>∃ (v2 v3 v4:Option D) (F:List Int),δ=[some (flD xs ys),some (.ref st.length),v2,v3,v4]∧st2[st.length]?=some (.lst (F.map D.int))∧Mth.Fd xs ys F∧(Mth.Cl xs ys F∨i + 1≤F.length)∧Ex [] st st2) ?_ ?_ ?_ ?_))⟩
 ·unfold flD
  refine Yaa ?_
  intro qhQ hQ
  set_option simprocs false in simp only [wpB]
  have e0:((1:Int) + ((xs.map D.int).length:Int)).toNat=n + 1:=by rw [List.length_map];omega
  refine ⟨by rw [List.length_map];omega,hQ _ _ ⟨by rw [e0],none,none,none,[0],rfl,xag,Mth.Fd.one xs ys,.inr (Nat.le_refl _),Ex.app0 _⟩⟩
 ·rw [Xab];omega
 ·rintro i d δ st2 hd ⟨v2,v3,v4,F,rfl,hg2,hF,hcl,k2⟩
  refine Yaa ?_
  intro qhQ hQ
  set_option simprocs false in simp only [wpB]
  refine hQ _ _ (xaR [.tup (xs.map D.int),.tup (ys.map D.int)] (fun m δ st3=>∃ (v3 v4:Option D) (G:List Int),δ=[some (flD xs ys),some (.ref st.length),some d,v3,v4]∧st3[st.length]?=some (.lst (G.map D.int))∧Mth.Fd xs ys G ∧
    (m=0→G=F)∧(m=1→F <+: G∧∀ x∈F,Mth.app xs x∈G)∧(2≤m→∃ F1,F <+: F1∧F1 <+: G∧(∀ x∈F,Mth.app xs x∈F1)∧∀ x∈F1,Mth.app ys x∈G)∧Ex [] st st3) ?_ (by simp) ?_ ?_)
  ·unfold flD
   refine Yaa ?_
   intro qhQ hQ
   set_option simprocs false in simp only [wpB]
   exact hQ _ _ ⟨rfl,v3,v4,F,rfl,hg2,hF,fun _=>rfl,fun z=>by omega,fun z=>by omega,k2⟩
  ·rintro m z δ st3 hm ⟨v3,v4,G,rfl,hg3,hG,m0,m1,_,k3⟩
   have hm2:m < 2:=yac hm
   obtain ⟨zs,rfl,hz,em⟩:∃ (zs:List Int),z=.tup (zs.map D.int)∧(zs=xs∨zs=ys)∧((m=0∧zs=xs)∨(m=1∧zs=ys)):=by
    rcases (show m=0∨m=1 by omega) with rfl | rfl
    ·exact ⟨xs,by simpa using hm.symm,.inl rfl,.inl ⟨rfl,rfl⟩⟩
    ·exact ⟨ys,by simpa using hm.symm,.inr rfl,.inr ⟨rfl,rfl⟩⟩
   have tz:Mth.Tn n zs:=by rcases hz with rfl | rfl;exact tx;exact ty
   have hlz:=tz.length
   have go:∀ x,Mth.Rch xs ys x→Mth.Rch xs ys (Mth.app zs x):=fun x h=>by rcases hz with rfl | rfl;exact h.r;exact h.u
   refine Yaa ?_
   intro qhQ hQ
   set_option simprocs false in simp only [wpB]
   refine hQ _ _ (Ybn (G.map D.int) st3.length (fun j δ st4=>∃ (v4:Option D) (G':List Int),δ=[some (flD xs ys),some (.ref st.length),some d,some (.tup (zs.map D.int)),v4]∧st4[st.length]?=some (.lst (G'.map D.int))∧st4[st3.length]?=some (.lst (G.map D.int))∧Mth.Fd xs ys G'∧G <+: G'∧(∀ i',i' < j→∀ x,G[i']?=some x→Mth.app zs x∈G')∧Ex [] st st4) ?_ ?_ ?_ ?_ ?_)
   ·refine Yaa ?_
    intro qhQ hQ
    set_option simprocs false in simp only [wpB,zac hg3]
    exact hQ _ _ ⟨rfl,v4,G,rfl,Xaf hg3,xag,hG,List.prefix_refl _,fun i' h=>absurd h (Nat.not_lt_zero _),k3.app _⟩
   ·rw [List.length_map]
    have:=hG.len tx ty n0
    omega
   ·rintro j δ st4 ⟨_,_,_,_,h,_⟩
    exact zac h
   ·rintro j y0' δ st4 hj0 ⟨v4,G',rfl,hg4,hl4,hG',pG,hd',k4⟩
    obtain ⟨y,hj,rfl⟩:=zbb hj0
    have hjl:=yac hj
    have hR:=hG.mt _ (List.mem_of_getElem? hj)
    obtain ⟨y0,y1⟩:=hR.bound tx ty n0
    have at':=xau (xs:=zs) y0 (by rw [hlz];exact y1)
    have hnext:∀ G'':List Int,G' <+: G''→Mth.app zs y∈G''→∀ i',i' < j + 1→∀ x,G[i']?=some x→Mth.app zs x∈G'':=fun G'' p h i' hi' x hx=>by
     by_cases e:i'=j
     ·subst e
      rw [hj] at hx
      cases hx;exact h
     ·exact p.subset (hd' i' (by omega) x hx)
    refine Yaa ?_
    intro qhQ hQ
    set_option simprocs false in simp only [wpB]
    refine hQ _ _ (ZaG ?_)
    refine Yaa ?_
    intro qhQ2 hQ2
    set_option simprocs false in simp only [wpB,at',zbt (st:=st4) (c:=.ref st.length) (ns:=G') (zac hg4)]
    refine hQ2 _ _ ⟨fun hcn=>?_,fun hcn=>?_⟩
    ·have hnm:Mth.app zs y ∉ G':=fun z=>by rw [List.contains_iff_mem.mpr z] at hcn;cases hcn
     have hG2:Mth.Fd xs ys (G' ++ [Mth.app zs y]):=by
      refine ⟨List.mem_append_left _ hG'.z,?_,fun x hx=>?_⟩
      ·rw [List.nodup_append]
       refine ⟨hG'.nd,by simp,fun x hx y' hy e=>hnm ?_⟩
       have e2:y'=Mth.app zs y:=by simpa using hy
       rw [← e2,← e];exact hx
      ·rcases List.mem_append.mp hx with h | h
       ·exact hG'.mt x h
       ·have e2:x=Mth.app zs y:=by simpa using h
        rw [e2];exact go _ hR
     have hlen2:=hG2.len tx ty n0
     rw [List.length_append] at hlen2
     refine ZaA ?_
     refine Yaa ?_
     intro qhQ3 hQ3
     set_option simprocs false in simp only [wpB,at',Xah hg4]
     refine ⟨Xap (by rw [zac hg4];rfl),xak (by rw [List.length_map];simp at hlen2;omega),hQ3 _ _ ⟨_,G' ++ [Mth.app zs y],rfl,?_,?_,hG2,pG.trans (List.prefix_append _ _),hnext _ (List.prefix_append _ _) (by simp),k4.loc (Nat.le_refl _)⟩⟩
     ·rw [List.getElem?_set_self (yac hg4),List.map_append];rfl
     ·rw [List.getElem?_set_ne (by have:=yac hg3;omega)];exact hl4
    ·have hcn:G'.contains (Mth.app zs y)=true:=by simpa using hcn
     exact Xam ⟨_,G',rfl,hg4,hl4,hG',pG,hnext G' (List.prefix_refl _) (List.contains_iff_mem.mp hcn),k4⟩
   ·rintro δ st4 ⟨v4,G',rfl,hg4,hl4,hG',pG,hd',k4⟩
    rw [List.length_map] at hd'
    have hall:∀ x∈G,Mth.app zs x∈G':=fun x hx=>by
     obtain ⟨i',hi',e⟩:=List.getElem_of_mem hx
     exact hd' i' hi' x (by rw [List.getElem?_eq_getElem hi',e])
    refine ⟨_,_,G',rfl,hg4,hG',fun z=>by omega,fun z=>?_,fun z=>?_,k4⟩
    ·rcases em with ⟨rfl,rfl⟩ | ⟨rfl,_⟩
     ·have:=m0 rfl
      subst this
      exact ⟨pG,hall⟩
     ·omega
    ·rcases em with ⟨rfl,_⟩ | ⟨rfl,rfl⟩
     ·omega
     ·obtain ⟨p1,c1⟩:=m1 rfl
      exact ⟨G,p1,pG,c1,hall⟩
  ·rintro δ st3 ⟨v3,v4,G,rfl,hg3,hG,_,_,m2,k3⟩
   obtain ⟨F1,p1,p2,c1,c2⟩:=m2 (Nat.le_refl 2)
   exact ⟨_,_,_,G,rfl,hg3,hG,Mth.round hF hG p1 p2 c1 c2 hcl,k3⟩
 ·rintro δ st2 ⟨v2,v3,v4,F,rfl,hg2,hF,hcl,k2⟩
  rw [Xab] at hcl
  have hl:=hF.len tx ty n0
  have hc:Mth.Cl xs ys F:=hcl.resolve_right (by omega)
  refine xal ?_
  refine Yaa ?_
  intro qhQ hQ
  set_option simprocs false in simp only [wpB]
  exact hQ _ _ ⟨_,F,rfl,zac hg2,fun x=>⟨hF.mt x,fun h=>hc.all hF.z h⟩,hl,k2⟩
theorem Ya6 {st:Store} {δ:DSt} {X Y:List Int} {n:Nat} {Q:D→Store→Prop} (tX:Mth.Tn n X) (tY:Mth.Tn n Y) (n0:0 < n) (hn:n≤100) (h1:δ[1]?=some (some (.int (n:Int)))) (h6:δ[6]?=some (some (flD X Y)))
  (q:∀ (L:List Int) (st':Store),L.length≤n→L.Nodup→(∀ x,x∈L↔(0≤x∧x < (n:Int)∧¬ Mth.Rch X Y x))→Ex [] st st'→Q (.ref st'.length) (st' ++ [.lst (L.map D.int)])) :
  Wp (fComp (iRng1F (fCons (fVar 1) fNil)) 1 [6] (hName 0) (fTest (fOp (gIn true) (fVar 0) (fCB zat (fCons (fVar 1) fNil)))) (fVar 0) δ st) Q:=by
 have h6':δ.getD 6 none=some (flD X Y):=by rw [List.getD_eq_getElem?_getD,h6];rfl
 refine zba (rangeD 0 n) (fun j zs δ' st8=>∃ (v:Option D) (L:List Int),δ'=[v,some (flD X Y)]∧zs=L.map D.int∧L.length≤j∧L.Nodup∧(∀ x,x∈L↔(0≤x∧x < (j:Int)∧¬ Mth.Rch X Y x))∧Ex [] st st8) ?_ (by rw [Xab];omega) ?_ ?_ ?_
 ·refine Yaa ?_
  intro qhQ hQ
  set_option simprocs false in simp only [wpB,h1]
  refine ⟨by omega,hQ _ _ ⟨fun i ys δ st hi _=>?_,none,[],?_,rfl,Nat.le_refl _,List.nodup_nil,fun x=>⟨(fun h=>nomatch h),fun h=>by omega⟩,Ex.refl⟩⟩
  ·rw [Int.toNat_natCast]
   show (if i≤(rangeD 0 n).length then some (rangeD 0 n)[i]? else none)=_
   rw [if_pos hi]
  ·unfold compD
   simp only [List.map_cons,List.map_nil,h6']
   rfl
 ·rintro j zs δ' st8 ⟨v,L,_,rfl,hl,_⟩
  rw [List.length_map];exact hl
 ·rintro j d zs δ' st8 hd ⟨v,L,rfl,rfl,hll,nd,hL,k8⟩
  have hjl:=yac hd
  rw [Xab] at hjl
  rw [XaH hjl] at hd
  cases hd
  rw [Int.zero_add]
  refine Yaa ?_
  intro qhQ hQ
  set_option simprocs false in simp only [wpB]
  refine hQ _ _ ?_
  refine Yaa ?_
  intro qhQ2 hQ2
  set_option simprocs false in simp only [wpB]
  refine Yab (YbZ (st:=st8) tX tY n0 hn) ?_
  rintro d st9 ⟨g,F,rfl,hg,hF,hFl,k9⟩
  rw [zbt (c:=.ref g) (ns:=F) hg]
  refine ⟨_,rfl,hQ2 _ _ ⟨fun hc=>?_,fun hc=>?_⟩⟩
  ·have hR:¬ Mth.Rch X Y (j:Int):=fun h=>by rw [List.contains_iff_mem.mpr ((hF _).mpr h)] at hc;cases hc
   refine Yaa ?_
   intro qhQ3 hQ3
   set_option simprocs false in simp only [wpB]
   refine hQ3 _ _ ⟨_,L ++ [(j:Int)],rfl,by rw [List.map_append];rfl,by rw [List.length_append];simp;omega,?_,fun x=>?_,k8.trans k9⟩
   ·rw [List.nodup_append]
    refine ⟨nd,by simp,fun x hx y hy e=>?_⟩
    have e2:y=(j:Int):=by simpa using hy
    have:=((hL x).mp hx).2.1
    omega
   ·rw [List.mem_append,hL x]
    constructor
    ·rintro (⟨a1,a2,a3⟩ | h)
     ·exact ⟨a1,by omega,a3⟩
     ·have e2:x=(j:Int):=by simpa using h
      rw [e2];exact ⟨by omega,by omega,hR⟩
    ·rintro ⟨a1,a2,a3⟩
     rcases Int.lt_or_le x (j:Int) with h | h
     ·exact .inl ⟨a1,h,a3⟩
     ·exact .inr (by simp;omega)
  ·have hc:F.contains (j:Int)=true:=by simpa using hc
   have hR:=(hF _).mp (List.contains_iff_mem.mp hc)
   refine ⟨_,L,rfl,rfl,by omega,nd,fun x=>?_,k8.trans k9⟩
   rw [hL x]
   constructor
   ·rintro ⟨a1,a2,a3⟩;exact ⟨a1,by omega,a3⟩
   ·rintro ⟨a1,a2,a3⟩
    refine ⟨a1,?_,a3⟩
    rcases Int.lt_or_le x (j:Int) with h | h
    ·exact h
    ·exact absurd hR (by rw [show (j:Int)=x by omega];exact a3)
 ·rintro zs δ' st8 ⟨v,L,rfl,rfl,hll,nd,hL,k8⟩
  rw [Xab] at hll hL
  exact q L st8 hll nd hL k8
theorem Xbz {st:Store} {f n:Nat} (hf:FeedIs st f) (n1:1≤n) (n20:n≤20):Wp (Yay [.ref f,.int (n:Int)] st) fun d st'=>∃ xs ys:List Int,d=flD xs ys∧IsFl n xs ys∧FeedIs st' f∧Ex [f] st st':=by
 have hfl:=hf.lt
 refine YaA ?_
 show Ws (yaF [some (.ref f),some (.int (n:Int)),none,none,none,none,none,none,none] st) _ _ _ _
 unfold yaF
 refine zad (Xae ?_)
 refine Yaa ?_
 intro qhQ hQ
 set_option simprocs false in simp only [wpB]
 refine Yab (Xar (n:=6) hf (by decide) (by decide)) ?_
 rintro d st1 ⟨form,rfl,g0,g6,f1,k1⟩
 refine hQ _ _ (zad (ZbM ?_))
 clear hQ
 refine Yaa ?_
 intro qhQ hQ
 set_option simprocs false in simp only [wpB]
 refine Yab (yaG (n:=n) f1 (by omega)) ?_
 rintro d st2 ⟨X,rfl,tX,f2,k2⟩
 set_option simprocs false in simp only [wpB]
 refine Yab (yaG (n:=n) (f2.keep (Ex.app0 [.lst (X.map D.int)])) (by omega)) ?_
 rintro d st3 ⟨Y,rfl,tY,f3,k3⟩
 set_option simprocs false in simp only [wpB]
 refine hQ _ _ ⟨_,_,rfl,?_⟩
 clear hQ
 have hr3:st3[st2.length]?=some (.lst (X.map D.int)):=k3.keep _ _ xag (by have:=f2.lt;simp;omega)
 have two:Two st (st3 ++ [.lst (Y.map D.int)]) f st2.length st3.length n X Y:=⟨Xaf hr3,xag,by have:=yac hr3;omega,(k1.trans k2).len,((k1.trans k2).trans ((Ex.app0 _).trans k3)).len,tX,tY,f3.keep (Ex.app0 _),(((k1.trans k2).app _).trans k3).app _⟩
 show Ws _ _ _ _ _
 generalize (st3 ++ [O.lst (Y.map D.int)])=st4 at two ⊢
 generalize st2.length=r at two ⊢
 generalize st3.length=u at two ⊢
 clear hr3 tX tY f3 k3 f2 k2 f1 k1
 refine zad (YaS (N:=fun δ st5=>∃ (r u:Nat) (X Y:List Int),δ=[some (.ref f),some (.int (n:Int)),some (.int form),some (.ref r),some (.ref u),none,none,none,none]∧Two st st5 f r u n X Y) (ZaG ?_) ?_)
 ·refine Yaa ?_
  intro qhQ hQ
  set_option simprocs false in simp only [wpB]
  refine hQ _ _ ⟨fun _=>Xae ?_,fun _=>Xam ⟨r,u,X,Y,rfl,two⟩⟩
  refine Yaa ?_
  intro qhQ2 hQ2
  set_option simprocs false in simp only [wpB]
  rw [← xbO]
  refine ⟨ZaO (by omega),rfl,xak (by rw [Xab];simp;omega),hQ2 _ _ ⟨_,u,_,Y,rfl,(two.keep (((Ex.app0 _).app _).app _)).setR (Mth.xbr (show n < 21 by omega) (by omega))⟩⟩
 rintro δ st5 ⟨r,u,X,Y,rfl,two⟩
 refine zad (YaS (N:=fun δ st5=>∃ (r u:Nat) (X Y:List Int),δ=[some (.ref f),some (.int (n:Int)),some (.int form),some (.ref r),some (.ref u),none,none,none,none]∧Two st st5 f r u n X Y) (ZaG ?_) ?_)
 ·refine Yaa ?_
  intro qhQ hQ
  set_option simprocs false in simp only [wpB]
  refine hQ _ _ ⟨fun _=>ZbM ?_,fun _=>Xam ⟨r,u,X,Y,rfl,two⟩⟩
  refine Yaa ?_
  intro qhQ2 hQ2
  set_option simprocs false in simp only [wpB]
  rw [← xbO,show ((n:Int) - 0).toNat=n by omega,yag]
  refine ⟨ZaO (by omega),ZaO (by omega),rfl,xak (by rw [Xab];simp;omega),hQ2 _ _ ⟨_,_,rfl,_,_,_,_,rfl,(((two.keep (Ex.app0 [.rng 0 (n:Int)])).setR (Z:=Mth.upto n) (List.Perm.refl _)).keep (((Ex.app0 _).app _).app _)).setU (Mth.xbr (show n < 21 by omega) (by omega))⟩⟩
 rintro δ st6 ⟨r,u,X,Y,rfl,two⟩
 refine zad (YaS (N:=fun δ st5=>∃ (r u:Nat) (v5:Option D) (X Y:List Int),δ=[some (.ref f),some (.int (n:Int)),some (.int form),some (.ref r),some (.ref u),v5,none,none,none]∧Two st st5 f r u n X Y) (ZaG ?_) ?_)
 ·refine Yaa ?_
  intro qhQ hQ
  set_option simprocs false in simp only [wpB]
  refine hQ _ _ ⟨fun _=>zad (Xae ?_),fun _=>Xam ⟨r,u,none,X,Y,rfl,two⟩⟩
  refine Yaa ?_
  intro qhQ2 hQ2
  set_option simprocs false in simp only [wpB]
  refine Yab (Xar (n:=(n:Int)) two.fd (by omega) (by omega)) ?_
  rintro d st7 ⟨w,rfl,w0,w1,f7,k7⟩
  obtain ⟨wd,rfl⟩:∃ wd:Nat,w=(wd:Int) - 1:=⟨(w + 1).toNat,by omega⟩
  have t7:Two st st7 f r u n X Y:=⟨k7.keep _ _ two.hr (by have:=two.r0;simp;omega),k7.keep _ _ two.hu (by have:=two.u0;simp;omega),two.ne,two.r0,two.u0,two.tX,two.tY,f7,two.ex.trans k7⟩
  set_option simprocs false in simp only [wpB]
  rw [show (1:Int) + ((wd:Int) - 1)=(wd:Int) by omega]
  refine hQ2 _ _ (zad (Xae ?_))
  clear hQ2 hQ
  refine Yaa ?_
  intro qhQ2 hQ2
  set_option simprocs false in simp only [wpB]
  rw [← rowR_D]
  refine ⟨ZaO (by omega),rfl,xak (by rw [Xab];simp;omega),ZaO (by omega),xak (by rw [List.length_append,Xab,Xab];simp;omega),hQ2 _ _ (zad (Xae ?_))⟩
  clear hQ2
  have t8:=(t7.keep ((((((Ex.app0 [.rng 1 (wd:Int)]).app [.lst (rangeD 1 ((wd:Int) - 1).toNat)]).app [.lst [.int 0]]).app [.lst (rangeD 1 ((wd:Int) - 1).toNat ++ [.int 0])]).app [.rng (wd:Int) (n:Int)]).app [.lst (rangeD (wd:Int) ((n:Int) - (wd:Int)).toNat)])).setR (Mth.yb8 (w:=wd) (show n < 21 by omega) (by omega) (by omega))
  generalize hst8:(st7 ++ _ ++ _ ++ _ ++ _ ++ _ ++ _ ++ _:Store)=st8 at t8 ⊢
  generalize List.length _=r8 at t8 ⊢
  refine Yaa ?_
  intro qhQ2 hQ2
  set_option simprocs false in simp only [wpB]
  refine ⟨rfl,ZaO (by omega),xak (by simp [Xab];omega),ZaO (by omega),xak (by simp [Xab];omega),rfl,xak (by simp [Xab];omega),hQ2 _ _ (ZaG ?_)⟩
  clear hQ2
  generalize hsE:(st8 ++ _ ++ _ ++ _ ++ _ ++ _ ++ _ ++ _ ++ _ ++ _:Store)=stE
  have tE:Two st stE f r8 u n (Mth.rowR wd n) Y:=by rw [← hsE];exact t8.keep (((((((((Ex.app0 _).app _).app _).app _).app _).app _).app _).app _).app _)
  refine Yaa ?_
  intro qhQ hQ
  set_option simprocs false in simp only [wpB]
  refine hQ _ _ ⟨fun hw=>?_,fun hw=>?_⟩
  ·refine Xae ?_
   refine Yaa ?_
   intro qhQ2 hQ2
   set_option simprocs false in simp only [wpB]
   rw [show ((n:Int) - 0).toNat=n by omega,yag]
   exact ⟨ZaO (by omega),hQ2 _ _ ⟨r8,_,_,_,_,rfl,(tE.keep ((Ex.app0 _).app _)).setU (List.Perm.refl _)⟩⟩
  ·have hne:wd≠n:=fun z=>by simp [z] at hw
   have tF:=tE.setU (Mth.Zb8 (w:=wd) (show n < 21 by omega) (by omega) (by omega))
   rw [colU_D (by omega) (by omega)] at tF
   exact Xam ⟨r8,_,_,_,_,rfl,tF⟩
 rintro δ st7 ⟨r,u,v5,X,Y,rfl,two⟩
 have n0:0 < n:=by omega
 refine zad (Xae ?_)
 refine Yaa ?_
 intro qhQ hQ
 set_option simprocs false in simp only [wpB,zac two.hr,zac two.hu]
 refine ⟨rfl,hQ _ _ (zad (Xae (Ya6 (X:=X) (Y:=Y) two.tX two.tY n0 (by omega) rfl rfl ?_)))⟩
 clear hQ
 intro L st8 hll nd hL k8
 have t8:=(two.keep k8).keep (Ex.app0 [.lst (L.map D.int)])
 refine zad (ZaK (fun mm δ st9=>∃ (pa:Nat) (X L:List Int) (v8:Option D),mm=L.length∧δ=[some (.ref f),some (.int (n:Int)),some (.int form),some (.ref r),some (.ref u),v5,some (flD X Y),some (.ref pa),v8]∧Two st st9 f r u n X Y∧items st9 pa=some (L.map D.int)∧L.length≤n∧L.Nodup∧(∀ x,x∈L↔(0≤x∧x < (n:Int)∧¬ Mth.Rch X Y x))) L.length (Nat.lt_of_le_of_lt hll (Nat.lt_of_le_of_lt n20 (by decide))) ⟨_,X,L,none,rfl,rfl,t8,zah,hll,nd,hL⟩ ?_)
 rintro mm δ st9 ⟨pa,X,L,v8,rfl,rfl,two,hpa,hll,nd,hL⟩
 have hlX:=two.tX.length
 have hpa2:items (st9 ++ [O.lst []]) pa=some (L.map D.int):=by
  unfold items at hpa ⊢
  cases e:st9[pa]? with
  | none=>rw [e] at hpa;cases hpa
  | some o=>rw [Xaf e];rw [e] at hpa;exact hpa
 refine Yaa ?_
 intro qhQ hQ
 set_option simprocs false in simp only [wpB,ybO (L:=L) (M:=[]) (st:=st9 ++ [O.lst []]) hpa2 zah]
 refine ⟨rfl,hQ _ _ ⟨fun h=>?_,fun h=>?_⟩⟩
 ·have hne:L≠[]:=by simpa using h
  clear hQ
  obtain ⟨m,L1,rfl⟩:∃ m L1,L=m :: L1:=by cases L with | nil=>exact absurd rfl hne | cons m L1=>exact ⟨m,L1,rfl⟩
  obtain ⟨m0,m1,mR⟩:=(hL m).mp List.mem_cons_self
  have t2:=two.keep (Ex.app0 [O.lst []])
  generalize (st9 ++ [O.lst []])=stE at hpa2 t2 ⊢
  refine zad (Xae ?_)
  refine Yaa ?_
  intro qhQ hQ
  set_option simprocs false in simp only [wpB,hpa2,List.map_cons]
  refine hQ _ _ (zad (YaR ?_))
  clear hQ
  refine Yaa ?_
  intro qhQ hQ
  set_option simprocs false in simp only [wpB,zac t2.hr,xau (xs:=X) m0 (by omega),xau (xs:=X) (i:=0) (by decide) (by omega)]
  refine ⟨rfl,hQ _ _ ?_⟩
  clear hQ
  have i0:ixN (X.map D.int).length 0=some 0:=Xa7 (j:=0) (by rw [List.length_map];omega)
  have im:ixN ((X.map D.int).set 0 (.int (Mth.app X m))).length m=some m.toNat:=by
   rw [List.length_set]
   have:=Xa7 (n:=(X.map D.int).length) (j:=m.toNat) (by rw [List.length_map];omega)
   rwa [Int.toNat_of_nonneg m0] at this
  have hr3:(stE.set r (.lst ((X.map D.int).set 0 (.int (Mth.app X m)))))[r]?=some (.lst ((X.map D.int).set 0 (.int (Mth.app X m)))):=List.getElem?_set_self (yac t2.hr)
  have eS:((X.map D.int).set 0 (.int (Mth.app X m))).set m.toNat (.int (Mth.app X 0))=(Mth.swp X m.toNat).map D.int:=by
   unfold Mth.swp
   rw [Int.toNat_of_nonneg m0,List.map_set,List.map_set]
  refine Yaa ?_
  intro qhQ hQ
  set_option simprocs false in simp only [wpB,Xah t2.hr,Xah hr3,i0,im,eS]
  refine ⟨rfl,hQ _ _ (zad (Xae ?_))⟩
  clear hQ
  have tS:=Mth.swp_tn t2.tX (m:=m.toNat) (by omega)
  have hmet:=Mth.xb7 t2.tX t2.tY (m:=m.toNat) (by omega) (by rw [Int.toNat_of_nonneg m0];exact mR)
  rw [Int.toNat_of_nonneg m0] at hmet
  rw [List.set_set]
  have t3:=t2.put (Z:=Mth.swp X m.toNat) tS hfl
  generalize stE.set r _=st3 at t3 ⊢
  refine Yaa ?_
  intro qhQ hQ
  set_option simprocs false in simp only [wpB,zac t3.hr,zac t3.hu]
  refine ⟨rfl,hQ _ _ (Xae (Ya6 (X:=Mth.swp X m.toNat) (Y:=Y) t3.tX t3.tY n0 (by omega) rfl rfl ?_))⟩
  intro L' st4 hll' nd' hL' k4
  refine ⟨_,?_,st4.length,Mth.swp X m.toNat,L',_,rfl,rfl,(t3.keep k4).keep (Ex.app0 _),zah,hll',nd',hL'⟩
  refine Mth.less (m:=m) nd' (fun x hx=>?_) List.mem_cons_self (fun h=>((hL' m).mp h).2.2 hmet.1)
  obtain ⟨a1,a2,a3⟩:=(hL' x).mp hx
  exact (hL x).mpr ⟨a1,a2,fun h=>a3 (hmet.2 x h)⟩
 ·have he:L=[]:=by simpa using h
  subst he
  refine xal ?_
  refine Yaa ?_
  intro qhQ2 hQ2
  set_option simprocs false in simp only [wpB]
  have t2:=two.keep (Ex.app0 [O.lst []])
  refine hQ2 _ _ ⟨X,Y,rfl,⟨t2.tX,t2.tY,fun x x0 x1=>?_⟩,t2.fd,t2.ex⟩
  exact Classical.byContradiction fun h=>nomatch (hL x).mpr ⟨x0,x1,h⟩
theorem Zbk {st:Store} {xs:List Int} {n:Nat} (tn:Mth.Tn n xs) (hn:n≤100):Wp (yan [.tup (xs.map D.int)] st) fun d st'=>d=.tup ((Mth.inv xs).map D.int)∧Ex [] st st':=by
 have hlen:=tn.length
 refine YaA ?_
 show Ws (zaC [some (.tup (xs.map D.int)),none,none,none] st) _ _ _ _
 unfold zaC
 refine zad (Xae ?_)
 refine Yaa ?_
 intro qhQ hQ
 set_option simprocs false in simp only [wpB]
 have e0:(((xs.map D.int).length:Int)).toNat=n:=by rw [List.length_map];omega
 have ez:(List.replicate n [D.int 0]).flatten=(List.replicate n (0:Int)).map D.int:=by
  induction n with
  | zero=>rfl
  | succ n ih=>simp [List.replicate_succ]
 rw [e0,ez]
 refine ⟨rfl,by rw [List.length_map];omega,xak (by simp;omega),hQ _ _ (zad (xaR (enumD (xs.map D.int)) (fun k δ st2=>∃ (v2 v3:Option D) (bs:List Int),δ=[some (.tup (xs.map D.int)),some (.ref (st ++ [O.lst [D.int 0]]).length),v2,v3]∧st2[(st ++ [O.lst [D.int 0]]).length]?=some (.lst (bs.map D.int))∧bs.length=n∧(∀ j,j < k→∀ x,xs[j]?=some x→bs[x.toNat]?=some (j:Int))∧Ex [] st st2) ?_ ?_ ?_ ?_))⟩
 ·refine Yaa ?_
  intro qhQ hQ
  set_option simprocs false in simp only [wpB]
  exact hQ _ _ ⟨rfl,none,none,_,rfl,xag,by simp,fun j hj=>absurd hj (Nat.not_lt_zero _),(Ex.app0 _).app _⟩
 ·rw [yaO,List.length_map];omega
 ·have hB0:st.length≤(st ++ [O.lst [D.int 0]]).length:=by simp
  generalize (st ++ [O.lst [D.int 0]]).length=B at hB0 ⊢
  rintro k d δ st2 hd ⟨v2,v3,bs,rfl,hB,hbl,hbs,k2⟩
  obtain ⟨d',hd',rfl⟩:=ybi hd
  obtain ⟨x,hx,rfl⟩:=zbb hd'
  obtain ⟨x0,x1⟩:=tn.bound (List.mem_of_getElem? hx)
  have hkl:=yac hx
  refine Yaa ?_
  intro qhQ hQ
  set_option simprocs false in simp only [wpB]
  refine ⟨rfl,hQ _ _ (YaR ?_)⟩
  have hix:ixN (bs.map D.int).length x=some x.toNat:=by
   have:=Xa7 (n:=(bs.map D.int).length) (j:=x.toNat) (by rw [List.length_map];omega)
   rwa [Int.toNat_of_nonneg x0] at this
  have es:(bs.map D.int).set x.toNat (.int (k:Int))=(bs.set x.toNat (k:Int)).map D.int:=by rw [List.map_set]
  refine Yaa ?_
  intro qhQ2 hQ2
  set_option simprocs false in simp only [wpB]
  refine hQ2 _ _ ?_
  refine Yaa ?_
  intro qhQ3 hQ3
  set_option simprocs false in simp only [wpB,Xah hB,hix,es]
  refine hQ3 _ _ ⟨_,_,bs.set x.toNat (k:Int),rfl,List.getElem?_set_self (yac hB),by rw [List.length_set];exact hbl,fun j hj y hy=>?_,k2.loc hB0⟩
  by_cases hjk:j=k
  ·subst hjk
   rw [hx] at hy
   cases hy
   rw [List.getElem?_set_self (by rw [hbl];omega)]
  ·obtain ⟨y0,y1⟩:=tn.bound (List.mem_of_getElem? hy)
   rw [List.getElem?_set_ne (fun z=>?_)]
   ·exact hbs j (by omega) y hy
   ·obtain ⟨h1,e1⟩:=List.getElem?_eq_some_iff.mp hx
    obtain ⟨h2,e2⟩:=List.getElem?_eq_some_iff.mp hy
    exact hjk ((List.getElem_inj tn.nodup).mp (show xs[j]=xs[k] by omega))
 ·rintro δ st2 ⟨v2,v3,bs,rfl,hB,hbl,hbs,k2⟩
  rw [yaO,List.length_map] at hbs
  have eb:bs=Mth.inv xs:=by
   apply List.ext_getElem?
   intro i
   by_cases hi:i < n
   ·have hm:=tn.mem (i:=(i:Int)) (by omega) (by omega)
    have hil:=List.idxOf_lt_length_of_mem hm
    have:=hbs (xs.idxOf (i:Int)) hil (i:Int) (by rw [List.getElem?_eq_getElem hil];exact congrArg some (List.getElem_idxOf hil))
    rw [Int.toNat_natCast] at this
    rw [this]
    have ea:=Mth.Yao (xs:=Mth.inv xs) (i:=(i:Int)) (by omega) (by rw [Mth.XaC];omega)
    rw [Int.toNat_natCast,Mth.ya0 (by omega) (by omega)] at ea
    exact ea.symm
   ·rw [List.getElem?_eq_none (by omega),List.getElem?_eq_none (by rw [Mth.XaC];omega)]
  subst eb
  refine xal ?_
  refine Yaa ?_
  intro qhQ hQ
  set_option simprocs false in simp only [wpB,zac hB]
  exact hQ _ _ ⟨rfl,k2⟩
theorem XaL {st:Store} {xs ys:List Int} (hb:∀ x∈xs,0≤x∧x < (ys.length:Int)) (hn:xs.length≤100):Wp (yaq [.tup (xs.map D.int),.tup (ys.map D.int)] st) fun d st'=>d=.tup ((Mth.fol xs ys).map D.int)∧Ex [] st st':=by
 refine YaA ?_
 show Ws (yaQ [some (.tup (xs.map D.int)),some (.tup (ys.map D.int))] st) _ _ _ _
 unfold yaQ
 refine xal ?_
 refine Yaa ?_
 intro qhQ hQ
 set_option simprocs false in simp only [wpB]
 refine yaj (xs.map D.int) (fun d=>.int (Mth.app ys (inD d))) ?_ (by rw [List.length_map];omega) ?_ ?_
 ·refine Yaa ?_
  intro qhQ2 hQ2
  set_option simprocs false in simp only [wpB]
  exact hQ2 _ _ ⟨Xan _ _,Ex.refl⟩
 ·intro d hd st1 k1
  obtain ⟨x,hx,rfl⟩:=zaq hd
  obtain ⟨x0,x1⟩:=hb x hx
  refine Yaa ?_
  intro qhQ2 hQ2
  set_option simprocs false in simp only [wpB,List.map_cons,List.map_nil,List.getD_cons_succ,List.getD_cons_zero,xau (xs:=ys) x0 x1]
  exact hQ2 _ _ ⟨rfl,Ex.refl⟩
 ·intro st' k'
  rw [YaG (f:=Mth.app ys) fun x hx=>rfl]
  set_option simprocs false in simp only [wpB]
  exact hQ _ _ ⟨rfl,k'.app _⟩
theorem XaO {st:Store} {Q:D→Store→Prop} {xs:List Int} {v:Int} (h:v∈xs):Wp (gIndex (.tup (xs.map D.int)) [.int v] st) Q↔Q (.int (xs.idxOf v:Int)) st:=by
 rw [Xbs]
 constructor
 ·rintro ⟨ns,j,h1,h2,q⟩
  rw [xbn] at h1
  cases h1
  rw [ybt h] at h2
  cases h2
  exact q
 ·intro q
  exact ⟨xs,_,xbn xs,ybt h,q⟩
theorem yaX {st:Store} {xs ys p:List Int} {n:Nat} (tx:Mth.Tn n xs) (ty:Mth.Tn n ys) (tp:Mth.Tn n p) (hn:n≤100):Wp (Xao [flD xs ys,.tup (p.map D.int)] st) fun d st'=>d=flD (Mth.anew xs p) (Mth.anew ys p)∧Ex [] st st':=by
 have hlp:=tp.length
 refine YaA ?_
 show Ws (XaK [some (flD xs ys),some (.tup (p.map D.int))] st) _ _ _ _
 unfold XaK flD
 refine xal ?_
 refine Yaa ?_
 intro qhQ hQ
 set_option simprocs false in simp only [wpB]
 refine yaj [.tup (xs.map D.int),.tup (ys.map D.int)] (fun d=>match d with | .tup ds=>.tup ((Mth.anew (ds.map inD) p).map D.int) | _=>.non) ?_ (by simp) ?_ ?_
 ·refine Yaa ?_
  intro qhQ2 hQ2
  set_option simprocs false in simp only [wpB]
  exact hQ2 _ _ ⟨Xan _ _,Ex.refl⟩
 ·intro d hd st1 k1
  obtain ⟨zs,rfl,tz⟩:∃ zs:List Int,d=.tup (zs.map D.int)∧Mth.Tn n zs:=by
   rcases List.mem_cons.mp hd with rfl | hd
   ·exact ⟨xs,rfl,tx⟩
   ·exact ⟨ys,List.mem_singleton.mp hd,ty⟩
  have hlz:=tz.length
  refine Yaa ?_
  intro qhQ2 hQ2
  set_option simprocs false in simp only [wpB,List.map_cons,List.map_nil,List.getD_cons_succ,List.getD_cons_zero]
  refine yaj (rangeD 0 n) (fun d=>.int (Mth.app p (Mth.app zs (p.idxOf (inD d):Int)))) ?_ (by rw [Xab];omega) ?_ ?_
  ·refine Yaa ?_
   intro qhQ3 hQ3
   set_option simprocs false in simp only [wpB]
   rw [List.length_map,hlp]
   exact ⟨by omega,hQ3 _ _ ⟨by rw [Int.toNat_natCast];exact Xan _ _,Ex.refl⟩⟩
  ·intro d hd st2 k2
   rw [yag] at hd
   obtain ⟨x,hx,rfl⟩:=zaq hd
   obtain ⟨x0,x1⟩:=Mth.yah.mp hx
   have hm:=tp.mem x0 x1
   have hi:=tp.idx x0 x1
   obtain ⟨a0,a1⟩:=tz.app (i:=(p.idxOf x:Int)) (by omega) (by omega)
   refine Yaa ?_
   intro qhQ3 hQ3
   set_option simprocs false in simp only [wpB,List.map_cons,List.map_nil,List.getD_cons_succ,List.getD_cons_zero,Zba,XaO hm,xau (xs:=zs) (i:=(p.idxOf x:Int)) (by omega) (by omega),xau (xs:=p) a0 (by omega)]
   exact hQ3 _ _ ⟨rfl,Ex.refl⟩
  ·intro st' k'
   have e:(rangeD 0 n).map (fun d=>D.int (Mth.app p (Mth.app zs (p.idxOf (inD d):Int))))=(Mth.anew zs p).map D.int:=by
    rw [yag,YaG (f:=fun x=>Mth.app p (Mth.app zs (p.idxOf x:Int))) fun x hx=>rfl]
    congr 1
    unfold Mth.anew Mth.fol Mth.inv
    rw [List.map_map,List.map_map,hlp]
    rfl
   rw [e]
   set_option simprocs false in simp only [wpB]
   refine hQ2 _ _ ⟨?_,k'.app _⟩
   show D.tup _=D.tup ((Mth.anew ((zs.map D.int).map inD) p).map D.int)
   rw [List.map_map]
   congr 3
   exact (List.map_id zs).symm
 ·intro st' k'
  set_option simprocs false in simp only [wpB]
  refine hQ _ _ ⟨?_,k'.app _⟩
  have e:∀ zs:List Int,(zs.map D.int).map inD=zs:=fun zs=>by rw [List.map_map];exact List.map_id zs
  simp only [List.map_cons,List.map_nil,e]
theorem Ybk {st:Store} {xs:List Int} {n:Nat} {i:Int} (tn:Mth.Tn n xs) (hn:n≤100) (i0:0≤i) (i1:i < (n:Int)):Wp (zap [.tup (xs.map D.int),.int i] st) fun d st'=>∃ r:List Int,d=.tup (r.map D.int)∧Mth.IsRing xs i r∧Ex [] st st':=by
 have hlen:=tn.length
 refine YaA ?_
 show Ws (yaL [some (.tup (xs.map D.int)),some (.int i),none,none] st) _ _ _ _
 unfold yaL
 refine zad (Xae ?_)
 refine Yaa ?_
 intro qhQ hQ
 set_option simprocs false in simp only [wpB]
 refine ⟨rfl,hQ _ _ (zad (Xae ?_))⟩
 clear hQ
 refine Yaa ?_
 intro qhQ hQ
 set_option simprocs false in simp only [wpB,xau (xs:=xs) i0 (by omega)]
 refine hQ _ _ (zad (ZaK (fun m δ st2=>∃ k:Nat,m=n - (k + 1)∧δ=[some (.tup (xs.map D.int)),some (.int i),some (.ref st.length),some (.int (Mth.itr xs i (k + 1)))]∧st2[st.length]?=some (.lst ((Mth.row xs i k).map D.int))∧Mth.NB xs i k∧Ex [] st st2) (n - 1) (Nat.lt_of_le_of_lt (show n - 1≤100 by omega) (by decide)) ⟨0,rfl,rfl,xag,fun j h1 h2=>by omega,Ex.app0 _⟩ ?_))
 clear hQ
 rintro m δ st2 ⟨k,rfl,rfl,hL,nb,k2⟩
 have hrl:=tn.row_le i0 i1 nb
 refine Yaa ?_
 intro qhQ hQ
 set_option simprocs false in simp only [wpB]
 refine hQ _ _ ⟨fun hb=>?_,fun hb=>?_⟩
 ·have hb:Mth.itr xs i (k + 1)≠i:=by simpa using hb
  have nb':Mth.NB xs i (k + 1):=fun j h1 h2=>by
   by_cases hj:j≤k
   ·exact nb j h1 hj
   ·have:j=k + 1:=by omega
    rw [this];exact hb
  have hle:=tn.row_le i0 i1 nb'
  have hit:=tn.itr i0 i1 (k + 1)
  refine zad (ZaA ?_)
  refine Yaa ?_
  intro qhQ2 hQ2
  set_option simprocs false in simp only [wpB,Xah hL]
  refine ⟨Xap (by rw [zac hL];rfl),xak (by rw [List.length_map,Mth.Yas];omega),hQ2 _ _ (Xae ?_)⟩
  clear hQ2
  refine Yaa ?_
  intro qhQ2 hQ2
  set_option simprocs false in simp only [wpB,xau (xs:=xs) hit.1 (by omega)]
  refine hQ2 _ _ ⟨n - (k + 1 + 1),by omega,k + 1,rfl,rfl,?_,nb',k2.loc (Nat.le_refl _)⟩
  rw [List.getElem?_set_self (yac hL),Mth.xa8,List.map_append];rfl
 ·have hb:Mth.itr xs i (k + 1)=i:=by simpa using hb
  refine xal ?_
  refine Yaa ?_
  intro qhQ2 hQ2
  set_option simprocs false in simp only [wpB,zac hL]
  exact hQ2 _ _ ⟨_,rfl,⟨k,rfl,nb,hb⟩,k2⟩
theorem zbA {st:Store} {xs:List Int} {n:Nat} (tn:Mth.Tn n xs) (hn:n≤100):Wp (ZaI [.tup (xs.map D.int)] st) fun d st'=>∃ rs:List (List Int),d=tts rs∧Mth.Rgs xs (Mth.upto n) rs∧(∀ r∈rs,r.length≤n∧∀ x∈r,0≤x∧x < (n:Int))∧rs.length≤n∧Ex [] st st':=by
 have hlen:=tn.length
 refine YaA ?_
 show Ws (zaQ [some (.tup (xs.map D.int)),none,none,none,none,none] st) _ _ _ _
 unfold zaQ
 refine zad (Xae ?_)
 refine Yaa ?_
 intro qhQ hQ
 set_option simprocs false in simp only [wpB]
 refine ⟨rfl,hQ _ _ (zad (Xae ?_))⟩
 clear hQ
 refine Yaa ?_
 intro qhQ hQ
 set_option simprocs false in simp only [wpB]
 have eS:(st ++ [O.lst []]).length=st.length + 1:=by simp
 rw [eS]
 refine hQ _ _ (zad (xaR (rangeD 0 n) (fun k δ st2=>∃ (v3 v4 v5:Option D) (rs:List (List Int)) (kvs:List (Key×D)),δ=[some (.tup (xs.map D.int)),some (.ref st.length),some (.ref (st.length + 1)),v3,v4,v5]∧st2[st.length]?=some (.lst (rs.map fun r=>.tup (r.map D.int)))∧st2[st.length + 1]?=some (.dct kvs) ∧
   (∀ rest,Mth.Rgs xs (Mth.from' n k (fun x=>(valD kvs (Sum.inl x:Key)).isSome)) rest→Mth.Rgs xs (Mth.upto n) (rs ++ rest))∧(∀ r∈rs,r.length≤n∧∀ x∈r,0≤x∧x < (n:Int))∧rs.length≤k∧kvs.length≤k * n∧Ex [] st st2) ?_ (by rw [Xab];omega) ?_ ?_))
 ·clear hQ
  refine Yaa ?_
  intro qhQ hQ
  set_option simprocs false in simp only [wpB]
  rw [List.length_map,hlen]
  refine ⟨by omega,hQ _ _ ⟨by rw [Int.toNat_natCast],none,none,none,[],[],rfl,Xaf xag,by rw [← eS];exact xag,fun rest hrest=>?_,(fun r hr=>nomatch hr),Nat.le_refl _,Nat.zero_le _,(Ex.app0 _).app _⟩⟩
  have e:Mth.from' n 0 (fun x=>(valD ([]:List (Key×D)) (Sum.inl x:Key)).isSome)=Mth.upto n:=Mth.xbg n
  rw [e] at hrest
  exact hrest
 ·rintro k d δ st2 hd ⟨v3,v4,v5,rs,kvs,rfl,hR2,hS2,hrg,hb,hrl,hkl,k2⟩
  have hk:=yac hd
  rw [Xab] at hk
  rw [XaH hk,Int.zero_add] at hd
  cases hd
  have hkn:k * n≤10000:=Nat.le_trans (Nat.mul_le_mul (show k≤100 by omega) hn) (by decide)
  clear hQ
  refine Yaa ?_
  intro qhQ hQ
  set_option simprocs false in simp only [wpB]
  refine hQ _ _ (ZaG ?_)
  clear hQ
  refine Yaa ?_
  intro qhQ hQ
  set_option simprocs false in simp only [wpB,Zbt hS2,Ybi]
  have hfs:=Mth.Ybg hk (fun x=>(valD kvs (Sum.inl x:Key)).isSome)
  refine hQ _ _ ⟨fun hs=>?_,fun hs=>?_⟩
  ·have hsn:(valD kvs (Sum.inl (k:Int):Key)).isSome=false:=by simpa using hs
   simp only [hsn,Bool.false_eq_true,if_false] at hfs
   clear hQ
   refine zad (Xae ?_)
   refine Yaa ?_
   intro qhQ hQ
   set_option simprocs false in simp only [wpB]
   refine Yab (Ybk tn hn (i:=(k:Int)) (by omega) (by omega)) ?_
   rintro d st3 ⟨r,rfl,hring,k3⟩
   refine hQ _ _ (zad (ZaA ?_))
   clear hQ
   have hR3:=k3.keep _ _ hR2 (by simp)
   have hS3:=k3.keep _ _ hS2 (by simp)
   have hrl':=hring.len tn (by omega) (by omega)
   have hrb:=hring.bound tn (by omega) (by omega)
   refine Yaa ?_
   intro qhQ hQ
   set_option simprocs false in simp only [wpB,Xah hR3]
   refine ⟨Xap (by rw [zac hR3];rfl),xak (by rw [List.length_map];omega),hQ _ _ ?_⟩
   clear hQ
   refine xaR (r.map D.int) (fun j δ st5=>∃ (v5:Option D) (kvs':List (Key×D)),δ=[some (.tup (xs.map D.int)),some (.ref st.length),some (.ref (st.length + 1)),some (.int (k:Int)),some (.tup (r.map D.int)),v5]∧st5[st.length]?=some (.lst ((rs ++ [r]).map fun r=>.tup (r.map D.int)))∧st5[st.length + 1]?=some (.dct kvs') ∧
     (∀ x:Int,(valD kvs' (Sum.inl x:Key)).isSome=((valD kvs (Sum.inl x:Key)).isSome || (r.take j).contains x))∧kvs'.length≤kvs.length + j∧Ex [] st st5) ?_ (by rw [List.length_map];omega) ?_ ?_
   ·refine Yaa ?_
    intro qhQ hQ
    set_option simprocs false in simp only [wpB]
    refine hQ _ _ ⟨rfl,v5,kvs,rfl,?_,?_,fun x=>by simp,by omega,(k2.trans k3).loc (Nat.le_refl _)⟩
    ·rw [List.getElem?_set_self (yac hR3),List.map_append];rfl
    ·rw [List.getElem?_set_ne (by omega)];exact hS3
   ·rintro j y δ st5 hj ⟨v5,kvs',rfl,hR5,hS5,hv5,hl5,k5⟩
    obtain ⟨x,hx,rfl⟩:=zbb hj
    obtain ⟨hjl,ex⟩:=List.getElem?_eq_some_iff.mp hx
    subst ex
    refine Yaa ?_
    intro qhQ hQ
    set_option simprocs false in simp only [wpB]
    refine hQ _ _ (Xcc ?_)
    clear hQ
    refine Yaa ?_
    intro qhQ hQ
    set_option simprocs false in simp only [wpB]
    refine hQ _ _ ?_
    refine Yaa ?_
    intro qhQ2 hQ2
    set_option simprocs false in simp only [wpB]
    refine hQ2 _ _ ?_
    refine Yaa ?_
    intro qhQ3 hQ3
    set_option simprocs false in simp only [wpB]
    refine hQ3 _ _ ⟨_,kvs',_,rfl,Zbt hS5,Ybi _,xak (by omega),_,_,rfl,?_,List.getElem?_set_self (yac hS5),fun x=>?_,?_,k5.loc (by omega)⟩
    ·rw [List.getElem?_set_ne (by omega)];exact hR5
    ·rw [ZbY,Za3 hjl]
     by_cases hx:x=r[j]
     ·subst hx;simp
     ·rw [if_neg (by intro z;exact hx (Sum.inl.inj z)),hv5 x]
      have:(x == r[j])=false:=beq_eq_false_iff_ne.mpr hx
      rw [this,Bool.or_false]
    ·have:=Zbo kvs' (Sum.inl r[j]:Key) (.bl true);omega
   ·rintro δ st5 ⟨v5,kvs',rfl,hR5,hS5,hv5,hl5,k5⟩
    rw [List.length_map] at hl5 hv5
    refine ⟨_,_,_,rs ++ [r],kvs',rfl,hR5,hS5,fun rest hrest=>?_,fun r' hr'=>?_,by rw [List.length_append];simp;omega,by rw [Nat.succ_mul];omega,k5⟩
    ·have e:(fun x=>(valD kvs' (Sum.inl x:Key)).isSome)=fun x=>((valD kvs (Sum.inl x:Key)).isSome || r.contains x):=by
      funext x;rw [hv5 x,List.take_length]
     rw [e,← Mth.Ybr] at hrest
     rw [List.append_assoc]
     refine hrg _ ?_
     rw [hfs]
     refine .cons hring ?_
     have e2:Mth.out ((k:Int) :: Mth.from' n (k + 1) (fun x=>(valD kvs (Sum.inl x:Key)).isSome)) r=Mth.out (Mth.from' n (k + 1) (fun x=>(valD kvs (Sum.inl x:Key)).isSome)) r:=by
      unfold Mth.out
      rw [List.filter_cons,if_neg (by simp [hring.mem])]
     rw [e2]
     exact hrest
    ·rcases List.mem_append.mp hr' with h | h
     ·exact hb r' h
     ·have:r'=r:=by simpa using h
      subst this
      exact ⟨hrl',hrb⟩
  ·have hsn:(valD kvs (Sum.inl (k:Int):Key)).isSome=true:=by simpa using hs
   simp only [hsn,if_true] at hfs
   exact Xam ⟨_,_,_,rs,kvs,rfl,hR2,hS2,fun rest hrest=>hrg rest (by rw [hfs];exact hrest),hb,by omega,by rw [Nat.succ_mul];omega,k2⟩
 ·rintro δ st2 ⟨v3,v4,v5,rs,kvs,rfl,hR2,hS2,hrg,hb,hrl,hkl,k2⟩
  rw [Xab] at hrg hrl
  refine xal ?_
  clear hQ
  refine Yaa ?_
  intro qhQ hQ
  set_option simprocs false in simp only [wpB,zac hR2]
  refine hQ _ _ ⟨rs,rfl,?_,hb,hrl,k2⟩
  have:=hrg [] (by rw [Mth.Zbr];exact .nil)
  rwa [List.append_nil] at this
theorem ybA {st:Store} {f:Nat} {most:Int} (hf:FeedIs st f) (m0:1≤most) (m8:most≤20):Wp (Xay [.ref f,.int most] st) fun d st'=>∃ (n:Nat) (xs ys:List Int),d=flD xs ys∧IsFl n xs ys∧1≤n∧(n:Int)≤most∧FeedIs st' f∧Ex [f] st st':=by
 refine YaA ?_
 show Ws (ZaF [some (.ref f),some (.int most),none] st) _ _ _ _
 unfold ZaF
 refine zad (Xae ?_)
 refine Yaa ?_
 intro qhQ hQ
 set_option simprocs false in simp only [wpB]
 refine Yab (Xar (n:=most) hf (by omega) (by omega)) ?_
 rintro d st1 ⟨n1,rfl,n10,n11,f1,k1⟩
 set_option simprocs false in simp only [wpB]
 obtain ⟨n,rfl⟩:∃ n:Nat,n1=(n:Int) - 1:=⟨(n1 + 1).toNat,by omega⟩
 rw [show (1:Int) + ((n:Int) - 1)=(n:Int) by omega]
 refine hQ _ _ (xal ?_)
 clear hQ
 refine Yaa ?_
 intro qhQ hQ
 set_option simprocs false in simp only [wpB]
 refine Yab (Xbz (n:=n) f1 (by omega) (by omega)) ?_
 rintro d st2 ⟨xs,ys,rfl,fl,f2,k2⟩
 refine Yab (yaG (n:=n) f2 (by omega)) ?_
 rintro d st3 ⟨p,rfl,tp,f3,k3⟩
 refine Yab (yaX fl.1 fl.2.1 tp (by omega)) ?_
 rintro d st4 ⟨rfl,k4⟩
 exact hQ _ _ ⟨n,_,_,rfl,Mth.anew_fl fl tp (by omega),by omega,by omega,f3.keep k4,(((k1.trans k2).trans k3).trans k4.any)⟩
theorem zaM {st:Store} {xs:List Int} {n:Nat} (tn:Mth.Tn n xs) (hn:n≤100):Wp (Xal [.tup (xs.map D.int)] st) fun d st'=>∃ rs:List (List Int),d=tts rs∧Mth.Rgs xs (Mth.upto n) rs∧(∀ r∈rs,r.length≤n∧∀ x∈r,0≤x∧x < (n:Int))∧rs.length≤n∧Ex [] st st':=by
 have hlen:=tn.length
 refine YaA ?_
 show Ws (xaF [some (.tup (xs.map D.int)),none,none,none,none] st) _ _ _ _
 unfold xaF
 refine zad (ZbM ?_)
 refine Yaa ?_
 intro qhQ hQ
 set_option simprocs false in simp only [wpB]
 have eS:(st ++ [O.lst []]).length=st.length + 1:=by simp
 refine ⟨rfl,rfl,hQ _ _ ⟨_,_,rfl,?_⟩⟩
 rw [eS]
 refine zad (xaR (rangeD 0 n) (fun k δ st2=>∃ (v3 v4:Option D) (rs:List (List Int)) (met:List Int),δ=[some (.tup (xs.map D.int)),some (.ref st.length),some (.ref (st.length + 1)),v3,v4]∧st2[st.length]?=some (.lst (rs.map fun r=>.tup (r.map D.int)))∧st2[st.length + 1]?=some (.lst (met.map D.int)) ∧
   (∀ rest,Mth.Rgs xs (Mth.from' n k (fun x=>met.contains x)) rest→Mth.Rgs xs (Mth.upto n) (rs ++ rest))∧(∀ r∈rs,r.length≤n∧∀ x∈r,0≤x∧x < (n:Int))∧rs.length≤k∧met.length≤k * n∧Ex [] st st2) ?_ (by rw [Xab];omega) ?_ ?_)
 ·clear hQ
  refine Yaa ?_
  intro qhQ hQ
  set_option simprocs false in simp only [wpB]
  rw [List.length_map,hlen]
  refine ⟨by omega,hQ _ _ ⟨by rw [Int.toNat_natCast],none,none,[],[],rfl,Xaf xag,by rw [← eS];exact xag,fun rest hrest=>?_,(fun r hr=>nomatch hr),Nat.le_refl _,Nat.zero_le _,(Ex.app0 _).app _⟩⟩
  have e:Mth.from' n 0 (fun x=>([]:List Int).contains x)=Mth.upto n:=Mth.xbg n
  rw [e] at hrest
  exact hrest
 ·rintro k d δ st2 hd ⟨v3,v4,rs,met,rfl,hR2,hS2,hrg,hb,hrl,hkl,k2⟩
  have hk:=yac hd
  rw [Xab] at hk
  rw [XaH hk,Int.zero_add] at hd
  cases hd
  have hkn:k * n≤10000:=Nat.le_trans (Nat.mul_le_mul (show k≤100 by omega) hn) (by decide)
  clear hQ
  refine Yaa ?_
  intro qhQ hQ
  set_option simprocs false in simp only [wpB]
  refine hQ _ _ (ZaG ?_)
  clear hQ
  refine Yaa ?_
  intro qhQ hQ
  set_option simprocs false in simp only [wpB,zbt (st:=st2) (c:=D.ref (st.length + 1)) (ns:=met) (zac hS2)]
  have hfs:=Mth.Ybg hk (fun x=>met.contains x)
  refine hQ _ _ ⟨fun hs=>?_,fun hs=>?_⟩
  ·have hsn:met.contains (k:Int)=false:=by simpa using hs
   simp only [hsn,Bool.false_eq_true,if_false] at hfs
   clear hQ
   refine zad (Xae ?_)
   refine Yaa ?_
   intro qhQ hQ
   set_option simprocs false in simp only [wpB]
   refine ⟨rfl,hQ _ _ (zad (ZaK (fun m δ st3=>∃ j:Nat,m=n - (j + 1)∧δ=[some (.tup (xs.map D.int)),some (.ref st.length),some (.ref (st.length + 1)),some (.int (k:Int)),some (.ref st2.length)]∧st3[st2.length]?=some (.lst ((Mth.row xs (k:Int) j).map D.int))∧Mth.NB xs (k:Int) j∧Ex [] st2 st3) (n - 1) (Nat.lt_of_le_of_lt (show n - 1≤100 by omega) (by decide)) ⟨0,rfl,rfl,xag,fun j h1 h2=>by omega,Ex.app0 _⟩ ?_))⟩
   clear hQ
   rintro m δ st3 ⟨j,rfl,rfl,hL,nb,k3⟩
   have hrl':=tn.row_le (i:=(k:Int)) (by omega) (by omega) nb
   have hit:=tn.itr (i:=(k:Int)) (by omega) (by omega) j
   refine Yaa ?_
   intro qhQ hQ
   set_option simprocs false in simp only [wpB,zac hL,Ybt,xau (xs:=xs) hit.1 (by omega)]
   refine hQ _ _ ⟨fun hb'=>?_,fun hb'=>?_⟩
   ·have hb':Mth.itr xs (k:Int) (j + 1)≠(k:Int):=by simpa [Mth.itr] using hb'
    have nb':Mth.NB xs (k:Int) (j + 1):=fun i h1 h2=>by
     by_cases hj:i≤j
     ·exact nb i h1 hj
     ·have:i=j + 1:=by omega
      rw [this];exact hb'
    have hle:=tn.row_le (i:=(k:Int)) (by omega) (by omega) nb'
    refine ZaA ?_
    clear hQ
    refine Yaa ?_
    intro qhQ hQ
    set_option simprocs false in simp only [wpB,zac hL,Xah hL,Ybt,xau (xs:=xs) hit.1 (by omega)]
    refine ⟨Xap (by rw [zac hL];rfl),xak (by rw [List.length_map,Mth.Yas];omega),hQ _ _ ⟨n - (j + 1 + 1),by omega,j + 1,rfl,rfl,?_,nb',k3.loc (Nat.le_refl _)⟩⟩
    rw [List.getElem?_set_self (yac hL),Mth.xa8,List.map_append];rfl
   ·have hb':Mth.itr xs (k:Int) (j + 1)=(k:Int):=by simpa [Mth.itr] using hb'
    have hring:Mth.IsRing xs (k:Int) (Mth.row xs (k:Int) j):=⟨j,rfl,nb,hb'⟩
    have hlen':=hring.len tn (by omega) (by omega)
    have hrb:=hring.bound tn (by omega) (by omega)
    have hR3:=k3.keep _ _ hR2 (by simp)
    have hS3:=k3.keep _ _ hS2 (by simp)
    generalize hrr:Mth.row xs (k:Int) j=r at hL hring hlen' hrb
    have l1:=yac hR2
    have l2:=yac hS2
    refine zad (ZaA ?_)
    clear hQ
    refine Yaa ?_
    intro qhQ hQ
    set_option simprocs false in simp only [wpB,Xah hL,Xah hS3]
    refine ⟨Xap (by rw [zac hS3];rfl),xak (by rw [List.length_map,List.length_map];omega),hQ _ _ (ZaA ?_)⟩
    clear hQ
    have hR4:(st3.set (st.length + 1) (.lst (met.map D.int ++ r.map D.int)))[st.length]?=some (.lst (rs.map fun r=>.tup (r.map D.int))):=by rw [List.getElem?_set_ne (by omega)];exact hR3
    have hL4:(st3.set (st.length + 1) (.lst (met.map D.int ++ r.map D.int)))[st2.length]?=some (.lst (r.map D.int)):=by rw [List.getElem?_set_ne (by omega)];exact hL
    refine Yaa ?_
    intro qhQ hQ
    set_option simprocs false in simp only [wpB,zac hL4,Xah hR4]
    refine ⟨Xap (by rw [zac hR4];rfl),xak (by rw [List.length_map];omega),hQ _ _ ⟨_,_,rs ++ [r],met ++ r,rfl,?_,?_,fun rest hrest=>?_,fun r' hr'=>?_,by rw [List.length_append];simp;omega,by rw [List.length_append,Nat.succ_mul];omega,((k2.trans k3).loc (by omega)).loc (Nat.le_refl _)⟩⟩
    ·rw [List.getElem?_set_self (yac hR4),List.map_append];rfl
    ·rw [List.getElem?_set_ne (by omega),List.getElem?_set_self (by rw [← hrr] at *;exact yac hS3),List.map_append]
    ·have e:(fun x=>(met ++ r).contains x)=fun x=>(met.contains x || r.contains x):=by
      funext x;rw [Bool.eq_iff_iff];simp
     rw [e,← Mth.Ybr] at hrest
     rw [List.append_assoc]
     refine hrg _ ?_
     rw [hfs]
     refine .cons hring ?_
     have e2:Mth.out ((k:Int) :: Mth.from' n (k + 1) (fun x=>met.contains x)) r=Mth.out (Mth.from' n (k + 1) (fun x=>met.contains x)) r:=by
      unfold Mth.out
      rw [List.filter_cons,if_neg (by simp [hring.mem])]
     rw [e2]
     exact hrest
    ·rcases List.mem_append.mp hr' with h | h
     ·exact hb r' h
     ·have:r'=r:=by simpa using h
      subst this
      exact ⟨hlen',hrb⟩
  ·have hsn:met.contains (k:Int)=true:=by simpa using hs
   simp only [hsn,if_true] at hfs
   exact Xam ⟨_,_,rs,met,rfl,hR2,hS2,fun rest hrest=>hrg rest (by rw [hfs];exact hrest),hb,by omega,by rw [Nat.succ_mul];omega,k2⟩
 ·rintro δ st2 ⟨v3,v4,rs,met,rfl,hR2,hS2,hrg,hb,hrl,hkl,k2⟩
  rw [Xab] at hrg hrl
  refine xal ?_
  clear hQ
  refine Yaa ?_
  intro qhQ hQ
  set_option simprocs false in simp only [wpB,zac hR2]
  refine hQ _ _ ⟨rs,rfl,?_,hb,hrl,k2⟩
  have:=hrg [] (by rw [Mth.Zbr];exact .nil)
  rwa [List.append_nil] at this
theorem za4 {st:Store} {xs ys:List Int} {n:Nat} (tx:Mth.Tn n xs) (ty:Mth.Tn n ys) (hn:n≤100):Wp (xav [flD xs ys] st) fun d st'=>d=.tup ((Mth.rnd xs ys).map D.int)∧Ex [] st st':=by
 have hlx:=tx.length
 have hly:=ty.length
 refine YaA ?_
 show Ws (yaC [some (flD xs ys),none,none] st) _ _ _ _
 unfold yaC flD
 refine zad (YaR ?_)
 refine Yaa ?_
 intro qhQ hQ
 set_option simprocs false in simp only [wpB]
 refine hQ _ _ ?_
 refine Yaa ?_
 intro qhQ2 hQ2
 set_option simprocs false in simp only [wpB]
 refine ⟨rfl,hQ2 _ _ (xal ?_)⟩
 clear hQ hQ2
 refine Yaa ?_
 intro qhQ hQ
 set_option simprocs false in simp only [wpB]
 refine yaj (rangeD 0 n) (fun d=>.int (Mth.app (Mth.rnd xs ys) (inD d))) ?_ (by rw [Xab];omega) ?_ ?_
 ·refine Yaa ?_
  intro qhQ2 hQ2
  set_option simprocs false in simp only [wpB]
  rw [List.length_map,hly]
  exact ⟨by omega,hQ2 _ _ ⟨by rw [Int.toNat_natCast];exact Xan _ _,Ex.refl⟩⟩
 ·intro d hd st1 k1
  rw [yag] at hd
  obtain ⟨x,hx,rfl⟩:=zaq hd
  obtain ⟨x0,x1⟩:=Mth.yah.mp hx
  obtain ⟨a0,a1⟩:=tx.app x0 x1
  obtain ⟨b0,b1⟩:=ty.app a0 a1
  obtain ⟨c0,c1⟩:=tx.invB b0 b1
  have e1:((xs.idxOf (Mth.app ys (Mth.app xs x)):Nat):Int)=Mth.app (Mth.inv xs) (Mth.app ys (Mth.app xs x)):=(Mth.ya0 b0 (by omega)).symm
  refine Yaa ?_
  intro qhQ2 hQ2
  set_option simprocs false in simp only [wpB,List.map_cons,List.map_nil,List.getD_cons_succ,List.getD_cons_zero,Zba,xau (xs:=xs) x0 (by omega),xau (xs:=ys) a0 (by omega),XaO (tx.mem b0 b1),e1,XaO (ty.mem c0 c1)]
  refine hQ2 _ _ ⟨?_,Ex.refl⟩
  show D.int _=D.int _
  congr 1
  unfold Mth.rnd inD
  rw [Mth.zau x0 (by rw [Mth.xaw];omega),Mth.zau x0 (by omega),Mth.zau b0 (by rw [Mth.XaC];omega),Mth.ya0 c0 (by omega)]
 ·intro st' k'
  have e:(rangeD 0 n).map (fun d=>D.int (Mth.app (Mth.rnd xs ys) (inD d)))=(Mth.rnd xs ys).map D.int:=by
   rw [yag,YaG (f:=Mth.app (Mth.rnd xs ys)) fun x hx=>rfl,Mth.Xa8 (tx.rnd ty).length]
  rw [e]
  set_option simprocs false in simp only [wpB]
  exact hQ _ _ ⟨rfl,k'.app _⟩
theorem ycg {xs:List Int} {i:Int} {m:Nat} {j:Int} (h0:0≤j) (h1:j < ((m + 1:Nat):Int)):atI ((Mth.row xs i m).map D.int) j=some (.int (Mth.itr xs i j.toNat)):=by
 have e:((Mth.row xs i m).map D.int)[j.toNat]?=some (.int (Mth.itr xs i j.toNat)):=by
  unfold Mth.row
  rw [List.map_map,List.getElem?_map,List.getElem?_range (by omega)];rfl
 have:=zaD e
 rwa [Int.toNat_of_nonneg h0] at this
theorem xbQ {xs:List Int} {i:Int} {m:Nat}:atI ((Mth.row xs i m).map D.int) (-1)=some (.int (Mth.itr xs i m)):=by
 have hl:((Mth.row xs i m).map D.int).length=m + 1:=by rw [List.length_map,Mth.Yas]
 unfold atI ixN
 rw [if_neg (by decide),hl,if_pos (by omega),Option.bind_some,show ((-1:Int) + ((m + 1:Nat):Int)).toNat=m by omega]
 unfold Mth.row
 rw [List.map_map,List.getElem?_map,List.getElem?_range (by omega)];rfl
theorem Zbp {st:Store} {xs:List Int} {n:Nat} {s k:Int} (tn:Mth.Tn n xs) (hn:n≤100) (s0:0≤s) (s1:s < (n:Int)):Wp (zav [.tup (xs.map D.int),.int s,.int k] st) fun d st'=>d=.int (Mth.pw xs k s)∧Ex [] st st':=by
 have hlen:=tn.length
 refine YaA ?_
 show Ws (XaB [some (.tup (xs.map D.int)),some (.int s),some (.int k),none] st) _ _ _ _
 unfold XaB
 refine zad (YaS (N:=fun δ st1=>∃ (zs:List Int) (j:Nat),δ=[some (.tup (zs.map D.int)),some (.int s),some (.int (j:Int)),none]∧Mth.Tn n zs∧Mth.itr zs s j=Mth.pw xs k s∧Ex [] st st1) (ZaG ?_) ?_)
 ·refine Yaa ?_
  intro qhQ hQ
  set_option simprocs false in simp only [wpB]
  refine hQ _ _ ⟨fun h=>?_,fun h=>Xam ⟨xs,k.toNat,?_,tn,?_,Ex.refl⟩⟩
  ·have h:=of_decide_eq_true h
   clear hQ
   refine zad (Xae ?_)
   refine Yaa ?_
   intro qhQ hQ
   set_option simprocs false in simp only [wpB]
   refine yaj (rangeD 0 n) (fun d=>.int (xs.idxOf (inD d):Int)) ?_ (by rw [Xab];omega) ?_ ?_
   ·refine Yaa ?_
    intro qhQ2 hQ2
    set_option simprocs false in simp only [wpB]
    rw [List.length_map,hlen]
    exact ⟨by omega,hQ2 _ _ ⟨by rw [Int.toNat_natCast];exact Xan _ _,Ex.refl⟩⟩
   ·intro d hd st7 k7
    rw [yag] at hd
    obtain ⟨x,hx,rfl⟩:=zaq hd
    obtain ⟨x0,x1⟩:=Mth.yah.mp hx
    refine Yaa ?_
    intro qhQ2 hQ2
    set_option simprocs false in simp only [wpB,List.map_cons,List.map_nil,List.getD_cons_succ,List.getD_cons_zero,Zba,XaO (tn.mem x0 x1)]
    exact hQ2 _ _ ⟨rfl,Ex.refl⟩
   ·intro st7 k7
    have e:(rangeD 0 n).map (fun d=>D.int (xs.idxOf (inD d):Int))=(Mth.inv xs).map D.int:=by
     rw [yag,YaG (f:=fun x=>(xs.idxOf x:Int)) fun x hx=>rfl]
     unfold Mth.inv
     rw [hlen]
    rw [e]
    set_option simprocs false in simp only [wpB]
    refine hQ _ _ (Xae ?_)
    clear hQ
    refine Yaa ?_
    intro qhQ hQ
    set_option simprocs false in simp only [wpB]
    refine hQ _ _ ⟨Mth.inv xs,(-k).toNat,?_,tn.inv_tn,?_,k7.app _⟩
    ·rw [show (0:Int) - k=(((-k).toNat:Nat):Int) by omega];rfl
    ·unfold Mth.pw;rw [if_neg (by omega)]
  ·have h:=of_decide_eq_false h
   rw [Int.toNat_of_nonneg (by omega)]
  ·have h:=of_decide_eq_false h
   unfold Mth.pw;rw [if_pos (by omega)]
 rintro δ st1 ⟨zs,j,rfl,tz,ej,k1⟩
 have hlz:=tz.length
 refine zad (Xae ?_)
 refine Yaa ?_
 intro qhQ hQ
 set_option simprocs false in simp only [wpB]
 refine ⟨rfl,hQ _ _ (zad (ZaK (fun m δ st2=>∃ k:Nat,m=n - (k + 1)∧δ=[some (.tup (zs.map D.int)),some (.int s),some (.int (j:Int)),some (.ref st1.length)]∧st2[st1.length]?=some (.lst ((Mth.row zs s k).map D.int))∧Mth.NB zs s k∧Ex [] st1 st2) (n - 1) (Nat.lt_of_le_of_lt (show n - 1≤100 by omega) (by decide)) ⟨0,rfl,rfl,xag,fun j h1 h2=>by omega,Ex.app0 _⟩ ?_))⟩
 clear hQ
 rintro m δ st2 ⟨k',rfl,rfl,hL,nb,k2⟩
 have hrl:=tz.row_le s0 s1 nb
 obtain ⟨y0,y1⟩:=tz.itr s0 s1 k'
 refine Yaa ?_
 intro qhQ hQ
 set_option simprocs false in simp only [wpB,zac hL,xbQ,xau (xs:=zs) y0 (by omega)]
 refine hQ _ _ ⟨fun hb=>?_,fun hb=>?_⟩
 ·have hb:Mth.itr zs s (k' + 1)≠s:=by show Mth.app zs (Mth.itr zs s k')≠s;simpa using hb
  have nb':Mth.NB zs s (k' + 1):=fun j h1 h2=>by
   by_cases hj:j≤k'
   ·exact nb j h1 hj
   ·have:j=k' + 1:=by omega
    rw [this];exact hb
  have hle:=tz.row_le s0 s1 nb'
  refine ZaA ?_
  refine Yaa ?_
  intro qhQ2 hQ2
  set_option simprocs false in simp only [wpB,zac hL,xbQ,xau (xs:=zs) y0 (by omega),Xah hL]
  refine ⟨Xap (by rw [zac hL];rfl),xak (by rw [List.length_map,Mth.Yas];omega),hQ2 _ _ ⟨n - (k' + 1 + 1),by omega,k' + 1,rfl,rfl,?_,nb',k2.loc (Nat.le_refl _)⟩⟩
  rw [List.getElem?_set_self (yac hL),Mth.xa8,List.map_append];rfl
 ·have hb:Mth.itr zs s (k' + 1)=s:=by show Mth.app zs (Mth.itr zs s k')=s;simpa using hb
  refine xal ?_
  have hpos:(0:Int) < ((k' + 1:Nat):Int):=by omega
  have eL:((((Mth.row zs s k').map D.int).length:Nat):Int)=((k' + 1:Nat):Int):=by rw [List.length_map,Mth.Yas]
  refine Yaa ?_
  intro qhQ2 hQ2
  set_option simprocs false in simp only [wpB,zac hL,eL,ycg (Int.emod_nonneg (j:Int) (Int.ne_of_gt hpos)) (Int.emod_lt_of_pos (j:Int) hpos)]
  refine ⟨hpos,hQ2 _ _ ⟨?_,k1.trans k2⟩⟩
  rw [← ej,show ((j:Int) % ((k' + 1:Nat):Int)).toNat=j % (k' + 1) by omega,Mth.zbV hb]
theorem ZbA {st:Store} {xs ys:List Int} {n:Nat} {k:Int} (tx:Mth.Tn n xs) (ty:Mth.Tn n ys) (hn:n≤100):Wp (yal [flD xs ys,.tup [.str "s",.int k]] st) fun d st'=>d=flD xs (Mth.shr xs ys k)∧Ex [] st st':=by
 have hlx:=tx.length
 have hly:=ty.length
 refine YaA ?_
 show Ws (xan [some (flD xs ys),some (.tup [.str "s",.int k]),none,none,none] st) _ _ _ _
 unfold xan flD
 refine zad (YaR ?_)
 refine Yaa ?_
 intro qhQ hQ
 set_option simprocs false in simp only [wpB]
 refine hQ _ _ ?_
 clear hQ
 refine Yaa ?_
 intro qhQ hQ
 set_option simprocs false in simp only [wpB]
 refine ⟨rfl,hQ _ _ (zad (ZaG ?_))⟩
 clear hQ
 refine Yaa ?_
 intro qhQ hQ
 set_option simprocs false in simp only [wpB]
 refine hQ _ _ ⟨fun _=>xal ?_,fun h=>absurd h (by simp)⟩
 clear hQ
 refine Yaa ?_
 intro qhQ hQ
 set_option simprocs false in simp only [wpB]
 refine yaj (rangeD 0 n) (fun d=>.int (Mth.app ys (Mth.pw xs (-k) (inD d)))) ?_ (by rw [Xab];omega) ?_ ?_
 ·refine Yaa ?_
  intro qhQ2 hQ2
  set_option simprocs false in simp only [wpB]
  rw [List.length_map,hly]
  exact ⟨by omega,hQ2 _ _ ⟨by rw [Int.toNat_natCast];exact Xan _ _,Ex.refl⟩⟩
 ·intro d hd st7 k7
  rw [yag] at hd
  obtain ⟨x,hx,rfl⟩:=zaq hd
  obtain ⟨x0,x1⟩:=Mth.yah.mp hx
  obtain ⟨p0,p1⟩:=tx.pw x0 x1 (-k)
  refine Yaa ?_
  intro qhQ2 hQ2
  set_option simprocs false in simp only [wpB,List.map_cons,List.map_nil,List.getD_cons_succ,List.getD_cons_zero]
  refine Yab (Zbp (k:=0 - k) tx hn x0 x1) ?_
  rintro d st8 ⟨rfl,k8⟩
  rw [show (0:Int) - k=-k by omega]
  set_option simprocs false in simp only [wpB,xau (xs:=ys) p0 (by omega)]
  exact hQ2 _ _ ⟨rfl,k8⟩
 ·intro st7 k7
  have e:(rangeD 0 n).map (fun d=>D.int (Mth.app ys (Mth.pw xs (-k) (inD d))))=(Mth.shr xs ys k).map D.int:=by
   rw [yag,YaG (f:=fun x=>Mth.app ys (Mth.pw xs (-k) x)) fun x hx=>rfl]
   unfold Mth.shr Mth.fol Mth.pws
   rw [hlx,List.map_map,List.map_map,List.map_map]
   rfl
  rw [e]
  set_option simprocs false in simp only [wpB]
  exact ⟨rfl,hQ _ _ ⟨rfl,k7.app _⟩⟩
noncomputable def qtr (xs ys:List Int):Nat→List Int×List Int
 | 0=>(xs,ys)
 | j + 1=>(Mth.inv (qtr xs ys j).2,(qtr xs ys j).1)
theorem XbQ {n:Nat} {xs ys:List Int} (tx:Mth.Tn n xs) (ty:Mth.Tn n ys):∀ j,Mth.Tn n (qtr xs ys j).1∧Mth.Tn n (qtr xs ys j).2
 | 0=>⟨tx,ty⟩
 | j + 1=>⟨(XbQ tx ty j).2.inv_tn,(XbQ tx ty j).1⟩
theorem YbA {st:Store} {xs ys:List Int} {n j:Nat} (tx:Mth.Tn n xs) (ty:Mth.Tn n ys) (hn:n≤100) (hj:j < 4):Wp (yal [flD xs ys,.tup [.str "t",.int (j:Int)]] st) fun d st'=>d=flD (qtr xs ys j).1 (qtr xs ys j).2∧Ex [] st st':=by
 refine YaA ?_
 show Ws (xan [some (flD xs ys),some (.tup [.str "t",.int (j:Int)]),none,none,none] st) _ _ _ _
 unfold xan flD
 refine zad (YaR ?_)
 refine Yaa ?_
 intro qhQ hQ
 set_option simprocs false in simp only [wpB]
 refine hQ _ _ ?_
 clear hQ
 refine Yaa ?_
 intro qhQ hQ
 set_option simprocs false in simp only [wpB]
 refine ⟨rfl,hQ _ _ (zad (ZaG ?_))⟩
 clear hQ
 refine Yaa ?_
 intro qhQ hQ
 set_option simprocs false in simp only [wpB]
 refine hQ _ _ ⟨fun h=>absurd h (by decide),fun _=>Xam (zad (xaR (rangeD 0 j) (fun i δ st2=>∃ v4:Option D,δ=[some (.tup [.tup (xs.map D.int),.tup (ys.map D.int)]),some (.tup [.str "t",.int (j:Int)]),some (.tup ((qtr xs ys i).1.map D.int)),some (.tup ((qtr xs ys i).2.map D.int)),v4]∧Ex [] st st2) ?_ (by rw [Xab];omega) ?_ ?_))⟩
 ·clear hQ
  refine Yaa ?_
  intro qhQ hQ
  set_option simprocs false in simp only [wpB]
  rw [show (j:Int) % 4=(j:Int) by omega]
  exact ⟨by omega,by omega,hQ _ _ ⟨by rw [Int.toNat_natCast],none,rfl,Ex.refl⟩⟩
 ·rintro i d δ st2 hd ⟨v4,rfl,k2⟩
  obtain ⟨ta,tb⟩:=XbQ tx ty i
  show Wp _ _
  have hlb:=tb.length
  generalize hzs:(qtr xs ys i).2=zs at tb hlb ⊢
  clear hQ
  refine Yaa ?_
  intro qhQ hQ
  set_option simprocs false in simp only [wpB]
  refine hQ _ _ (YaR ?_)
  clear hQ
  refine Yaa ?_
  intro qhQ hQ
  set_option simprocs false in simp only [wpB]
  refine yaj (rangeD 0 n) (fun d=>.int (zs.idxOf (inD d):Int)) ?_ (by rw [Xab];omega) ?_ ?_
  ·refine Yaa ?_
   intro qhQ2 hQ2
   set_option simprocs false in simp only [wpB]
   rw [List.length_map,hlb]
   exact ⟨by omega,hQ2 _ _ ⟨by rw [Int.toNat_natCast];exact Xan _ _,Ex.refl⟩⟩
  ·intro d hd st7 k7
   rw [yag] at hd
   obtain ⟨x,hx,rfl⟩:=zaq hd
   obtain ⟨x0,x1⟩:=Mth.yah.mp hx
   refine Yaa ?_
   intro qhQ2 hQ2
   set_option simprocs false in simp only [wpB,List.map_cons,List.map_nil,List.getD_cons_succ,List.getD_cons_zero,Zba,XaO (tb.mem x0 x1)]
   exact hQ2 _ _ ⟨rfl,Ex.refl⟩
  ·intro st7 k7
   have e:(rangeD 0 n).map (fun d=>D.int (zs.idxOf (inD d):Int))=(Mth.inv zs).map D.int:=by
    rw [yag,YaG (f:=fun x=>(zs.idxOf x:Int)) fun x hx=>rfl]
    unfold Mth.inv
    rw [hlb]
   rw [e]
   set_option simprocs false in simp only [wpB]
   refine ⟨rfl,hQ _ _ ?_⟩
   clear hQ
   refine Yaa ?_
   intro qhQ hQ
   set_option simprocs false in simp only [wpB]
   refine ⟨rfl,hQ _ _ ⟨some d,?_,(k2.trans k7).app _⟩⟩
   rw [show (qtr xs ys (i + 1)).1=Mth.inv (qtr xs ys i).2 from rfl,show (qtr xs ys (i + 1)).2=(qtr xs ys i).1 from rfl,hzs]
 ·rintro δ st2 ⟨v4,rfl,k2⟩
  rw [Xab]
  refine xal ?_
  clear hQ
  refine Yaa ?_
  intro qhQ hQ
  set_option simprocs false in simp only [wpB]
  exact ⟨rfl,hQ _ _ ⟨rfl,k2⟩⟩
theorem xbA {st:Store} {xs ys:List Int} {n:Nat} (tx:Mth.Tn n xs) (ty:Mth.Tn n ys) (hn:n≤100):Wp (Zap [flD xs ys] st) fun d st'=>d=.tup ((Mth.rnd xs ys).map D.int)∧Ex [] st st':=by
 have hlx:=tx.length
 have hly:=ty.length
 have ix:=tx.inv_tn
 have iy:=ty.inv_tn
 refine YaA ?_
 show Ws (Yav [some (flD xs ys),none,none,none] st) _ _ _ _
 unfold Yav flD
 refine zad (Xae ?_)
 refine Yaa ?_
 intro qhQ hQ
 set_option simprocs false in simp only [wpB]
 refine hQ _ _ (zad (Xae ?_))
 clear hQ
 refine Yaa ?_
 intro qhQ hQ
 set_option simprocs false in simp only [wpB]
 refine hQ _ _ (zad (Xae ?_))
 clear hQ
 refine Yaa ?_
 intro qhQ hQ
 set_option simprocs false in simp only [wpB]
 refine Yab (Zbk tx hn) ?_
 rintro d st1 ⟨rfl,k1⟩
 refine Yab (Zbk ty hn) ?_
 rintro d st2 ⟨rfl,k2⟩
 refine Yab (XaL (xs:=Mth.inv xs) (ys:=Mth.inv ys) (fun x hx=>by rw [iy.length];exact ix.bound hx) (by rw [ix.length];omega)) ?_
 rintro d st3 ⟨rfl,k3⟩
 refine hQ _ _ (xal ?_)
 clear hQ
 refine Yaa ?_
 intro qhQ hQ
 set_option simprocs false in simp only [wpB]
 refine Yab (XaL (xs:=xs) (ys:=ys) (fun x hx=>by rw [hly];exact tx.bound hx) (by omega)) ?_
 rintro d st4 ⟨rfl,k4⟩
 refine Yab (XaL (xs:=Mth.fol xs ys) (ys:=Mth.fol (Mth.inv xs) (Mth.inv ys)) (fun x hx=>by rw [Mth.xaw,ix.length];exact (tx.fol ty).bound hx) (by rw [Mth.xaw];omega)) ?_
 rintro d st5 ⟨rfl,k5⟩
 exact hQ _ _ ⟨rfl,(((k1.trans k2).trans k3).trans k4).trans k5⟩
theorem za2 {st:Store} {xs ys:List Int} {Q:D→Store→Prop}:Wp (gIxT (flD xs ys) (.int 0) st) Q↔Q (.tup (xs.map D.int)) st:=Zab
theorem zbR {st:Store} {xs ys:List Int} {Q:D→Store→Prop}:Wp (gIxT (flD xs ys) (.int 1) st) Q↔Q (.tup (ys.map D.int)) st:=Zab
noncomputable def tI (l:List Int):D:=.tup (l.map D.int)
noncomputable def ofT:D→List Int
 | .tup ds=>ds.map inD
 | _=>[]
theorem xaE (l:List Int):ofT (tI l)=l:=ybY l
theorem ya2 {st:Store} {xs ys r:List Int} {n:Nat} (tx:Mth.Tn n xs) (ty:Mth.Tn n ys) (hn:n≤100) (hb:∀ x∈r,0≤x∧x < (n:Int)) (hl:r.length≤100):Wp (xap [flD xs ys,tI r] st) fun d st'=>d=.bl (decide (Mth.Sm xs ys r))∧Ex [] st st':=by
 have tr:=tx.rnd ty
 refine YaA ?_
 show Ws (YaL [some (flD xs ys),some (.tup (r.map D.int)),none] st) _ _ _ _
 unfold YaL
 refine zad (Xae ?_)
 refine Yaa ?_
 intro qhQ hQ
 set_option simprocs false in simp only [wpB]
 refine Yab (xbA tx ty hn) ?_
 rintro d st1 ⟨rfl,k1⟩
 refine hQ _ _ (xal ?_)
 clear hQ
 refine Yaa ?_
 intro qhQ hQ
 set_option simprocs false in simp only [wpB]
 refine yaj (r.map D.int) (fun d=>.bl (decide (Mth.app (Mth.rnd xs ys) (inD d)=inD d))) ?_ (by rw [List.length_map];omega) ?_ ?_
 ·refine Yaa ?_
  intro qhQ2 hQ2
  set_option simprocs false in simp only [wpB]
  exact hQ2 _ _ ⟨Xan _ _,Ex.refl⟩
 ·intro d hd st2 k2
  obtain ⟨x,hx,rfl⟩:=zaq hd
  obtain ⟨x0,x1⟩:=hb x hx
  refine Yaa ?_
  intro qhQ2 hQ2
  set_option simprocs false in simp only [wpB,List.map_cons,List.map_nil,List.getD_cons_succ,List.getD_cons_zero,xau (xs:=Mth.rnd xs ys) x0 (by rw [tr.length];exact x1)]
  exact hQ2 _ _ ⟨rfl,Ex.refl⟩
 ·intro st2 k2
  have e1:mapO bV ((r.map D.int).map fun d=>D.bl (decide (Mth.app (Mth.rnd xs ys) (inD d)=inD d)))=some (r.map fun x=>decide (Mth.app (Mth.rnd xs ys) x=x)):=by
   rw [List.map_map]
   exact Zam (f:=bV) (g:=fun x=>D.bl (decide (Mth.app (Mth.rnd xs ys) x=x))) (k:=fun x=>decide (Mth.app (Mth.rnd xs ys) x=x)) (fun _=>rfl) r
  have e2:(r.map fun x=>decide (Mth.app (Mth.rnd xs ys) x=x)).all id=decide (Mth.Sm xs ys r):=by
   rw [Bool.eq_iff_iff,List.all_eq_true,decide_eq_true_eq]
   constructor
   ·intro h s hs
    exact (Mth.Ya9 tx ty (hb s hs).1 (hb s hs).2).mp (of_decide_eq_true (h _ (List.mem_map_of_mem hs)))
   ·intro h b hb'
    obtain ⟨s,hs,rfl⟩:=List.mem_map.mp hb'
    exact decide_eq_true ((Mth.Ya9 tx ty (hb s hs).1 (hb s hs).2).mpr (h s hs))
  set_option simprocs false in simp only [wpB,zah,e1,e2]
  exact hQ _ _ ⟨rfl,(k1.trans k2).app _⟩
theorem YaQ {st:Store} {xs ys r:List Int} {n:Nat} (tx:Mth.Tn n xs) (ty:Mth.Tn n ys) (hn:n≤100) (a:Mth.Rw n xs r) (hs:Mth.Sm xs ys r):Wp (yap [flD xs ys,tI r] st) fun d st'=>∃ r',d=tI r'∧Mth.Up n xs ys r r'∧Ex [] st st':=by
 have hl:=a.len tx
 refine YaA ?_
 show Ws (ZaL [some (flD xs ys),some (.tup (r.map D.int))] st) _ _ _ _
 unfold ZaL
 refine xal ?_
 refine Yaa ?_
 intro qhQ hQ
 set_option simprocs false in simp only [wpB,za2]
 refine yaj (r.map D.int) (fun d=>.int (Mth.app ys (inD d))) ?_ (by rw [List.length_map];omega) ?_ ?_
 ·refine Yaa ?_
  intro qhQ2 hQ2
  set_option simprocs false in simp only [wpB]
  exact hQ2 _ _ ⟨Xan _ _,Ex.refl⟩
 ·intro d hd st2 k2
  obtain ⟨x,hx,rfl⟩:=zaq hd
  obtain ⟨x0,x1⟩:=a.bound tx x hx
  refine Yaa ?_
  intro qhQ2 hQ2
  set_option simprocs false in simp only [wpB,List.map_cons,List.map_nil,List.getD_cons_succ,List.getD_cons_zero,zbR,xau (xs:=ys) x0 (by rw [ty.length];exact x1)]
  exact hQ2 _ _ ⟨rfl,Ex.refl⟩
 ·intro st2 k2
  rw [YaG (f:=Mth.app ys) fun x hx=>rfl]
  obtain ⟨m,hm,hlm,hW⟩:=zcf (st:=st2 ++ [O.lst ((r.map (Mth.app ys)).map D.int)]) (r:=st2.length) (ns:=r.map (Mth.app ys)) ya1 (fun e=>by
   obtain ⟨x,hx⟩:=a.one
   rw [List.map_eq_nil_iff.mp e] at hx
   cases hx)
  rw [hW]
  obtain ⟨s,s1,e⟩:=List.mem_map.mp hm
  have bm:0≤m∧m < (n:Int):=by
   rw [← e]
   exact ty.app (a.bound tx s s1).1 (a.bound tx s s1).2
  refine Yab (Ybk tx hn bm.1 bm.2) ?_
  rintro d st3 ⟨r',rfl,hr,k3⟩
  exact hQ _ _ ⟨r',rfl,Mth.up_min tx ty a hs hm hlm hr,(k2.app _).trans k3⟩
noncomputable def bandD (l:List Int) (b:List (List Int)):D:=.tup [.int (l.length:Int),.int (b.length:Int),tts b]
theorem Za2 {st:Store} {xs ys l:List Int} {n:Nat} (tx:Mth.Tn n xs) (ty:Mth.Tn n ys) (hn:n≤100) (a:Mth.Rw n xs l):Wp (xax [flD xs ys,tI l] st) fun d st'=>∃ b,d=bandD l b∧Mth.Bd n xs ys l b∧Ex [] st st':=by
 have hll:=a.len tx
 refine YaA ?_
 show Ws (xaL [some (flD xs ys),some (tI l),none,none] st) _ _ _ _
 unfold xaL
 refine zad (Xae ?_)
 refine Yaa ?_
 intro qhQ hQ
 set_option simprocs false in simp only [wpB]
 refine ⟨rfl,hQ _ _ (zad (ZaK (fun m δ st2=>∃ (b:List (List Int)) (v3:Option D),m=n - b.length∧δ=[some (flD xs ys),some (tI l),some (.ref st.length),v3]∧st2[st.length]?=some (.lst (b.map tI))∧Mth.Ch n xs ys l b∧Ex [] st st2) (n - 1) (Nat.lt_of_le_of_lt (show n - 1≤100 by omega) (by decide)) ⟨[l],none,rfl,rfl,xag,Mth.Ch.one a,Ex.app0 _⟩ ?_))⟩
 clear hQ
 rintro m δ st2 ⟨b,v3,rfl,rfl,hL,c,k2⟩
 have hb:=c.len tx
 have hb0:0 < b.length:=by have:=(List.getElem?_eq_some_iff.mp c.hd).1;omega
 obtain ⟨r,hr⟩:∃ r,b[b.length - 1]?=some r:=⟨b[b.length - 1],List.getElem?_eq_getElem (by omega)⟩
 have ar:=c.rw r (List.mem_of_getElem? hr)
 have hat:atI (b.map tI) (-1)=some (tI r):=zb3 (by rw [List.length_map,List.getElem?_map,hr];rfl)
 have fin:∀ (st5:Store) (v3:Option D),st5[st.length]?=some (.lst (b.map tI))→Ex [] st st5→Mth.Bd n xs ys l b→Ws (fRet (fTup (fCons (fCB gLen (fCons (fVar 1) fNil)) (fCons (fCB gLen (fCons (fVar 2) fNil)) (fCons (fCB gTuple (fCons (fVar 2) fNil)) fNil)))) [some (flD xs ys),some (tI l),some (.ref st.length),v3] st5) (fun _ st1=>(fun d st'=>∃ b,d=bandD l b∧Mth.Bd n xs ys l b∧Ex [] st st') .non st1) (fun _ _=>False) (fun _ _=>False) (fun d st'=>∃ b,d=bandD l b∧Mth.Bd n xs ys l b∧Ex [] st st'):=fun st5 v3 h5 k5 hB=>by
  refine xal ?_
  unfold tI
  refine Yaa ?_
  intro qhQ hQ
  set_option simprocs false in simp only [wpB,zac h5]
  refine ⟨rfl,hQ _ _ ⟨b,?_,hB,k5⟩⟩
  rw [List.length_map,List.length_map]
  rfl
 refine Yaa ?_
 intro qhQ hQ
 set_option simprocs false in simp only [wpB,zac hL,hat]
 refine Yab (ya2 tx ty hn (ar.bound tx) (by have:=ar.len tx;omega)) ?_
 rintro d st3 ⟨rfl,k3⟩
 have h3:=k3.keep _ _ hL (by simp)
 refine ⟨_,rfl,hQ _ _ ⟨fun ht=>?_,fun hf=>?_⟩⟩
 ·have sm:Mth.Sm xs ys r:=of_decide_eq_true ht
  refine zad (Xae ?_)
  clear hQ
  refine Yaa ?_
  intro qhQ hQ
  set_option simprocs false in simp only [wpB,zac h3,hat]
  refine Yab (YaQ tx ty hn ar sm) ?_
  rintro d st4 ⟨r',rfl,up,k4⟩
  have h4:=k4.keep _ _ h3 (by simp)
  refine hQ _ _ (zad (ZaG ?_))
  clear hQ
  unfold tI
  refine Yaa ?_
  intro qhQ hQ
  set_option simprocs false in simp only [wpB,zce]
  refine hQ _ _ ⟨fun hc=>YbW ?_,fun hc=>Xam (ZaA ?_)⟩
  ·have e:r'=l:=of_decide_eq_true hc
   subst e
   exact fin st4 _ h4 ((k2.trans k3).trans k4) ⟨c,fun q hq _=>by rw [hr] at hq;cases hq;exact up⟩
  ·have ne:r'≠l:=of_decide_eq_false hc
   have c':=c.snoc tx ty hr sm up ne
   have hb':=c'.len tx
   rw [List.length_append,List.length_singleton] at hb'
   clear hQ
   refine Yaa ?_
   intro qhQ hQ
   set_option simprocs false in simp only [wpB,Xah h4]
   refine ⟨Xap (by rw [zac h4];rfl),xak (by rw [List.length_map];omega),hQ _ _ ⟨n - (b.length + 1),by omega,b ++ [r'],_,by rw [List.length_append,List.length_singleton],rfl,?_,c',((k2.trans k3).trans k4).loc (Nat.le_refl _)⟩⟩
   rw [List.getElem?_set_self (yac h4),List.map_append];rfl
 ·have ns:¬ Mth.Sm xs ys r:=of_decide_eq_false hf
  exact fin st3 _ h3 (k2.trans k3) ⟨c,fun q hq hs=>by rw [hr] at hq;cases hq;exact absurd hs ns⟩
noncomputable def Lows (n:Nat) (xs ys:List Int) (rs lows:List (List Int)):Prop:=∃ q:List Int→Bool,(∀ r∈rs,q r=true↔∀ p,Mth.Rw n xs p→Mth.Sm xs ys p→¬ Mth.Up n xs ys p r)∧lows=if rs.filter q=[] then [rs.headD []] else rs.filter q
theorem Lows.lw {n:Nat} {xs ys:List Int} {rs lows:List (List Int)} (h:Lows n xs ys rs lows) (tx:Mth.Tn n xs) (n0:0 < n) (g:Mth.Rgs xs (Mth.upto n) rs):Mth.Lw n xs ys rs lows:=by
 obtain ⟨q,hq,rfl⟩:=h
 have nd:=g.nodup tx
 obtain ⟨r0,hr0,_⟩:=g.has (x:=0) (by decide) (by omega)
 have hup:∀ r∈rs,q r=true∨∃ p,Mth.Rw n xs p∧Mth.Sm xs ys p∧Mth.Up n xs ys p r:=fun r hr=>by
  by_cases h:q r=true
  ·exact .inl h
  ·refine .inr (Classical.byContradiction fun c=>h ((hq r hr).mpr fun p a s u=>c ⟨p,a,s,u⟩))
 split
 ·next e =>
  have none:∀ r∈rs,q r≠true:=fun r hr h=>by
   have:r∈rs.filter q:=List.mem_filter.mpr ⟨hr,h⟩
   rw [e] at this
   cases this
  refine ⟨by simp,fun l hl=>?_,by simp,fun r hr=>.inr ((hup r hr).resolve_left (none r hr)),.inr rfl⟩
  rw [List.mem_singleton.mp hl]
  cases rs with
  | nil=>cases hr0
  | cons a t=>exact List.mem_cons_self
 ·next e =>
  refine ⟨e,fun l hl=>(List.mem_filter.mp hl).1,nd.filter _,fun r hr=>?_,.inl fun l hl=>?_⟩
  ·rcases hup r hr with h | h
   ·exact .inl (List.mem_filter.mpr ⟨hr,h⟩)
   ·exact .inr h
  ·obtain ⟨h1,h2⟩:=List.mem_filter.mp hl
   exact (hq l h1).mp h2
theorem Lows.unique {n:Nat} {xs ys:List Int} {rs l m:List (List Int)} (h:Lows n xs ys rs l) (h':Lows n xs ys rs m):l=m:=by
 obtain ⟨q,hq,rfl⟩:=h
 obtain ⟨q',hq',rfl⟩:=h'
 have e:rs.filter q=rs.filter q':=List.filter_congr fun r hr=>by rw [Bool.eq_iff_iff,hq r hr,hq' r hr]
 rw [e]
noncomputable def bandP (l:List Int) (b:List (List Int)):PyData:=.tuple [.int (l.length:Int),.int (b.length:Int),.tuple (b.map tupI)]
theorem ybu (st:Store) (m:Nat) (l:List Int):toP st (m + 2) (tI l)=some (tupI l):=by
 show (mapO (toP st (m + 1)) (l.map D.int)).map PyData.tuple=_
 rw [Zam (f:=toP st (m + 1)) (g:=D.int) (k:=PyData.int) (fun _=>rfl) l]
 rfl
theorem Zbu (st:Store) (l:List Int) (b:List (List Int)):toP st 20 (bandD l b)=some (bandP l b):=by
 have e:toP st 19 (tts b)=some (.tuple (b.map tupI)):=by
  show (mapO (toP st 18) (b.map tI)).map PyData.tuple=_
  rw [Zam (f:=toP st 18) (g:=tI) (k:=tupI) (fun l=>ybu st 16 l) b]
  rfl
 show (mapO (toP st 19) [D.int (l.length:Int),.int (b.length:Int),tts b]).map PyData.tuple=_
 simp only [mapO,e]
 rfl
theorem xbk:∀ b c:List (List Int),okPs (b.map tupI) (c.map tupI)=true
 | [],_=>rfl
 | _ :: _,[]=>rfl
 | x :: b,y :: c=>by
  show (okPs (x.map PyData.int) (y.map PyData.int) && okPs (b.map tupI) (c.map tupI))=true
  rw [zaY,xbk b c];rfl
theorem Ybu (l l':List Int) (b b':List (List Int)):okP (bandP l b) (bandP l' b')=true:=by
 show (true && (true && (okPs (b.map tupI) (b'.map tupI) && true)))=true
 rw [xbk];rfl
theorem xbu (l:List Int) (b:List (List Int)):(bandP l b).canLay0=true∧(bandP l b).depth≤50:=by
 have h1:PyData.canLayAll0 (b.map tupI)=true:=yaW fun x hx=>by
  obtain ⟨r,_,rfl⟩:=List.mem_map.mp hx
  exact Zao r
 have h2:PyData.depthAll (b.map tupI)≤2:=Ya1 fun x hx=>by
  obtain ⟨r,_,rfl⟩:=List.mem_map.mp hx
  show PyData.depthAll (intsD r) + 1≤2
  have:=xaC r
  omega
 refine ⟨?_,?_⟩
 ·show (true && (true && (PyData.canLayAll0 (b.map tupI) && true)))=true
  rw [h1];rfl
 ·show max _ (max _ (max (PyData.depthAll (b.map tupI) + 1) 0)) + 1≤50
  have e1:(PyData.int (l.length:Int)).depth≤1:=by simp [PyData.depth]
  have e2:(PyData.int (b.length:Int)).depth≤1:=by simp [PyData.depth]
  omega
theorem Xbu {L:List (List Int)} {B:List Int→List (List Int)} (hl:L.length < 64):srtOk (L.map fun l=>bandP l (B l))=true:=by
 unfold srtOk
 simp only [Bool.and_eq_true,Bool.or_eq_true,decide_eq_true_eq,List.all_eq_true,List.length_map]
 refine ⟨⟨⟨hl,fun a ha b hb=>?_⟩,fun a ha=>?_⟩,.inr fun a ha=>?_⟩
 ·obtain ⟨p,_,rfl⟩:=List.mem_map.mp ha
  obtain ⟨q,_,rfl⟩:=List.mem_map.mp hb
  exact Ybu _ _ _ _
 ·obtain ⟨p,_,rfl⟩:=List.mem_map.mp ha
  exact xbu _ _
 ·obtain ⟨p,_,rfl⟩:=List.mem_map.mp ha
  rfl
noncomputable def srtB (L:List (List Int)) (B:List Int→List (List Int)):List D:=srtD (L.map fun l=>bandD l (B l)) (L.map fun l=>bandP l (B l))
theorem xbc (rs:List (List Int)) (q:List Int→Bool) (U:List Int→List Int):((rs.map tI).filter fun d=>q (ofT d)).map (fun d=>tI (U (ofT d)))=((rs.filter q).map U).map tI:=by
 rw [List.filter_map,List.map_map,List.map_map]
 have e:((fun d=>q (ofT d)) ∘ tI)=q:=funext fun l=>by show q (ofT (tI l))=q l;rw [xaE]
 rw [e]
 refine List.map_congr_left fun l _=>?_
 show tI (U (ofT (tI l)))=tI (U l)
 rw [xaE]
theorem XbA (l:List Int):pU 1 (tI l):=Yce 0 l
theorem ybR {l m:List Int} (h:tI l=tI m):l=m:=by rw [← xaE l,h,xaE]
noncomputable def BdsIs (n:Nat) (xs ys:List Int) (st:Store):D→Store→Prop:=fun d st'=>∃ (rs lows:List (List Int)) (B:List Int→List (List Int)),d=.tup (srtB lows B)∧Mth.Rgs xs (Mth.upto n) rs∧Lows n xs ys rs lows∧(∀ l∈lows,Mth.Bd n xs ys l (B l))∧lows.length≤n∧Ex [] st st'
theorem zbB {st:Store} {xs ys:List Int} {n:Nat} (tx:Mth.Tn n xs) (ty:Mth.Tn n ys) (n0:0 < n) (hn:n≤60):Wp (XaI [flD xs ys] st) (BdsIs n xs ys st):=by
 obtain ⟨U,hU⟩:∃ U:List Int→List Int,∀ r,Mth.Rw n xs r→Mth.Sm xs ys r→Mth.Up n xs ys r (U r):=by
  have:∀ r,∃ r',Mth.Rw n xs r→Mth.Sm xs ys r→Mth.Up n xs ys r r':=fun r=>by
   by_cases h:Mth.Rw n xs r∧Mth.Sm xs ys r
   ·obtain ⟨_,_,_,r',_,u,_⟩:=YaQ (st:=[]) tx ty (by omega) h.1 h.2
    exact ⟨r',fun _ _=>u⟩
   ·exact ⟨[],fun a b=>absurd ⟨a,b⟩ h⟩
  exact ⟨fun r=>Classical.choose (this r),fun r=>Classical.choose_spec (this r)⟩
 obtain ⟨B,hB⟩:∃ B:List Int→List (List Int),∀ l,Mth.Rw n xs l→Mth.Bd n xs ys l (B l):=by
  have:∀ l,∃ b,Mth.Rw n xs l→Mth.Bd n xs ys l b:=fun l=>by
   by_cases h:Mth.Rw n xs l
   ·obtain ⟨_,_,_,b,_,u,_⟩:=Za2 (st:=[]) tx ty (by omega) h
    exact ⟨b,fun _=>u⟩
   ·exact ⟨[],fun a=>absurd a h⟩
  exact ⟨fun r=>Classical.choose (this r),fun r=>Classical.choose_spec (this r)⟩
 refine YaA ?_
 show Ws (ZaQ [some (flD xs ys),none,none,none] st) _ _ _ _
 unfold ZaQ
 refine zad (Xae ?_)
 refine Yaa ?_
 intro qhQ hQ
 set_option simprocs false in simp only [wpB,za2]
 refine Yab (zbA tx (by omega)) ?_
 rintro d st1 ⟨rs,rfl,hr,hb,hl,k1⟩
 have rw':=hr.rw tx
 have e0:tts rs=D.tup (rs.map tI):=rfl
 rw [e0]
 refine hQ _ _ (zad (Xae ?_))
 clear hQ
 refine Yaa ?_
 intro qhQ hQ
 set_option simprocs false in simp only [wpB]
 refine xaU (rs.map tI) (fun d=>decide (Mth.Sm xs ys (ofT d))) (fun d=>tI (U (ofT d))) ?_ (by rw [List.length_map];omega) ?_ ?_ ?_
 ·refine Yaa ?_
  intro qhQ2 hQ2
  set_option simprocs false in simp only [wpB]
  exact hQ2 _ _ ⟨Xan _ _,Ex.refl⟩
 ·intro d hd st2 k2
  obtain ⟨r,hr',rfl⟩:=List.mem_map.mp hd
  have hbr:=hb r hr'
  refine Yaa ?_
  intro qhQ2 hQ2
  set_option simprocs false in simp only [wpB,List.map_cons,List.map_nil,List.getD_cons_succ,List.getD_cons_zero]
  refine Yab (ya2 tx ty (by omega) hbr.2 (by have:=hbr.1;omega)) ?_
  rintro d st3 ⟨rfl,k3⟩
  refine ⟨_,rfl,hQ2 _ _ ⟨by rw [xaE],k3⟩⟩
 ·intro d hd hq st2 k2
  obtain ⟨r,hr',rfl⟩:=List.mem_map.mp hd
  rw [xaE] at hq
  have sm:Mth.Sm xs ys r:=of_decide_eq_true hq
  refine Yaa ?_
  intro qhQ2 hQ2
  set_option simprocs false in simp only [wpB,List.map_cons,List.map_nil,List.getD_cons_succ,List.getD_cons_zero]
  refine Yab (YaQ tx ty (by omega) (rw' r hr') sm) ?_
  rintro d st3 ⟨r',rfl,up,k3⟩
  refine hQ2 _ _ ⟨?_,k3⟩
  rw [xaE,up.uniq (hU r (rw' r hr') sm) (rw' r hr') sm]
 ·intro st2 k2
  have eU:=xbc rs (fun r=>decide (Mth.Sm xs ys r)) U
  rw [eU]
  generalize hus:((rs.filter fun r=>decide (Mth.Sm xs ys r)).map U)=us
  have mus:∀ r,r∈us↔∃ p,Mth.Rw n xs p∧Mth.Sm xs ys p∧Mth.Up n xs ys p r:=fun r=>by
   rw [← hus,List.mem_map]
   constructor
   ·rintro ⟨p,hp,rfl⟩
    obtain ⟨h1,h2⟩:=List.mem_filter.mp hp
    have sm:Mth.Sm xs ys p:=of_decide_eq_true h2
    exact ⟨p,rw' p h1,sm,hU p (rw' p h1) sm⟩
   ·rintro ⟨p,a,sm,up⟩
    exact ⟨p,List.mem_filter.mpr ⟨(hr.mem tx).mpr a,decide_eq_true sm⟩,(hU p a sm).uniq up a sm⟩
  refine hQ _ _ (zad (Xae ?_))
  clear hQ
  have h2:items (st2 ++ [O.lst (us.map tI)]) st2.length=some (us.map tI):=zah
  have kk2:Ex [] st (st2 ++ [O.lst (us.map tI)]):=(k1.trans k2).app _
  generalize (st2 ++ [O.lst (us.map tI)])=st3 at h2 kk2 ⊢
  generalize st2.length=uu at h2 ⊢
  refine Yaa ?_
  intro qhQ hQ
  set_option simprocs false in simp only [wpB]
  refine xaU (rs.map tI) (fun d=>!us.contains (ofT d)) (fun d=>tI (ofT d)) ?_ (by rw [List.length_map];omega) ?_ ?_ ?_
  ·refine Yaa ?_
   intro qhQ2 hQ2
   set_option simprocs false in simp only [wpB]
   exact hQ2 _ _ ⟨Xan _ _,Ex.refl⟩
  ·intro d hd st4 k4
   obtain ⟨r,hr',rfl⟩:=List.mem_map.mp hd
   refine Yaa ?_
   intro qhQ2 hQ2
   set_option simprocs false in simp only [wpB,List.map_cons,List.map_nil,List.getD_cons_succ,List.getD_cons_zero]
   rw [ZbP (es:=us.map tI) (n:=1) (XbA r) (by rw [yba];exact zaI h2 k4) (fun e he=>by
    obtain ⟨z,_,rfl⟩:=List.mem_map.mp he
    exact XbA z) (by decide)]
   refine ⟨_,rfl,hQ2 _ _ ⟨?_,Ex.refl⟩⟩
   rw [xaE]
   have e:∀ c:Decidable (tI r∈us.map tI),@decide (tI r∈us.map tI) c=us.contains r:=fun c=>by
    rw [Bool.eq_iff_iff,decide_eq_true_eq,List.contains_iff_mem,List.mem_map]
    constructor
    ·rintro ⟨z,hz,e⟩;rw [← ybR e];exact hz
    ·intro h;exact ⟨r,h,rfl⟩
   show (!_)=!us.contains r
   rw [e]
  ·intro d hd hq st4 k4
   obtain ⟨r,hr',rfl⟩:=List.mem_map.mp hd
   refine Yaa ?_
   intro qhQ2 hQ2
   set_option simprocs false in simp only [wpB]
   exact hQ2 _ _ ⟨by rw [xaE],Ex.refl⟩
  ·intro st4 k4
   have e3:=xbc rs (fun r=>!us.contains r) (fun r=>r)
   rw [List.map_id'] at e3
   rw [e3]
   have hq:∀ r∈rs,(!us.contains r)=true↔∀ p,Mth.Rw n xs p→Mth.Sm xs ys p→¬ Mth.Up n xs ys p r:=fun r hr'=>by
    rw [Bool.not_eq_true',← Bool.not_eq_true,List.contains_iff_mem,mus]
    constructor
    ·intro h p a s u;exact h ⟨p,a,s,u⟩
    ·rintro h ⟨p,a,s,u⟩;exact h p a s u
   have lw:Lows n xs ys rs (if rs.filter (fun r=>!us.contains r)=[] then [rs.headD []] else rs.filter fun r=>!us.contains r):=⟨_,hq,rfl⟩
   have hlw:=(lw.lw tx n0 hr)
   have hfl:(rs.filter fun r=>!us.contains r).length≤n:=Nat.le_trans (List.length_filter_le _ _) hl
   have h4:items (st4 ++ [O.lst ((rs.filter fun r=>!us.contains r).map tI)]) st4.length=some ((rs.filter fun r=>!us.contains r).map tI):=zah
   have kk4:Ex [] st (st4 ++ [O.lst ((rs.filter fun r=>!us.contains r).map tI)]):=(kk2.trans k4).app _
   have fin:∀ (lows:List (List Int)) (st5:Store) (r5:Nat),Lows n xs ys rs lows→lows.length≤n→items st5 r5=some (lows.map tI)→Ex [] st st5→Ws (fRet (fCB gTuple (fCons (fCB gSortD (fCons (fComp (iListF (fVar 3)) 1 [0] (hName 0) fTrue (fCB xax (fCons (fVar 1) (fCons (fVar 0) fNil)))) fNil)) fNil)) [some (flD xs ys),some (.tup (rs.map tI)),some (.ref uu),some (.ref r5)] st5) (fun _ st1=>BdsIs n xs ys st .non st1) (fun _ _=>False) (fun _ _=>False) (BdsIs n xs ys st):=by
    intro lows st5 r5 hL hln h5 k5
    have sub:=(hL.lw tx n0 hr).sub
    refine xal ?_
    refine Yaa ?_
    intro qhQ hQ
    set_option simprocs false in simp only [wpB]
    refine yaj (lows.map tI) (fun d=>bandD (ofT d) (B (ofT d))) ?_ (by rw [List.length_map];omega) ?_ ?_
    ·refine Yaa ?_
     intro qhQ2 hQ2
     set_option simprocs false in simp only [wpB]
     exact ⟨_,h5,hQ2 _ _ ⟨zbY h5,Ex.refl⟩⟩
    ·intro d hd st6 k6
     obtain ⟨l,hl',rfl⟩:=List.mem_map.mp hd
     have a:=rw' l (sub l hl')
     refine Yaa ?_
     intro qhQ2 hQ2
     set_option simprocs false in simp only [wpB,List.map_cons,List.map_nil,List.getD_cons_succ,List.getD_cons_zero]
     refine Yab (Za2 tx ty (by omega) a) ?_
     rintro d st7 ⟨b,rfl,hb',k7⟩
     refine hQ2 _ _ ⟨?_,k7⟩
     rw [xaE,hb'.unique (hB l a)]
    ·intro st6 k6
     have eB:(lows.map tI).map (fun d=>bandD (ofT d) (B (ofT d)))=lows.map fun l=>bandD l (B l):=by
      rw [List.map_map]
      refine List.map_congr_left fun l _=>?_
      show bandD (ofT (tI l)) (B (ofT (tI l)))=_
      rw [xaE]
     rw [eB,xbb ya1 (Zam (f:=toP _ 20) (g:=fun l=>bandD l (B l)) (k:=fun l=>bandP l (B l)) (fun l=>Zbu _ l (B l)) lows) (Xbu (by omega))]
     set_option simprocs false in simp only [wpB,zah]
     exact hQ _ _ ⟨rs,lows,B,rfl,hr,hL,fun l hl'=>hB l (rw' l (sub l hl')),hln,((k5.trans k6).app _).app _⟩
   refine hQ _ _ (zad (ZaG ?_))
   clear hQ
   refine Yaa ?_
   intro qhQ hQ
   set_option simprocs false in simp only [wpB,h4]
   refine hQ _ _ ⟨fun hc=>Xae ?_,fun hc=>Xam ?_⟩
   ·have hc:(rs.filter fun r=>!us.contains r)=[]:=by
     have h:=of_decide_eq_true hc
     rw [List.length_map] at h
     exact List.eq_nil_of_length_eq_zero (by omega)
    rw [if_pos hc] at lw
    obtain ⟨r0,hr0,_⟩:=hr.has (x:=0) (by decide) (by omega)
    have hhd:atI (rs.map tI) 0=some (tI (rs.headD [])):=by
     refine zaD (j:=0) ?_
     cases rs with
     | nil=>cases hr0
     | cons a t=>rfl
    clear hQ
    refine Yaa ?_
    intro qhQ hQ
    set_option simprocs false in simp only [wpB,hhd]
    refine ⟨rfl,hQ _ _ ?_⟩
    exact fin [rs.headD []] _ _ lw (by simp;omega) zah (kk4.app _)
   ·have hc:(rs.filter fun r=>!us.contains r)≠[]:=by
     have h:=of_decide_eq_false hc
     rw [List.length_map] at h
     intro z
     rw [z] at h
     exact h rfl
    rw [if_neg hc] at lw
    exact fin _ _ _ lw hfl h4 kk4
theorem xbZ (lows:List (List Int)) (B:List Int→List (List Int)):∃ M:List (List Int),M.Perm lows∧srtB lows B=M.map (fun l=>bandD l (B l))∧M.Pairwise fun l l'=>ltP (bandP l' (B l')) (bandP l (B l))=false:=by
 refine ⟨(srtI (lows.map fun l=>bandP l (B l))).map fun i=>lows.getD i [],?_,?_,?_⟩
 ·have h:=(xao (lows.map fun l=>bandP l (B l))).map fun i=>lows.getD i []
  refine h.trans ?_
  have e:(List.range (lows.map fun l=>bandP l (B l)).length).map (fun i=>lows.getD i [])=lows:=by
   refine List.ext_getElem (by simp) fun i h1 h2=>?_
   rw [List.getElem_map,List.getElem_range,List.getD_eq_getElem?_getD,List.getElem?_eq_getElem h2];rfl
  rw [e]
 ·unfold srtB srtD
  rw [List.map_map]
  refine List.map_congr_left fun i hi=>?_
  have hi':=List.mem_range.mp ((xao _).subset hi)
  rw [List.length_map] at hi'
  show (lows.map fun l=>bandD l (B l)).getD i .non=bandD (lows.getD i []) (B (lows.getD i []))
  rw [List.getD_eq_getElem?_getD,List.getElem?_map,List.getD_eq_getElem?_getD,List.getElem?_eq_getElem hi']
  rfl
 ·have h:=XaS (ps:=lows.map fun l=>bandP l (B l)) (fun a ha b hb=>by
   obtain ⟨p,_,rfl⟩:=List.mem_map.mp ha
   obtain ⟨q,_,rfl⟩:=List.mem_map.mp hb
   exact Ybu _ _ _ _)
  rw [List.pairwise_map] at h ⊢
  refine List.Pairwise.imp_of_mem (fun {i j} hi hj h=>?_) h
  have at':∀ i,i∈srtI (lows.map fun l=>bandP l (B l))→(lows.map fun l=>bandP l (B l)).getD i .none=bandP (lows.getD i []) (B (lows.getD i [])):=fun i hi=>by
   have hi':=List.mem_range.mp ((xao _).subset hi)
   rw [List.length_map] at hi'
   rw [List.getD_eq_getElem?_getD,List.getElem?_map,List.getD_eq_getElem?_getD,List.getElem?_eq_getElem hi']
   rfl
  rw [at' i hi,at' j hj] at h
  exact h
theorem XbZ (lows:List (List Int)) (B:List Int→List (List Int)):∃ M:List (List Int),M.Perm lows∧srtB lows B=M.map fun l=>bandD l (B l):=let ⟨M,h1,h2,_⟩:=xbZ lows B;⟨M,h1,h2⟩
theorem zb0 (l:List Int):tkOf (tI l)=some l:=xbY l
theorem ch_end {n:Nat} {xs ys l r u:List Int} {b:List (List Int)} (tx:Mth.Tn n xs) (ty:Mth.Tn n ys) (c:Mth.Ch n xs ys l b) (hr:b[b.length - 1]?=some r) (hs:Mth.Sm xs ys r) (up:Mth.Up n xs ys r u) (hm:u∈b):u=l:=by
 obtain ⟨j,hj⟩:=List.getElem?_of_mem hm
 cases j with
 | zero=>rw [c.hd] at hj;cases hj;rfl
 | succ j =>
  have hlt:=yac hj
  have h1:b[j]?=some b[j]:=List.getElem?_eq_getElem (by omega)
  obtain ⟨s1,u1⟩:=c.st j _ u h1 hj
  have e:=up.inj tx ty u1 (c.rw r (List.mem_of_getElem? hr)) (c.rw _ (List.getElem_mem _)) hs s1
  have:=(List.getElem?_inj (show b.length - 1 < b.length by omega) c.nd).mp (hr.trans (by rw [e];exact h1.symm))
  omega
theorem ZbR {st:Store} {Q:D→Store→Prop} {neg:Bool} {a b:Nat} {L M:List (List Int)} (ha:items st a=some (L.map tI)) (hb:items st b=some (M.map tI)):Wp (gEqD neg (.ref a) (.ref b) st) Q↔Q (.bl (if neg then !decide (L=M) else decide (L=M))) st:=by
 have p1:∀ (i:Nat) (N:List (List Int)),items st i=some (N.map tI)→toP st 20 (.ref i)=some (.list (N.map tupD)):=fun i N h=>by
  simp only [toP,h]
  rw [Zam (f:=toP st 19) (g:=tI) (k:=tupD) (fun l=>ybu st 17 l) N];rfl
 have dp:∀ N:List (List Int),PyData.depth (.list (N.map tupD))≤2:=fun N=>by show PyData.depthAll (N.map tupD) + 1≤2;have:=ZaV N;omega
 rw [xbN]
 constructor
 ·rintro ⟨p,q,h1,h2,_,h⟩
  rw [p1 a L ha] at h1
  rw [p1 b M hb] at h2
  cases h1
  cases h2
  rw [YaU,zbo] at h
  exact h
 ·intro h
  refine ⟨_,_,p1 a L ha,p1 b M hb,⟨YaJ L,YaJ M,by have:=dp L;omega⟩,?_⟩
  rw [YaU,zbo]
  exact h
noncomputable def upl (L:List (List Int)) (U:List Int→List Int):List (List Int×D):=L.map fun r=>(r,tI (U r))
theorem Ya2 (U:List Int→List Int) (r:List Int):∀ L:List (List Int),valU (upl L U) r=if r∈L then some (tI (U r)) else none
 | []=>rfl
 | a :: L=>by
  have ih:=Ya2 U r L
  unfold valU upl at ih ⊢
  rw [List.map_cons,List.find?_cons]
  by_cases e:a=r
  ·subst e
   rw [if_pos List.mem_cons_self]
   simp
  ·rw [show decide (a=r)=false from decide_eq_false e]
   simp only [List.mem_cons,show ¬ r=a from fun z=>e z.symm,false_or]
   exact ih
theorem Zcg {U:List Int→List Int} {L:List (List Int)} {r:List Int} (h:r ∉ L):putU (upl L U) r (tI (U r))=upl (L ++ [r]) U:=by
 unfold putU
 rw [Ya2,if_neg h,if_neg (by simp)]
 unfold upl
 rw [List.map_append];rfl
theorem Xbc {st:Store} {xs ys:List Int} {n:Nat} (tx:Mth.Tn n xs) (ty:Mth.Tn n ys) (n0:0 < n) (hn:n≤60):Wp (yaz [flD xs ys] st) (BdsIs n xs ys st):=by
 have hlx:=tx.length
 have hly:=ty.length
 obtain ⟨U,hU⟩:∃ U:List Int→List Int,∀ r,Mth.Rw n xs r→Mth.Sm xs ys r→Mth.Up n xs ys r (U r):=by
  have:∀ r,∃ r',Mth.Rw n xs r→Mth.Sm xs ys r→Mth.Up n xs ys r r':=fun r=>by
   by_cases h:Mth.Rw n xs r∧Mth.Sm xs ys r
   ·obtain ⟨_,_,_,r',_,u,_⟩:=YaQ (st:=[]) tx ty (by omega) h.1 h.2
    exact ⟨r',fun _ _=>u⟩
   ·exact ⟨[],fun a b=>absurd ⟨a,b⟩ h⟩
  exact ⟨fun r=>Classical.choose (this r),fun r=>Classical.choose_spec (this r)⟩
 obtain ⟨B,hB⟩:∃ B:List Int→List (List Int),∀ l,Mth.Rw n xs l→Mth.Bd n xs ys l (B l):=by
  have:∀ l,∃ b,Mth.Rw n xs l→Mth.Bd n xs ys l b:=fun l=>by
   by_cases h:Mth.Rw n xs l
   ·obtain ⟨_,_,_,b,_,u,_⟩:=Za2 (st:=[]) tx ty (by omega) h
    exact ⟨b,fun _=>u⟩
   ·exact ⟨[],fun a=>absurd a h⟩
  exact ⟨fun r=>Classical.choose (this r),fun r=>Classical.choose_spec (this r)⟩
 refine YaA ?_
 show Ws (XaF [some (flD xs ys),none,none,none,none,none,none,none] st) _ _ _ _
 unfold XaF
 refine zad (YaR ?_)
 refine Yaa ?_
 intro qhQ hQ
 set_option simprocs false in simp only [wpB]
 refine Yab (za4 tx ty (by omega)) ?_
 rintro d st1 ⟨rfl,k1⟩
 rw [za2]
 refine Yab (zaM tx (by omega)) ?_
 rintro d st2 ⟨rs,rfl,hr,hb,hl,k2⟩
 have rw':=hr.rw tx
 have hnd:=hr.nodup tx
 have e0:tts rs=D.tup (rs.map tI):=rfl
 rw [e0]
 refine ⟨rfl,hQ _ _ ?_⟩
 clear hQ
 refine Yaa ?_
 intro qhQ hQ
 set_option simprocs false in simp only [wpB]
 refine ⟨rfl,hQ _ _ (zad (Xae ?_))⟩
 clear hQ
 refine Yaa ?_
 intro qhQ hQ
 set_option simprocs false in simp only [wpB,xcf]
 have kk:Ex [] st (st2 ++ [O.dcu []]):=(k1.trans k2).app _
 have hc0:(st2 ++ [O.dcu []])[st2.length]?=some (O.dcu []):=xag
 have hcl:st.length≤st2.length:=(k1.trans k2).len
 refine hQ _ _ ?_
 clear hQ
 generalize (st2 ++ [O.dcu []])=st3 at kk hc0 ⊢
 generalize st2.length=c at hcl hc0 ⊢
 refine zad (xaR (rs.map tI) (fun k δ s=>∃ (v4:Option D),δ=[some (flD xs ys),some (.tup ((Mth.rnd xs ys).map D.int)),some (.tup (rs.map tI)),some (.ref c),v4,none,none,none]∧s[c]?=some (.dcu (upl ((rs.take k).filter fun r=>decide (Mth.Sm xs ys r)) U))∧Ex [] st s) ?_ (by rw [List.length_map];omega) ?_ ?_)
 ·refine Yaa ?_
  intro qhQ hQ
  set_option simprocs false in simp only [wpB]
  exact hQ _ _ ⟨rfl,_,rfl,hc0,kk⟩
 ·rintro k d δ s hd ⟨v4,rfl,hc,ks⟩
  obtain ⟨r,hrk,rfl⟩:∃ r,rs[k]?=some r∧d=tI r:=by
   rw [List.getElem?_map] at hd
   obtain ⟨l,h1,h2⟩:=Option.map_eq_some_iff.mp hd
   exact ⟨l,h1,h2.symm⟩
  have hr1:=List.mem_of_getElem? hrk
  have hkl:=yac hrk
  have ar:=rw' r hr1
  have brd:=ar.bound tx
  have rln:=ar.len tx
  have etk:rs.take (k + 1)=rs.take k ++ [r]:=by rw [List.take_succ,hrk];rfl
  refine Yaa ?_
  intro qhQ hQ
  set_option simprocs false in simp only [wpB]
  refine hQ _ _ (ZaG ?_)
  clear hQ
  unfold tI
  refine Yaa ?_
  intro qhQ hQ
  set_option simprocs false in simp only [wpB]
  refine xaU (r.map D.int) (fun d=>decide (Mth.app (Mth.rnd xs ys) (inD d)≠inD d)) (fun d=>d) ?_ (by rw [List.length_map];omega) ?_ ?_ ?_
  ·refine Yaa ?_
   intro qhQ2 hQ2
   set_option simprocs false in simp only [wpB]
   exact hQ2 _ _ ⟨Xan _ _,Ex.refl⟩
  ·intro d hd st5 k5
   obtain ⟨x,hx,rfl⟩:=zaq hd
   obtain ⟨x0,x1⟩:=brd x hx
   refine Yaa ?_
   intro qhQ2 hQ2
   set_option simprocs false in simp only [wpB,List.map_cons,List.map_nil,List.getD_cons_succ,List.getD_cons_zero,xau (xs:=Mth.rnd xs ys) x0 (by rw [(tx.rnd ty).length];exact x1)]
   refine hQ2 _ _ ⟨?_,Ex.refl⟩
   show _=decide (Mth.app (Mth.rnd xs ys) x≠x)
   rw [decide_not]
  ·intro d hd hq st5 k5
   obtain ⟨x,hx,rfl⟩:=zaq hd
   refine Yaa ?_
   intro qhQ2 hQ2
   set_option simprocs false in simp only [wpB,List.map_cons,List.map_nil,List.getD_cons_succ,List.getD_cons_zero]
   exact hQ2 _ _ ⟨rfl,Ex.refl⟩
  ·intro st5 k5
   have eF:((r.map D.int).filter fun d=>decide (Mth.app (Mth.rnd xs ys) (inD d)≠inD d)).map (fun d=>d)=(r.filter fun x=>decide (Mth.app (Mth.rnd xs ys) x≠x)).map D.int:=by
    rw [List.map_id',List.filter_map];rfl
   rw [eF]
   refine ⟨rfl,?_⟩
   have hA:items (st5 ++ [O.lst ((r.filter fun x=>decide (Mth.app (Mth.rnd xs ys) x≠x)).map D.int)] ++ [O.lst []]) st5.length=some ((r.filter fun x=>decide (Mth.app (Mth.rnd xs ys) x≠x)).map D.int):=zac (Xaf xag)
   have hE:items (st5 ++ [O.lst ((r.filter fun x=>decide (Mth.app (Mth.rnd xs ys) x≠x)).map D.int)] ++ [O.lst []]) (st5 ++ [O.lst ((r.filter fun x=>decide (Mth.app (Mth.rnd xs ys) x≠x)).map D.int)]).length=some (([]:List Int).map D.int):=zah
   rw [ybO hA hE]
   clear hA hE
   have eS:decide ((r.filter fun x=>decide (Mth.app (Mth.rnd xs ys) x≠x))=[])=decide (Mth.Sm xs ys r):=by
    rw [Bool.eq_iff_iff,decide_eq_true_eq,decide_eq_true_eq,List.filter_eq_nil_iff]
    constructor
    ·intro h x hx
     have:=h x hx
     exact (Mth.Ya9 tx ty (brd x hx).1 (brd x hx).2).mp (by simpa using this)
    ·intro h x hx
     have:=(Mth.Ya9 tx ty (brd x hx).1 (brd x hx).2).mpr (h x hx)
     simp [this]
   rw [if_neg (by decide),eS]
   have k6:Ex [] st (st5 ++ [O.lst ((r.filter fun x=>decide (Mth.app (Mth.rnd xs ys) x≠x)).map D.int)] ++ [O.lst []]):=((ks.trans k5).app _).app _
   have hc6:(st5 ++ [O.lst ((r.filter fun x=>decide (Mth.app (Mth.rnd xs ys) x≠x)).map D.int)] ++ [O.lst []])[c]?=some (.dcu (upl ((rs.take k).filter fun r=>decide (Mth.Sm xs ys r)) U)):=Xaf (Xaf (k5.keep _ _ hc (by simp)))
   generalize (st5 ++ [O.lst ((r.filter fun x=>decide (Mth.app (Mth.rnd xs ys) x≠x)).map D.int)] ++ [O.lst []])=s6 at k6 hc6 ⊢
   refine ⟨_,rfl,hQ _ _ ⟨fun hs=>?_,fun hs=>Xam ⟨_,rfl,?_,k6⟩⟩⟩
   ·have sm:Mth.Sm xs ys r:=of_decide_eq_true hs
    obtain ⟨x,hx0⟩:∃ x,r[0]?=some x:=by
     obtain ⟨y,hy⟩:=ar.one
     exact ⟨r[0]'(List.length_pos_of_mem hy),List.getElem?_eq_getElem _⟩
    have hxr:=List.mem_of_getElem? hx0
    obtain ⟨x0,x1⟩:=brd x hxr
    obtain ⟨y0,y1⟩:=ty.app x0 x1
    have hat:atI (r.map D.int) 0=some (.int x):=zaD (j:=0) (by rw [List.getElem?_map,hx0];rfl)
    refine Xcf ?_
    clear hQ
    refine Yaa ?_
    intro qhQ hQ
    set_option simprocs false in simp only [wpB]
    refine xaU (rs.map tI) (fun d=>(ofT d).contains (Mth.app ys x)) (fun d=>tI (ofT d)) ?_ (by rw [List.length_map];omega) ?_ ?_ ?_
    ·refine Yaa ?_
     intro qhQ2 hQ2
     set_option simprocs false in simp only [wpB]
     exact hQ2 _ _ ⟨Xan _ _,Ex.refl⟩
    ·intro d hd s8 k8
     obtain ⟨u,hu,rfl⟩:=List.mem_map.mp hd
     unfold tI
     refine Yaa ?_
     intro qhQ2 hQ2
     set_option simprocs false in simp only [wpB,List.map_cons,List.map_nil,List.getD_cons_succ,List.getD_cons_zero,zbR,hat,xau (xs:=ys) x0 (by rw [hly];exact x1)]
     rw [zbt (ns:=u) zbN]
     refine ⟨_,rfl,hQ2 _ _ ⟨?_,Ex.refl⟩⟩
     show _=(ofT (tI u)).contains (Mth.app ys x)
     rw [xaE];rfl
    ·intro d hd hq s8 k8
     obtain ⟨u,hu,rfl⟩:=List.mem_map.mp hd
     refine Yaa ?_
     intro qhQ2 hQ2
     set_option simprocs false in simp only [wpB,List.map_cons,List.map_nil,List.getD_cons_succ,List.getD_cons_zero]
     exact hQ2 _ _ ⟨by rw [xaE],Ex.refl⟩
    ·intro s8 k8
     have eF:=xbc rs (fun u=>u.contains (Mth.app ys x)) (fun u=>u)
     rw [List.map_id'] at eF
     rw [eF]
     obtain ⟨u,hu0⟩:∃ u,(rs.filter fun u=>u.contains (Mth.app ys x))[0]?=some u:=by
      obtain ⟨u,hu,hy⟩:=hr.has y0 y1
      have hm:u∈rs.filter fun u=>u.contains (Mth.app ys x):=List.mem_filter.mpr ⟨hu,List.contains_iff_mem.mpr hy⟩
      exact ⟨_,List.getElem?_eq_getElem (List.length_pos_of_mem hm)⟩
     obtain ⟨hu,huy⟩:=List.mem_filter.mp (List.mem_of_getElem? hu0)
     have huy:Mth.app ys x∈u:=List.contains_iff_mem.mp huy
     have up:Mth.Up n xs ys r u:=⟨rw' u hu,x,hxr,huy⟩
     have eU:u=U r:=up.uniq (hU r ar sm) ar sm
     have hat0:atI ((rs.filter fun u=>u.contains (Mth.app ys x)).map tI) 0=some (tI u):=zaD (j:=0) (by rw [List.getElem?_map,hu0];rfl)
     have k9:Ex [] st (s8 ++ [O.lst ((rs.filter fun u=>u.contains (Mth.app ys x)).map tI)]):=(k6.trans k8).app _
     have hc9:(s8 ++ [O.lst ((rs.filter fun u=>u.contains (Mth.app ys x)).map tI)])[c]?=some (.dcu (upl ((rs.take k).filter fun r=>decide (Mth.Sm xs ys r)) U)):=Xaf (k8.keep _ _ hc6 (by simp))
     have hi9:items (s8 ++ [O.lst ((rs.filter fun u=>u.contains (Mth.app ys x)).map tI)]) s8.length=some ((rs.filter fun u=>u.contains (Mth.app ys x)).map tI):=zah
     generalize (s8 ++ [O.lst ((rs.filter fun u=>u.contains (Mth.app ys x)).map tI)])=s9 at k9 hc9 hi9 ⊢
     set_option simprocs false in simp only [wpB,hi9,hat0]
     refine hQ _ _ ?_
     set_option simprocs false in simp only [wpB]
     have nin:r ∉ (rs.take k).filter fun r=>decide (Mth.Sm xs ys r):=fun hm=>by
      obtain ⟨i,hi⟩:=List.getElem?_of_mem (List.mem_filter.mp hm).1
      have hik:i < k:=by have:=yac hi;rw [List.length_take] at this;omega
      rw [List.getElem?_take_of_lt hik] at hi
      have:=(List.getElem?_inj (yac hi) hnd).mp (hi.trans hrk.symm)
      omega
     refine ⟨_,XaU hc9,r,zb0 r,xak ?_,?_,k9.loc hcl⟩
     ·unfold upl
      rw [List.length_map]
      exact Nat.le_trans (List.length_filter_le _ _) (by rw [List.length_take];omega)
     ·rw [List.getElem?_set_self (yac hc9),eU,Zcg nin,etk,List.filter_append]
      simp [sm]
   ·have ns:¬ Mth.Sm xs ys r:=of_decide_eq_false hs
    rw [etk,List.filter_append,hc6]
    simp [ns]
 ·rintro δ s ⟨v4,rfl,hc,ks⟩
  rw [List.length_map,List.take_length] at hc
  have hLm:∀ r,r∈rs.filter (fun r=>decide (Mth.Sm xs ys r))↔Mth.Rw n xs r∧Mth.Sm xs ys r:=fun r=>by
   rw [List.mem_filter,hr.mem tx,decide_eq_true_eq]
  generalize hL:(rs.filter fun r=>decide (Mth.Sm xs ys r))=L at hc hLm
  have hLl:L.length≤n:=by rw [← hL];exact Nat.le_trans (List.length_filter_le _ _) hl
  have eV:(upl L U).map (·.2)=(L.map U).map tI:=by unfold upl;rw [List.map_map,List.map_map];rfl
  have mus:∀ r,r∈L.map U↔∃ p,Mth.Rw n xs p∧Mth.Sm xs ys p∧Mth.Up n xs ys p r:=fun r=>by
   rw [List.mem_map]
   constructor
   ·rintro ⟨p,hp,rfl⟩
    obtain ⟨a,sm⟩:=(hLm p).mp hp
    exact ⟨p,a,sm,hU p a sm⟩
   ·rintro ⟨p,a,sm,up⟩
    exact ⟨p,(hLm p).mpr ⟨a,sm⟩,(hU p a sm).uniq up a sm⟩
  generalize L.map U=us at eV mus
  refine zad (Xae ?_)
  refine Yaa ?_
  intro _ hQ
  refine xaU (rs.map tI) (fun d=>!us.contains (ofT d)) (fun d=>tI (ofT d)) ?_ (by rw [List.length_map];omega) ?_ ?_ ?_
  ·refine Yaa ?_
   intro qhQ2 hQ2
   set_option simprocs false in simp only [wpB]
   exact hQ2 _ _ ⟨Xan _ _,Ex.refl⟩
  ·intro d hd s4 k4
   obtain ⟨r,hr',rfl⟩:=List.mem_map.mp hd
   refine Yaa ?_
   intro qhQ2 hQ2
   set_option simprocs false in simp only [wpB,List.map_cons,List.map_nil,List.getD_cons_succ,List.getD_cons_zero,zbZ]
   refine ⟨_,XaU (k4.keep _ _ hc (by simp)),?_⟩
   rw [eV,ZbP (es:=us.map tI) (n:=1) (XbA r) (by rw [yba];exact zah) (fun e he=>by
    obtain ⟨z,_,rfl⟩:=List.mem_map.mp he
    exact XbA z) (by decide)]
   refine ⟨_,rfl,hQ2 _ _ ⟨?_,(Ex.refl).app _⟩⟩
   rw [xaE]
   have e:∀ c:Decidable (tI r∈us.map tI),@decide (tI r∈us.map tI) c=us.contains r:=fun c=>by
    rw [Bool.eq_iff_iff,decide_eq_true_eq,List.contains_iff_mem,List.mem_map]
    constructor
    ·rintro ⟨z,hz,e⟩;rw [← ybR e];exact hz
    ·intro h;exact ⟨r,h,rfl⟩
   show (!_)=!us.contains r
   rw [e]
  ·intro d hd hq s4 k4
   obtain ⟨r,hr',rfl⟩:=List.mem_map.mp hd
   refine Yaa ?_
   intro qhQ2 hQ2
   set_option simprocs false in simp only [wpB,List.map_cons,List.map_nil,List.getD_cons_succ,List.getD_cons_zero]
   exact hQ2 _ _ ⟨by rw [xaE],Ex.refl⟩
  ·intro s4 k4
   have e3:=xbc rs (fun r=>!us.contains r) (fun r=>r)
   rw [List.map_id'] at e3
   rw [e3]
   have hq:∀ r∈rs,(!us.contains r)=true↔∀ p,Mth.Rw n xs p→Mth.Sm xs ys p→¬ Mth.Up n xs ys p r:=fun r hr'=>by
    rw [Bool.not_eq_true',← Bool.not_eq_true,List.contains_iff_mem,mus]
    constructor
    ·intro h p a s u;exact h ⟨p,a,s,u⟩
    ·rintro h ⟨p,a,s,u⟩;exact h p a s u
   have lw:Lows n xs ys rs (if rs.filter (fun r=>!us.contains r)=[] then [rs.headD []] else rs.filter fun r=>!us.contains r):=⟨_,hq,rfl⟩
   have hlw:=(lw.lw tx n0 hr)
   have hfl:(rs.filter fun r=>!us.contains r).length≤n:=Nat.le_trans (List.length_filter_le _ _) hl
   have h4:(s4 ++ [O.lst ((rs.filter fun r=>!us.contains r).map tI)])[s4.length]?=some (.lst ((rs.filter fun r=>!us.contains r).map tI)):=xag
   have kk4:Ex [] st (s4 ++ [O.lst ((rs.filter fun r=>!us.contains r).map tI)]):=(ks.trans k4).app _
   have hc4:(s4 ++ [O.lst ((rs.filter fun r=>!us.contains r).map tI)])[c]?=some (.dcu (upl L U)):=Xaf (k4.keep _ _ hc (by simp))
   generalize hbg:(rs.filter fun r=>!us.contains r)=bg at h4 kk4 hc4 lw hlw hfl ⊢
   generalize hlo:(if bg=[] then [rs.headD []] else bg)=lows at lw hlw
   refine hQ _ _ (zad (Xae ?_))
   clear hQ
   generalize (s4 ++ [O.lst (bg.map tI)])=s5 at h4 kk4 hc4 ⊢
   generalize s4.length=rb at h4 ⊢
   refine Yaa ?_
   intro qhQ hQ
   set_option simprocs false in simp only [wpB]
   refine ⟨rfl,hQ _ _ ?_⟩
   clear hQ
   have h5:(s5 ++ [O.lst []])[s5.length]?=some (.lst []):=xag
   have hb5:(s5 ++ [O.lst []])[rb]?=some (.lst (bg.map tI)):=Xaf h4
   have hc5:(s5 ++ [O.lst []])[c]?=some (.dcu (upl L U)):=Xaf hc4
   have kk5:Ex [] st (s5 ++ [O.lst []]):=kk4.app _
   have hfs:st.length≤s5.length:=kk4.len
   generalize (s5 ++ [O.lst []])=s6 at h5 hb5 hc5 kk5 ⊢
   generalize s5.length=rf at h5 hfs ⊢
   have hlen2:lows.length≤n:=by
    rw [← hlo];split
    ·simp;omega
    ·exact hfl
   have hlist:bg.map tI ++ (List.replicate (if decide (bg=[])=true then (1:Int) else 0).toNat ((rs.map tI).take 1)).flatten=lows.map tI:=by
    rw [← hlo]
    by_cases e:bg=[]
    ·subst e
     obtain ⟨r0,hr0,_⟩:=hr.has (x:=0) (by decide) (by omega)
     cases rs with
     | nil=>cases hr0
     | cons a t=>rfl
    ·rw [if_neg e,if_neg (by simpa using e)]
     simp
   have ecut:cutD (rs.map tI) none (some 1)=(rs.map tI).take 1:=XbO (rs.map tI) 1
   refine zad (Ybn (lows.map tI) (s6.length + 3) (fun j δ s=>∃ (v4 v7:Option D),δ=[some (flD xs ys),some (.tup ((Mth.rnd xs ys).map D.int)),some (.tup (rs.map tI)),some (.ref c),v4,some (.ref rb),some (.ref rf),v7]∧items s (s6.length + 3)=some (lows.map tI)∧s[c]?=some (.dcu (upl L U))∧s[rf]?=some (.lst ((lows.take j).map fun l=>bandD l (B l)))∧Ex [] st s) ?_ (by rw [List.length_map];omega) ?_ ?_ ?_)
   ·refine Yaa ?_
    intro qhQ hQ
    set_option simprocs false in simp only [wpB,zac hb5,ecut]
    refine ⟨rfl,?_⟩
    have hA:items (s6 ++ [O.lst ((rs.map tI).take 1)] ++ [O.lst []]) rb=some (bg.map tI):=zac (Xaf (Xaf hb5))
    have hE:items (s6 ++ [O.lst ((rs.map tI).take 1)] ++ [O.lst []]) (s6 ++ [O.lst ((rs.map tI).take 1)]).length=some (([]:List (List Int)).map tI):=zah
    rw [ZbR hA hE,if_neg (by decide)]
    clear hA hE
    have hO:own (s6 ++ [O.lst ((rs.map tI).take 1)] ++ [O.lst []]) s6.length=some ((rs.map tI).take 1):=Xah (Xaf xag)
    have hb7:(s6 ++ [O.lst ((rs.map tI).take 1)] ++ [O.lst []])[rb]?=some (.lst (bg.map tI)):=Xaf (Xaf hb5)
    have hc7:(s6 ++ [O.lst ((rs.map tI).take 1)] ++ [O.lst []])[c]?=some (.dcu (upl L U)):=Xaf (Xaf hc5)
    have hf7:(s6 ++ [O.lst ((rs.map tI).take 1)] ++ [O.lst []])[rf]?=some (.lst []):=Xaf (Xaf h5)
    have kk7:Ex [] st (s6 ++ [O.lst ((rs.map tI).take 1)] ++ [O.lst []]):=(kk5.app _).app _
    have e7:(s6 ++ [O.lst ((rs.map tI).take 1)] ++ [O.lst []]).length=s6.length + 2:=by simp
    generalize (s6 ++ [O.lst ((rs.map tI).take 1)] ++ [O.lst []])=s7 at hO hb7 hc7 hf7 kk7 e7 ⊢
    set_option simprocs false in simp only [wpB,hO]
    generalize hF:(List.replicate (if decide (bg=[])=true then (1:Int) else 0).toNat ((rs.map tI).take 1)).flatten=F at hlist ⊢
    have hFl:bg.length + F.length=lows.length:=by
     have:=congrArg List.length hlist
     rwa [List.length_append,List.length_map,List.length_map] at this
    have e8:(s7 ++ [O.lst F]).length=s6.length + 3:=by rw [List.length_append,e7];rfl
    refine ⟨⟨by split <;> decide,by split <;> decide⟩,xak ?_,_,Xah (Xaf hb7),xak (by rw [List.length_map];omega),hQ _ _ ⟨by rw [e8],_,_,rfl,?_,Xaf (Xaf hc7),Xaf (Xaf hf7),(kk7.app _).app _⟩⟩
    ·have h1:((rs.map tI).take 1).length≤1:=by rw [List.length_take];omega
     have h2:(if decide (bg=[])=true then (1:Int) else 0).toNat≤1:=by split <;> decide
     exact Nat.le_trans (Nat.mul_le_mul h1 h2) (by decide)
    ·rw [← e8,hlist];exact zah
   ·rintro j δ s ⟨_,_,_,h,_⟩
    exact h
   ·rintro j d δ s hd ⟨v4,v7,rfl,hit,hcj,hfj,kj⟩
    obtain ⟨l,hlj,rfl⟩:∃ l,lows[j]?=some l∧d=tI l:=by
     rw [List.getElem?_map] at hd
     obtain ⟨l,h1,h2⟩:=Option.map_eq_some_iff.mp hd
     exact ⟨l,h1,h2.symm⟩
    have hl1:=hlw.sub l (List.mem_of_getElem? hlj)
    have al:=rw' l hl1
    have hll:=al.len tx
    refine Yaa ?_
    intro qhQ hQ
    set_option simprocs false in simp only [wpB]
    refine hQ _ _ (zad (Xae ?_))
    clear hQ
    refine Yaa ?_
    intro qhQ hQ
    set_option simprocs false in simp only [wpB]
    have hjl:st.length≤s.length:=kj.len
    refine ⟨rfl,hQ _ _ (zad (ZaK (fun m δ s2=>∃ b:List (List Int),m=n - b.length∧δ=[some (flD xs ys),some (.tup ((Mth.rnd xs ys).map D.int)),some (.tup (rs.map tI)),some (.ref c),some (tI l),some (.ref rb),some (.ref rf),some (.ref s.length)]∧s2[s.length]?=some (.lst (b.map tI))∧Mth.Ch n xs ys l b∧Ex [] s s2) (n - 1) (Nat.lt_of_le_of_lt (show n - 1≤100 by omega) (by decide)) ⟨[l],rfl,rfl,xag,Mth.Ch.one al,Ex.app0 _⟩ ?_))⟩
    clear hQ
    rintro m δ s2 ⟨b,rfl,rfl,hL2,ch,k2⟩
    have hb:=ch.len tx
    have hb0:0 < b.length:=by have:=(List.getElem?_eq_some_iff.mp ch.hd).1;omega
    obtain ⟨r,hr2⟩:∃ r,b[b.length - 1]?=some r:=⟨b[b.length - 1],List.getElem?_eq_getElem (by omega)⟩
    have ar:=ch.rw r (List.mem_of_getElem? hr2)
    have hat:atI (b.map tI) (-1)=some (tI r):=zb3 (by rw [List.length_map,List.getElem?_map,hr2];rfl)
    have hc2:=k2.keep _ _ hcj (by simp)
    have hf2:=k2.keep _ _ hfj (by simp)
    refine Yaa ?_
    intro qhQ hQ
    set_option simprocs false in simp only [wpB,zac hL2,hat,wp_uin,ZbQ]
    refine ⟨_,XaU hc2,r,zb0 r,?_⟩
    suffices key:qhQ (decide (Mth.Sm xs ys r∧U r ∉ b)) s2 by
     rw [Ya2]
     by_cases sm:Mth.Sm xs ys r
     ·have hm:r∈L:=(hLm r).mpr ⟨ar,sm⟩
      rw [if_pos hm,if_pos (show (some (tI (U r))).isSome=true from rfl)]
      refine ⟨_,XaU hc2,r,zb0 r,_,by rw [Ya2,if_pos hm],?_⟩
      rw [ZbP (es:=b.map tI) (n:=1) (XbA _) (by rw [yba];exact zac hL2) (fun e he=>by
       obtain ⟨z,_,rfl⟩:=List.mem_map.mp he
       exact XbA z) (by decide)]
      have e:∀ cc:Decidable (tI (U r)∈b.map tI),(!@decide (tI (U r)∈b.map tI) cc)=decide (Mth.Sm xs ys r∧U r ∉ b):=fun cc=>by
       rw [Bool.eq_iff_iff,Bool.not_eq_true',decide_eq_false_iff_not,decide_eq_true_eq,List.mem_map]
       constructor
       ·intro h;exact ⟨sm,fun z=>h ⟨U r,z,rfl⟩⟩
       ·rintro ⟨_,h⟩ ⟨z,hz,e⟩;rw [ybR e] at hz;exact h hz
      rw [if_pos rfl,e]
      exact ⟨_,rfl,key⟩
     ·have hm:r ∉ L:=fun z=>sm ((hLm r).mp z).2
      rw [if_neg hm,if_neg (by simp)]
      rw [decide_eq_false (fun z=>sm z.1)] at key
      exact key
    refine hQ _ _ ⟨fun ht=>?_,fun hf=>?_⟩
    ·obtain ⟨sm,nin⟩:=of_decide_eq_true ht
     have hm:r∈L:=(hLm r).mpr ⟨ar,sm⟩
     have c':=ch.snoc tx ty hr2 sm (hU r ar sm) (fun z=>nin (by rw [z];exact List.mem_of_getElem? ch.hd))
     have hb':=c'.len tx
     rw [List.length_append,List.length_singleton] at hb'
     clear hQ
     refine ZaA ?_
     refine Yaa ?_
     intro qhQ hQ
     set_option simprocs false in simp only [wpB,zac hL2,Xah hL2,hat,ZbQ]
     refine ⟨Xap (by rw [zac hL2];rfl),_,XaU hc2,r,zb0 r,_,by rw [Ya2,if_pos hm],xak (by rw [List.length_map];omega),hQ _ _ ⟨n - (b.length + 1),by omega,b ++ [U r],by rw [List.length_append,List.length_singleton],rfl,?_,c',k2.loc (Nat.le_refl _)⟩⟩
     rw [List.getElem?_set_self (yac hL2),List.map_append];rfl
    ·have bd:Mth.Bd n xs ys l b:=⟨ch,fun q hq hs=>by
      rw [hr2] at hq
      cases hq
      have hm:U r∈b:=Classical.byContradiction fun z=>of_decide_eq_false hf ⟨hs,z⟩
      have up:=hU r ar hs
      rw [ch_end tx ty ch hr2 hs up hm] at up
      exact up⟩
     have eb:b=B l:=bd.unique (hB l al)
     clear hQ
     refine ZaA ?_
     refine Yaa ?_
     intro qhQ hQ
     set_option simprocs false in simp only [wpB,zac hL2,Xah hf2]
     have hrf:=yac h5
     have hrc:=yac hc5
     have htl:(lows.take j).length≤n:=by rw [List.length_take];omega
     have hne:rf≠c:=fun z=>by rw [z,hc5] at h5;cases h5
     refine ⟨Xap (by rw [zac hf2];rfl),l.map D.int,rfl,rfl,xak (by rw [List.length_map];omega),hQ _ _ ⟨_,_,rfl,?_,?_,?_,(kj.trans k2).loc hfs⟩⟩
     ·have h3:=zaI hit k2
      unfold items at h3 ⊢
      rw [List.getElem?_set_ne (by omega)];exact h3
     ·rw [List.getElem?_set_ne hne];exact hc2
     ·rw [List.getElem?_set_self (yac hf2),List.take_succ,hlj,eb]
      simp only [Option.toList_some,List.map_append,List.map_cons,List.map_nil,List.length_map]
      rfl
   ·rintro δ s ⟨v4,v7,rfl,hit,hcj,hfj,kj⟩
    rw [List.length_map,List.take_length] at hfj
    refine xal ?_
    refine Yaa ?_
    intro qhQ hQ
    set_option simprocs false in simp only [wpB]
    rw [xbb (Xah hfj) (Zam (f:=toP _ 20) (g:=fun l=>bandD l (B l)) (k:=fun l=>bandP l (B l)) (fun l=>Zbu _ l (B l)) lows) (Xbu (by omega))]
    set_option simprocs false in simp only [wpB,zah]
    exact hQ _ _ ⟨rs,lows,B,rfl,hr,lw,fun l hl'=>hB l (rw' l (hlw.sub l hl')),hlen2,kj.app _⟩
theorem Ycg {α:Type} (z:α) (L:List α) (g:α→D) (k:α→PyData) (hok:∀ a∈L,∀ b∈L,okP (k a) (k b)=true):∃ M:List α,M.Perm L∧srtD (L.map g) (L.map k)=M.map g∧M.Pairwise fun a b=>ltP (k b) (k a)=false:=by
 refine ⟨(srtI (L.map k)).map fun i=>L.getD i z,?_,?_,?_⟩
 ·have h:=(xao (L.map k)).map fun i=>L.getD i z
  refine h.trans ?_
  have e:(List.range (L.map k).length).map (fun i=>L.getD i z)=L:=by
   refine List.ext_getElem (by simp) fun i h1 h2=>?_
   rw [List.getElem_map,List.getElem_range,List.getD_eq_getElem?_getD,List.getElem?_eq_getElem h2];rfl
  rw [e]
 ·unfold srtD
  rw [List.map_map]
  refine List.map_congr_left fun i hi=>?_
  have hi':=List.mem_range.mp ((xao _).subset hi)
  rw [List.length_map] at hi'
  show (L.map g).getD i .non=g (L.getD i z)
  rw [List.getD_eq_getElem?_getD,List.getElem?_map,List.getD_eq_getElem?_getD,List.getElem?_eq_getElem hi']
  rfl
 ·have h:=XaS (ps:=L.map k) (fun a ha b hb=>by
   obtain ⟨p,hp,rfl⟩:=List.mem_map.mp ha
   obtain ⟨q,hq,rfl⟩:=List.mem_map.mp hb
   exact hok p hp q hq)
  rw [List.pairwise_map] at h ⊢
  refine List.Pairwise.imp_of_mem (fun {i j} hi hj h=>?_) h
  have at':∀ i,i∈srtI (L.map k)→(L.map k).getD i .none=k (L.getD i z):=fun i hi=>by
   have hi':=List.mem_range.mp ((xao _).subset hi)
   rw [List.length_map] at hi'
   rw [List.getD_eq_getElem?_getD,List.getElem?_map,List.getD_eq_getElem?_getD,List.getElem?_eq_getElem hi']
   rfl
  rw [at' i hi,at' j hj] at h
  exact h
noncomputable def hd0 (r:List Int):Int:=r.headD 0
theorem YbR {xs r:List Int} {i:Int} (h:Mth.IsRing xs i r):hd0 r=i:=by
 obtain ⟨m,rfl,_⟩:=h
 unfold hd0 Mth.row
 rw [List.range_succ_eq_map];rfl
theorem zbv {xs:List Int}:∀ {left:List Int} {rs:List (List Int)},Mth.Rgs xs left rs→left.Pairwise (· < ·)→rs.Pairwise (fun a b=>hd0 a≤hd0 b)∧∀ r∈rs,hd0 r∈left
 | _,_,.nil,_=>⟨List.Pairwise.nil,fun r hr=>nomatch hr⟩
 | _,_,.cons (i:=i) (left:=left) (r:=r) hr hrs,hp=>by
  have hsub:∀ x,x∈Mth.out (i :: left) r→x∈i :: left:=fun x hx=>(List.mem_filter.mp hx).1
  have hni:∀ x,x∈Mth.out (i :: left) r→x∈left:=fun x hx=>by
   obtain ⟨h1,h2⟩:=List.mem_filter.mp hx
   rcases List.mem_cons.mp h1 with e | h
   ·subst e
    have:=hr.mem
    simp [this] at h2
   ·exact h
  obtain ⟨h1,h2⟩:=zbv hrs (hp.filter _)
  obtain ⟨h3,_⟩:=List.pairwise_cons.mp hp
  refine ⟨List.pairwise_cons.mpr ⟨fun q hq=>?_,h1⟩,fun q hq=>?_⟩
  ·rw [YbR hr]
   have:=h3 _ (hni _ (h2 q hq))
   omega
  ·rcases List.mem_cons.mp hq with e | h
   ·rw [e,YbR hr];exact List.mem_cons_self
   ·exact hsub _ (h2 q h)
theorem yb0 {a b:List Int} (ha:a≠[]) (hb:b≠[]) (h:ltP (tupI b) (tupI a)=false):hd0 a≤hd0 b:=by
 cases a with
 | nil=>exact absurd rfl ha
 | cons x a =>
  cases b with
  | nil=>exact absurd rfl hb
  | cons y b =>
   have h:(if (y == x)=true then ltPs (b.map PyData.int) (a.map PyData.int) else decide (y < x))=false:=h
   show x≤y
   by_cases e:y=x
   ·omega
   ·rw [if_neg (by simpa using e)] at h
    have:=of_decide_eq_false h
    omega
theorem Ybp {n:Nat} {xs:List Int} {R rs:List (List Int)} (tx:Mth.Tn n xs) (g:Mth.Rgs xs (Mth.upto n) rs) (p:R.Perm rs):srtD (R.map tI) (R.map tupI)=rs.map tI:=by
 have rw':=g.rw tx
 have ne:∀ r,Mth.Rw n xs r→r≠[]:=fun r a e=>by
  obtain ⟨x,hx⟩:=a.one
  rw [e] at hx
  cases hx
 obtain ⟨M,pM,eM,oM⟩:=Ycg [] R tI tupI (fun a _ b _=>zaY a b)
 rw [eM]
 have mem:∀ r∈M,Mth.Rw n xs r:=fun r hr=>rw' r (p.mem_iff.mp (pM.mem_iff.mp hr))
 have:M=rs:=by
  refine xaS (r:=fun a b=>hd0 a≤hd0 b) (pM.trans p) ?_ (zbv g (Mth.zaK n)).1 fun a ha b hb h1 h2=>?_
  ·exact List.Pairwise.imp_of_mem (fun {a b} ha hb h=>yb0 (ne a (mem a ha)) (ne b (mem b hb)) h) oM
  ·have hm:∀ r,Mth.Rw n xs r→hd0 r∈r:=fun r a=>by
    cases r with
    | nil=>exact absurd rfl (ne _ a)
    | cons x r=>exact List.mem_cons_self
   have e:hd0 a=hd0 b:=by omega
   exact (mem a ha).eq (mem b hb) (hm a (mem a ha)) (by rw [e];exact hm b (mem b hb))
 rw [this]
theorem Zb0 {L:List (List Int)} (h:∀ l∈L,l≠[]) (hl:L.length < 64):srtOk (L.map tupI)=true:=by
 unfold srtOk
 simp only [Bool.and_eq_true,Bool.or_eq_true,decide_eq_true_eq,List.all_eq_true,List.length_map]
 refine ⟨⟨⟨hl,fun a ha b hb=>?_⟩,fun a ha=>?_⟩,.inr fun a ha=>?_⟩
 ·obtain ⟨p,_,rfl⟩:=List.mem_map.mp ha
  obtain ⟨q,_,rfl⟩:=List.mem_map.mp hb
  exact zaY p q
 ·obtain ⟨p,_,rfl⟩:=List.mem_map.mp ha
  refine ⟨Zao p,?_⟩
  show PyData.depthAll (intsD p) + 1≤50
  have:=xaC p
  omega
 ·obtain ⟨p,hp,rfl⟩:=List.mem_map.mp ha
  have:=h p hp
  cases p with
  | nil=>exact absurd rfl this
  | cons x r=>rfl
noncomputable def okB (l:List Int) (b:List (List Int)):Prop:=l.length≤60∧b.length≤8∧∀ r∈b,r.length≤60∧∀ i∈r,smI i
theorem ybv {k:Int} (h:smI k):(PyData.int k).showable=true:=by
 have:=xaJ (ns:=[k]) fun j hj=>by rw [show j=k by simpa using hj];exact h
 have e:PyData.showableAll (intsD [k])=((PyData.int k).showable && true):=by simp only [intsD,List.map_cons,List.map_nil,PyData.showableAll]
 rw [e,Bool.and_true] at this
 exact this
theorem ybB {l:List Int} {b:List (List Int)} (h:okB l b):(bandP l b).showable=true∧noL (bandP l b)=true∧wD (bandP l b)≤950000:=by
 obtain ⟨h1,h2,h3⟩:=h
 have fs:PyData.showableAll (b.map tupD)=true:=XaJ fun r hr i hi=>(h3 r hr).2 i hi
 have fn:=ZaZ b
 have fw:=YaZ b
 have ft:=Xba b fun r hr=>(h3 r hr).1
 have e0:bandP l b=.tuple [.int (l.length:Int),.int (b.length:Int),.tuple (b.map tupD)]:=rfl
 have i1:=ybv (k:=(l.length:Int)) (by unfold smI;omega)
 have i2:=ybv (k:=(b.length:Int)) (by unfold smI;omega)
 rw [e0]
 refine ⟨?_,?_,?_⟩
 ·show ((PyData.int (l.length:Int)).showable && ((PyData.int (b.length:Int)).showable && ((PyData.tuple (b.map tupD)).showable && true)))=true
  rw [i1,i2]
  simp only [PyData.showable]
  rw [fs];rfl
 ·simp only [noL,noLs,Bool.and_true,Bool.true_and]
  exact fn
 ·simp only [wD,wAll]
  rw [fw]
  omega
theorem xa2 {B:List Int→List (List Int)}:∀ {M:List (List Int)},(∀ l∈M,okB l (B l))→PyData.showableAll (M.map fun l=>bandP l (B l))=true∧PyData.canLayAll0 (M.map fun l=>bandP l (B l))=true∧noLs (M.map fun l=>bandP l (B l))=true∧PyData.depthAll (M.map fun l=>bandP l (B l))≤50∧wAll (M.map fun l=>bandP l (B l))≤960000 * M.length
 | [],_=>⟨rfl,rfl,rfl,by show 0≤50;omega,by show 0≤_;omega⟩
 | l :: M,h=>by
  obtain ⟨a,b,c,d,e⟩:=xa2 (M:=M) fun l hl=>h l (List.mem_cons_of_mem _ hl)
  obtain ⟨q1,q2,q3⟩:=ybB (h l List.mem_cons_self)
  obtain ⟨q4,q5⟩:=xbu l (B l)
  refine ⟨?_,?_,?_,?_,?_⟩
  ·show ((bandP l (B l)).showable && PyData.showableAll (M.map fun l=>bandP l (B l)))=true
   rw [q1,a];rfl
  ·show ((bandP l (B l)).canLay0 && PyData.canLayAll0 (M.map fun l=>bandP l (B l)))=true
   rw [q4,b];rfl
  ·show (noL (bandP l (B l)) && noLs (M.map fun l=>bandP l (B l)))=true
   rw [q2,c];rfl
  ·show max (bandP l (B l)).depth (PyData.depthAll (M.map fun l=>bandP l (B l)))≤50
   omega
  ·show wD (bandP l (B l)) + 2 + wAll (M.map fun l=>bandP l (B l))≤960000 * (M.length + 1)
   omega
theorem xbR (st:Store) (l:List Int) (b:List (List Int)):toP st 19 (bandD l b)=some (bandP l b):=by
 have e:toP st 18 (tts b)=some (.tuple (b.map tupI)):=by
  show (mapO (toP st 17) (b.map tI)).map PyData.tuple=_
  rw [Zam (f:=toP st 17) (g:=tI) (k:=tupI) (fun l=>ybu st 15 l) b]
  rfl
 show (mapO (toP st 18) [D.int (l.length:Int),.int (b.length:Int),tts b]).map PyData.tuple=_
 simp only [mapO,e]
 rfl
theorem Zbv {st:Store} {Q:D→Store→Prop} {B:List Int→List (List Int)} {M:List (List Int)} (h:∀ l∈M,okB l (B l)) (hM:M.length≤8):Wp (gRepr [.tup (M.map fun l=>bandD l (B l))] st) Q↔Q (.str (PyData.tuple (M.map fun l=>bandP l (B l))).shown) st:=by
 obtain ⟨a,b,c,d,e⟩:=xa2 h
 have p1:toP st 20 (.tup (M.map fun l=>bandD l (B l)))=some (.tuple (M.map fun l=>bandP l (B l))):=by
  show (mapO (toP st 19) (M.map fun l=>bandD l (B l))).map PyData.tuple=_
  rw [Zam (f:=toP st 19) (g:=fun l=>bandD l (B l)) (k:=fun l=>bandP l (B l)) (fun l=>xbR st l (B l)) M]
  rfl
 have s1:(PyData.tuple (M.map fun l=>bandP l (B l))).showable=true:=by simp only [PyData.showable];exact a
 have sz:(PyData.tuple (M.map fun l=>bandP l (B l))).shown.length≤sizeLine:=by
  refine Nat.le_trans (za8 _ s1 (by simp only [noL];exact c)) ?_
  simp only [wD]
  exact Nat.le_trans (show _≤8000000 by omega) (by decide)
 rw [XbN]
 constructor
 ·rintro ⟨p,h1,_,hq⟩
  rw [p1] at h1
  cases h1
  exact hq
 ·intro hq
  exact ⟨_,p1,⟨s1,b,sz,by show PyData.depthAll _ + 1≤60;omega⟩,hq⟩
theorem Ybv {α:Type} (f:α→Nat):∀ L:List α,(L.map fun l=>((f l:Nat):Int)).sum=(((L.map f).sum:Nat):Int)
 | []=>rfl
 | a :: L=>by rw [List.map_cons,List.map_cons,List.sum_cons,List.sum_cons,Ybv f L,Int.natCast_add]
theorem ZbB {lows:List (List Int)} {B B':List Int→List (List Int)} (h:∀ l∈lows,B l=B' l):srtB lows B=srtB lows B':=by
 unfold srtB
 rw [List.map_congr_left (f:=fun l=>bandD l (B l)) (g:=fun l=>bandD l (B' l)) (fun l hl=>by rw [h l hl]),List.map_congr_left (f:=fun l=>bandP l (B l)) (g:=fun l=>bandP l (B' l)) (fun l hl=>by rw [h l hl])]
theorem YbB {st:Store} {xs ys:List Int} {n:Nat} (fl:IsFl n xs ys) (n0:0 < n) (hn:n≤8):Wp (Yaz [flD xs ys] st) fun d st'=>d=.bl true∧Ex [] st st':=by
 obtain ⟨tx,ty,all⟩:=fl
 have hlx:=tx.length
 refine YaA ?_
 show Ws (zaG [some (flD xs ys),none,none,none,none,none] st) _ _ _ _
 unfold zaG
 refine zad (Xae ?_)
 refine Yaa ?_
 intro qhQ hQ
 set_option simprocs false in simp only [wpB]
 refine Yab (zbB tx ty n0 (by omega)) ?_
 rintro d st1 ⟨rs,lows,B,rfl,hr,hL,hB,hln,k1⟩
 have rw':=hr.rw tx
 have hlw:=hL.lw tx n0 hr
 obtain ⟨M,pM,eM⟩:=XbZ lows B
 have mM:∀ l∈M,l∈lows:=fun l h=>pM.mem_iff.mp h
 have hMn:M.length≤n:=by rw [pM.length_eq];exact hln
 have hbl:∀ l∈M,(B l).length≤n:=fun l h=>(hB l (mM l h)).toCh.len tx
 have okm:∀ l∈M,okB l (B l):=fun l h=>⟨by have:=(rw' l (hlw.sub l (mM l h))).len tx;omega,by have:=hbl l h;omega,fun r hr'=>by
  have a:=(hB l (mM l h)).toCh.rw r hr'
  exact ⟨by have:=a.len tx;omega,fun i hi=>by have:=a.bound tx i hi;unfold smI;omega⟩⟩
 rw [eM]
 refine hQ _ _ (zad (ZaG ?_))
 clear hQ
 refine Yaa ?_
 intro qhQ hQ
 set_option simprocs false in simp only [wpB]
 rw [Zbv okm (by omega)]
 refine Yab (Xbc tx ty n0 (by omega)) ?_
 rintro d st2 ⟨rs',lows',B',rfl,hr',hL',hB',hln',k2⟩
 cases hr'.unique hr
 cases hL'.unique hL
 rw [ZbB (fun l hl=>(hB' l hl).unique (hB l hl)),eM,Zbv okm (by omega)]
 set_option simprocs false in simp only [wpB]
 refine hQ _ _ ⟨fun h=>absurd h (by simp),fun _=>Xam (zad (Xae ?_))⟩
 clear hQ
 refine Yaa ?_
 intro qhQ hQ
 set_option simprocs false in simp only [wpB]
 refine ⟨rfl,hQ _ _ ?_⟩
 clear hQ
 have hri:(st2 ++ [O.lst []])[st2.length]?=some (.lst []):=xag
 have kk:Ex [] st (st2 ++ [O.lst []]):=(k1.trans k2).app _
 have hls:st.length≤st2.length:=(k1.trans k2).len
 generalize (st2 ++ [O.lst []])=s3 at hri kk ⊢
 generalize st2.length=ri at hri hls ⊢
 have lenR:∀ k,(((M.take k).map B).flatten).length≤k * n:=fun k=>by
  induction k with
  | zero=>simp
  | succ k ih =>
   rw [List.take_succ,List.map_append,List.flatten_append,List.length_append]
   cases hk:M[k]? with
   | none =>
    simp only [Option.toList_none,List.map_nil,List.flatten_nil,List.length_nil,Nat.add_zero]
    rw [Nat.succ_mul];omega
   | some l =>
    have:=hbl l (List.mem_of_getElem? hk)
    simp only [Option.toList_some,List.map_cons,List.map_nil,List.flatten_cons,List.flatten_nil,List.append_nil]
    rw [Nat.succ_mul];omega
 refine zad (xaR (M.map fun l=>bandD l (B l)) (fun k δ s=>∃ (v3 v4 v5:Option D),δ=[some (flD xs ys),some (.tup (M.map fun l=>bandD l (B l))),some (.ref ri),v3,v4,v5]∧s[ri]?=some (.lst ((((M.take k).map B).flatten).map tI))∧Ex [] st s) ?_ (by rw [List.length_map];omega) ?_ ?_)
 ·refine Yaa ?_
  intro qhQ hQ
  set_option simprocs false in simp only [wpB]
  exact hQ _ _ ⟨rfl,_,_,_,rfl,hri,kk⟩
 ·rintro k d δ s hd ⟨v3,v4,v5,rfl,hs,ks⟩
  obtain ⟨l,hl',rfl⟩:∃ l,M[k]?=some l∧d=bandD l (B l):=by
   rw [List.getElem?_map] at hd
   obtain ⟨l,h1,h2⟩:=Option.map_eq_some_iff.mp hd
   exact ⟨l,h1,h2.symm⟩
  have hk:=yac hl'
  have hb1:=hbl l (List.mem_of_getElem? hl')
  have hkn:k * n≤64:=Nat.le_trans (Nat.mul_le_mul (show k≤8 by omega) hn) (by decide)
  have hR:=lenR k
  unfold bandD
  have e1:tts (B l)=D.tup ((B l).map tI):=rfl
  rw [e1]
  refine Yaa ?_
  intro qhQ hQ
  set_option simprocs false in simp only [wpB]
  refine ⟨rfl,hQ _ _ (ZaA ?_)⟩
  clear hQ
  refine Yaa ?_
  intro qhQ hQ
  set_option simprocs false in simp only [wpB,xbz,Xah hs]
  refine ⟨Xap (by rw [zac hs];rfl),xak (by rw [List.length_map,List.length_map];omega),hQ _ _ ⟨_,_,_,rfl,?_,ks.loc hls⟩⟩
  rw [List.getElem?_set_self (yac hs),List.take_succ,hl']
  simp
 ·rintro δ s ⟨v3,v4,v5,rfl,hs,ks⟩
  rw [List.length_map,List.take_length] at hs
  have pR:((M.map B).flatten).Perm rs:=(pM.map B).flatten.trans (hlw.parts tx ty all hr hB)
  have hrl:rs.length≤n:=by
   obtain ⟨_,_,_,rs2,_,h2,_,h3,_⟩:=zaM (st:=[]) tx (by omega)
   cases h2.unique hr
   exact h3
  have hRl:((M.map B).flatten).length≤n:=by rw [pR.length_eq];exact hrl
  have hne:∀ l∈(M.map B).flatten,l≠[]:=fun l hl e=>by
   obtain ⟨x,hx⟩:=(rw' l (pR.mem_iff.mp hl)).one
   rw [e] at hx
   cases hx
  refine zad (ZaG ?_)
  refine Yaa ?_
  intro qhQ hQ
  set_option simprocs false in simp only [wpB]
  rw [xbb (Xah hs) (Zam (f:=toP _ 20) (g:=tI) (k:=tupI) (fun l=>ybu _ 18 l) _) (Zb0 hne (by omega)),Ybp tx hr pR,za2]
  refine Yab (zaM tx (by omega)) ?_
  rintro d st4 ⟨rs4,rfl,h4,_,_,k4⟩
  cases h4.unique hr
  have e0:tts rs=D.tup (rs.map tI):=rfl
  rw [e0]
  set_option simprocs false in simp only [wpB]
  have hA:items (st4 ++ [O.lst (rs.map tI)]) s.length=some (rs.map tI):=zaI zah (k4.app _)
  rw [ZbR hA zah]
  set_option simprocs false in simp only [wpB]
  refine hQ _ _ ⟨fun h=>absurd h (by simp),fun _=>Xam (xal ?_)⟩
  clear hQ
  have kk4:Ex [] st (st4 ++ [O.lst (rs.map tI)]):=((ks.app _).trans k4).app _
  generalize (st4 ++ [O.lst (rs.map tI)])=s5 at kk4 ⊢
  refine Yaa ?_
  intro qhQ hQ
  set_option simprocs false in simp only [wpB]
  refine XbP (M.map fun l=>(.int (l.length:Int),.int ((B l).length:Int),tts (B l))) (fun t=>match t with | (.int a,.int b,_)=>.int (a * b) | _=>.non) ?_ (by rw [List.length_map];omega) ?_ ?_
  ·refine Yaa ?_
   intro qhQ2 hQ2
   set_option simprocs false in simp only [wpB]
   refine hQ2 _ _ ⟨?_,Ex.refl⟩
   rw [List.map_map]
   exact Xan _ _
  ·intro t ht s6 k6
   obtain ⟨l,hl',rfl⟩:=List.mem_map.mp ht
   have h1:=(rw' l (hlw.sub l (mM l hl'))).len tx
   refine Yaa ?_
   intro qhQ2 hQ2
   set_option simprocs false in simp only [wpB,List.map_cons,List.map_nil,List.getD_cons_succ,List.getD_cons_zero]
   exact ⟨.inl ⟨by omega,by omega⟩,hQ2 _ _ ⟨rfl,Ex.refl⟩⟩
  ·intro s6 k6
   have e1:(M.map fun l=>(D.int (l.length:Int),D.int ((B l).length:Int),tts (B l))).map (fun t=>match t with | (.int a,.int b,_)=>D.int (a * b) | _=>.non)=(M.map fun l=>((l.length * (B l).length:Nat):Int)).map D.int:=by
    rw [List.map_map,List.map_map]
    refine List.map_congr_left fun l _=>?_
    show D.int ((l.length:Int) * ((B l).length:Int))=D.int ((l.length * (B l).length:Nat):Int)
    rw [Int.natCast_mul]
   have e2:(M.map fun l=>((l.length * (B l).length:Nat):Int)).sum=(n:Int):=by
    rw [Ybv,← hlw.sum tx ty all hr hB,(pM.map _).sum_nat]
   rw [e1,wp_sum zah,e2,za2]
   refine ⟨xs.map D.int,rfl,?_⟩
   set_option simprocs false in simp only [wpB]
   refine hQ _ _ ⟨?_,(kk4.trans k6).app _⟩
   rw [List.length_map,hlx]
   simp
noncomputable def bnX (w n:Nat):List Int:=(Mth.upto n).map fun s=>s - s % (w:Int) + (s + 1) % (w:Int)
noncomputable def bnY (w n o:Nat):List Int:=((Mth.upto (n - w)).map fun s=>s + (w:Int)) ++ (Mth.upto w).map fun s=>(s + (o:Int)) % (w:Int)
noncomputable def ckB (w h o:Nat):Bool:=(bnX w (w * h)).isPerm (Mth.upto (w * h)) && (bnY w (w * h) o).isPerm (Mth.upto (w * h)) && (Mth.upto (w * h)).all (fun x=>(Mth.bf (bnX w (w * h)) (bnY w (w * h) o) 0 (w * h)).contains x)
theorem xcg:((List.range 9).all fun w=>(List.range 9).all fun h=>(List.range 9).all fun o=>!(decide (0 < w∧0 < h∧w * h≤8∧o < w)) || ckB w h o)=true:=by decide +kernel
theorem Xcg {w h o:Nat} (w0:0 < w) (h0:0 < h) (wh:w * h≤8) (ho:o < w):IsFl (w * h) (bnX w (w * h)) (bnY w (w * h) o):=by
 have hw:w≤8:=Nat.le_trans (Nat.le_mul_of_pos_right w h0) wh
 have hh:h≤8:=Nat.le_trans (Nat.le_mul_of_pos_left h w0) wh
 have c:=List.all_eq_true.mp (List.all_eq_true.mp (List.all_eq_true.mp xcg w (List.mem_range.mpr (by omega))) h (List.mem_range.mpr (by omega))) o (List.mem_range.mpr (by omega))
 rw [decide_eq_true ⟨w0,h0,wh,ho⟩] at c
 have c:ckB w h o=true:=by simpa using c
 unfold ckB at c
 simp only [Bool.and_eq_true,List.isPerm_iff] at c
 obtain ⟨⟨h1,h2⟩,h3⟩:=c
 refine ⟨h1,h2,fun x x0 x1=>?_⟩
 have:=List.all_eq_true.mp h3 x (Mth.yah.mpr ⟨x0,x1⟩)
 exact Mth.ybh _ _ _ _ (List.contains_iff_mem.mp this)
theorem Xbk {st:Store} {f:Nat} (hf:FeedIs st f):Wp (zaE [.ref f] st) fun d st'=>∃ (n:Nat) (xs ys:List Int),d=flD xs ys∧IsFl n xs ys∧0 < n∧n≤8∧FeedIs st' f∧Ex [f] st st':=by
 refine YaA ?_
 show Ws (zaL [some (.ref f),none,none,none,none,none] st) _ _ _ _
 unfold zaL
 refine zad (Xae ?_)
 refine Yaa ?_
 intro qhQ hQ
 set_option simprocs false in simp only [wpB]
 refine Yab (Xar (n:=8) hf (by decide) (by decide)) ?_
 rintro d st1 ⟨k,rfl,k0,k8,f1,e1⟩
 set_option simprocs false in simp only [wpB]
 obtain ⟨w,rfl,w0,w8⟩:∃ w:Nat,k=(w:Int) - 1∧0 < w∧w≤8:=⟨(k + 1).toNat,by omega,by omega,by omega⟩
 rw [show (1:Int) + ((w:Int) - 1)=(w:Int) by omega]
 refine hQ _ _ (zad (Xae ?_))
 clear hQ
 refine Yaa ?_
 intro qhQ hQ
 set_option simprocs false in simp only [wpB]
 have h8:(8:Int) / (w:Int)=((8 / w:Nat):Int):=by rw [Int.natCast_ediv];rfl
 have h8p:0 < 8 / w:=Nat.div_pos w8 w0
 have h8l:8 / w≤8:=Nat.div_le_self 8 w
 rw [h8]
 refine ⟨⟨by omega,by omega⟩,?_⟩
 refine Yab (Xar (n:=((8 / w:Nat):Int)) f1 (by omega) (by omega)) ?_
 rintro d st2 ⟨j,rfl,j0,j8,f2,e2⟩
 set_option simprocs false in simp only [wpB]
 obtain ⟨h,rfl,h0,hw8⟩:∃ h:Nat,j=(h:Int) - 1∧0 < h∧h≤8 / w:=⟨(j + 1).toNat,by omega,by omega,by omega⟩
 have wh:w * h≤8:=by rw [Nat.mul_comm];exact (Nat.le_div_iff_mul_le w0).mp hw8
 have wh0:w≤w * h:=Nat.le_mul_of_pos_right w h0
 rw [show (w:Int) * (1 + ((h:Int) - 1))=((w * h:Nat):Int) by rw [Int.natCast_mul];congr 1;omega]
 refine ⟨.inl ⟨by omega,by omega⟩,hQ _ _ (zad (Xae ?_))⟩
 clear hQ
 refine Yaa ?_
 intro qhQ hQ
 set_option simprocs false in simp only [wpB]
 refine Yab (Xar (n:=(w:Int)) f2 (by omega) (by omega)) ?_
 rintro d st3 ⟨o',rfl,o0,o1,f3,e3⟩
 obtain ⟨o,rfl⟩:∃ o:Nat,o'=(o:Int):=⟨o'.toNat,by omega⟩
 have fl:=Xcg w0 h0 wh (show o < w by omega)
 generalize hn:w * h=n at fl wh wh0 hQ ⊢
 have kk3:Ex [f] st st3:=(e1.trans e2).trans e3
 refine hQ _ _ (zad (Xae ?_))
 clear hQ
 refine Yaa ?_
 intro _ hQ
 refine yaj (rangeD 0 n) (fun d=>.int (inD d - inD d % (w:Int) + (inD d + 1) % (w:Int))) ?_ (by rw [Xab];omega) ?_ ?_
 ·refine Yaa ?_
  intro qhQ2 hQ2
  set_option simprocs false in simp only [wpB]
  exact ⟨by omega,hQ2 _ _ ⟨by rw [Int.toNat_natCast];exact Xan _ _,Ex.refl⟩⟩
 ·intro d hd st4 k4
  rw [yag] at hd
  obtain ⟨x,hx,rfl⟩:=zaq hd
  obtain ⟨x0,x1⟩:=Mth.yah.mp hx
  refine Yaa ?_
  intro qhQ2 hQ2
  set_option simprocs false in simp only [wpB,List.map_cons,List.map_nil,List.getD_cons_succ,List.getD_cons_zero]
  exact ⟨by omega,by omega,hQ2 _ _ ⟨rfl,Ex.refl⟩⟩
 ·intro st4 k4
  have eX:(rangeD 0 n).map (fun d=>D.int (inD d - inD d % (w:Int) + (inD d + 1) % (w:Int)))=(bnX w n).map D.int:=by
   rw [yag,YaG (f:=fun s=>s - s % (w:Int) + (s + 1) % (w:Int)) fun x hx=>rfl];rfl
  rw [eX]
  have h4:(st4 ++ [O.lst ((bnX w n).map D.int)])[st4.length]?=some (.lst ((bnX w n).map D.int)):=xag
  have f4:FeedIs (st4 ++ [O.lst ((bnX w n).map D.int)]) f:=f3.keep (k4.app _)
  have kk4:Ex [f] st (st4 ++ [O.lst ((bnX w n).map D.int)]):=kk3.trans (k4.app _).any
  refine hQ _ _ (zad (Xae ?_))
  clear hQ
  generalize (st4 ++ [O.lst ((bnX w n).map D.int)])=s5 at h4 f4 kk4 ⊢
  generalize st4.length=rx at h4 ⊢
  refine Yaa ?_
  intro qhQ hQ
  set_option simprocs false in simp only [wpB]
  refine yaj (rangeD 0 (n - w)) (fun d=>.int (inD d + (w:Int))) ?_ (by rw [Xab];omega) ?_ ?_
  ·refine Yaa ?_
   intro qhQ2 hQ2
   set_option simprocs false in simp only [wpB]
   exact ⟨by omega,hQ2 _ _ ⟨by rw [show (n:Int) - (w:Int)=((n - w:Nat):Int) by omega,Int.toNat_natCast];exact Xan _ _,Ex.refl⟩⟩
  ·intro d hd st6 k6
   rw [yag] at hd
   obtain ⟨x,hx,rfl⟩:=zaq hd
   refine Yaa ?_
   intro qhQ2 hQ2
   set_option simprocs false in simp only [wpB,List.map_cons,List.map_nil,List.getD_cons_succ,List.getD_cons_zero]
   exact hQ2 _ _ ⟨rfl,Ex.refl⟩
  ·intro st6 k6
   have eY:(rangeD 0 (n - w)).map (fun d=>D.int (inD d + (w:Int)))=((Mth.upto (n - w)).map fun s=>s + (w:Int)).map D.int:=by
    rw [yag,YaG (f:=fun s=>s + (w:Int)) fun x hx=>rfl]
   rw [eY]
   refine yaj (rangeD 0 w) (fun d=>.int ((inD d + (o:Int)) % (w:Int))) ?_ (by rw [Xab];omega) ?_ ?_
   ·refine Yaa ?_
    intro qhQ2 hQ2
    set_option simprocs false in simp only [wpB]
    exact ⟨by omega,hQ2 _ _ ⟨by rw [Int.toNat_natCast];exact Xan _ _,Ex.refl⟩⟩
   ·intro d hd st7 k7
    rw [yag] at hd
    obtain ⟨x,hx,rfl⟩:=zaq hd
    refine Yaa ?_
    intro qhQ2 hQ2
    set_option simprocs false in simp only [wpB,List.map_cons,List.map_nil,List.getD_cons_succ,List.getD_cons_zero]
    exact ⟨by omega,hQ2 _ _ ⟨rfl,Ex.refl⟩⟩
   ·intro st7 k7
    have eZ:(rangeD 0 w).map (fun d=>D.int ((inD d + (o:Int)) % (w:Int)))=((Mth.upto w).map fun s=>(s + (o:Int)) % (w:Int)).map D.int:=by
     rw [yag,YaG (f:=fun s=>(s + (o:Int)) % (w:Int)) fun x hx=>rfl]
    rw [eZ]
    have hy:own (st7 ++ [O.lst (((Mth.upto w).map fun s=>(s + (o:Int)) % (w:Int)).map D.int)]) st6.length=some (((Mth.upto (n - w)).map fun s=>s + (w:Int)).map D.int):=Xah (Xaf (k7.keep _ _ xag (by simp)))
    have kk7:Ex [] s5 (st7 ++ [O.lst (((Mth.upto w).map fun s=>(s + (o:Int)) % (w:Int)).map D.int)]):=((k6.app _).trans k7).app _
    have ec:((Mth.upto (n - w)).map fun s=>s + (w:Int)).map D.int ++ ((Mth.upto w).map fun s=>(s + (o:Int)) % (w:Int)).map D.int=(bnY w n o).map D.int:=by
     unfold bnY;rw [List.map_append]
    have hz:own (st7 ++ [O.lst (((Mth.upto w).map fun s=>(s + (o:Int)) % (w:Int)).map D.int)]) st7.length=some (((Mth.upto w).map fun s=>(s + (o:Int)) % (w:Int)).map D.int):=ya1
    generalize (st7 ++ [O.lst (((Mth.upto w).map fun s=>(s + (o:Int)) % (w:Int)).map D.int)])=s8 at hy kk7 hz ⊢
    set_option simprocs false in simp only [wpB,hy,hz]
    rw [ec]
    refine ⟨xak (by rw [List.length_map,List.length_map,List.length_map,List.length_map,Mth.xah,Mth.xah];omega),hQ _ _ (xal ?_)⟩
    clear hQ
    have h8':items (s8 ++ [O.lst ((bnY w n o).map D.int)]) rx=some ((bnX w n).map D.int):=zac (Xaf (kk7.keep _ _ h4 (by simp)))
    have h9:items (s8 ++ [O.lst ((bnY w n o).map D.int)]) s8.length=some ((bnY w n o).map D.int):=zah
    have f9:FeedIs (s8 ++ [O.lst ((bnY w n o).map D.int)]) f:=f4.keep (kk7.app _)
    have kk9:Ex [f] st (s8 ++ [O.lst ((bnY w n o).map D.int)]):=kk4.trans (kk7.app _).any
    generalize (s8 ++ [O.lst ((bnY w n o).map D.int)])=s9 at h8' h9 f9 kk9 ⊢
    generalize s8.length=ry at h9 ⊢
    refine Yaa ?_
    intro qhQ hQ
    set_option simprocs false in simp only [wpB,h8',h9]
    refine ⟨rfl,?_⟩
    refine Yab (yaG (n:=n) f9 (by omega)) ?_
    rintro d sa ⟨p,rfl,tp,fa,ka⟩
    have e5:D.tup [D.tup ((bnX w n).map D.int),D.tup ((bnY w n o).map D.int)]=flD (bnX w n) (bnY w n o):=rfl
    rw [e5]
    refine Yab (yaX fl.1 fl.2.1 tp (by omega)) ?_
    rintro d sb ⟨rfl,kb⟩
    exact hQ _ _ ⟨n,_,_,rfl,Mth.anew_fl fl tp (by omega),by omega,by omega,fa.keep kb,(kk9.trans ka).trans kb.any⟩
theorem shr_fl {n:Nat} {xs ys:List Int} (fl:IsFl n xs ys) (n0:0 < n) (k:Int):IsFl n xs (Mth.shr xs ys k):=by
 have w:Mth.Wh n (xs,ys):=⟨⟨fl.1,fl.2.1⟩,fl.2.2⟩
 have h:=w.st n0 (true,k)
 unfold Mth.stM at h
 rw [if_pos rfl] at h
 exact ⟨h.v.1,h.v.2,h.all⟩
theorem zch (p:List Int×List Int) (j:Nat):qtr p.1 p.2 j=Mth.itQ j p:=by
 induction j with
 | zero=>rfl
 | succ j ih=>show (Mth.inv (qtr p.1 p.2 j).2,(qtr p.1 p.2 j).1)=Mth.Qt (Mth.itQ j p);rw [ih];rfl
theorem qtr_fl {n:Nat} {xs ys:List Int} (fl:IsFl n xs ys) (n0:0 < n) (j:Nat):IsFl n (qtr xs ys j).1 (qtr xs ys j).2:=by
 have w:Mth.Wh n (xs,ys):=⟨⟨fl.1,fl.2.1⟩,fl.2.2⟩
 have h:=w.itQ n0 j
 rw [← zch (xs,ys) j] at h
 exact ⟨h.v.1,h.v.2,h.all⟩
noncomputable def IsStp (d:D):Prop:=(∃ k:Int,d=.tup [.str "s",.int k])∨∃ j:Nat,j < 4∧d=.tup [.str "t",.int (j:Int)]
theorem XbR {st:Store} {xs ys:List Int} {n:Nat} {d:D} (fl:IsFl n xs ys) (n0:0 < n) (hn:n≤8) (hd:IsStp d):Wp (yal [flD xs ys,d] st) fun d st'=>∃ xs' ys',d=flD xs' ys'∧IsFl n xs' ys'∧Ex [] st st':=by
 rcases hd with ⟨k,rfl⟩ | ⟨j,hj,rfl⟩
 ·exact Yab (ZbA fl.1 fl.2.1 (by omega)) fun d st' ⟨e,k1⟩=>⟨_,_,e,shr_fl fl n0 k,k1⟩
 ·exact Yab (YbA fl.1 fl.2.1 (by omega) hj) fun d st' ⟨e,k1⟩=>⟨_,_,e,qtr_fl fl n0 j,k1⟩
noncomputable def Ask (d:D):Prop:=∃ (n:Nat) (xs ys:List Int),d=flD xs ys∧IsFl n xs ys∧0 < n∧n≤8
theorem law_true (ns:List Int) (hn:ns.length≤63):Wp (zcg [.ref 0] [.fzn (ns.map D.int)]) fun d _=>d=.bl true:=by
 refine YaA ?_
 show Ws (ybZ [some (.ref 0),none,none,none,none,none,none,none] [.fzn (ns.map D.int)]) _ _ _ _
 unfold ybZ
 obtain ⟨m,hm,hm8⟩:∃ m:Nat,(if (if ((ns.map D.int).length:Int) < 6 then ((ns.map D.int).length:Int) else 6) > 3 then (if ((ns.map D.int).length:Int) < 6 then ((ns.map D.int).length:Int) else 6) else 3)=(m:Int)∧m≤6:=by
  by_cases h8:((ns.map D.int).length:Int) < 6
  ·rw [if_pos h8]
   by_cases h4:((ns.map D.int).length:Int) > 3
   ·rw [if_pos h4];exact ⟨(ns.map D.int).length,rfl,by omega⟩
   ·rw [if_neg h4];exact ⟨3,rfl,by omega⟩
  ·rw [if_neg h8];exact ⟨6,rfl,by omega⟩
 have hS1:items ([O.fzn (ns.map D.int)] ++ [O.lst []]:Store) 0=some (ns.map D.int):=rfl
 refine zad (Xae ?_)
 refine Yaa ?_
 intro qhQ hQ
 set_option simprocs false in simp only [wpB]
 refine ⟨rfl,hQ _ _ (zad (xaR (rangeD 0 m) (fun k δ s=>∃ (v2 v3 v4 v5 v6:Option D) (qs:List D),δ=[some (.ref 0),some (.ref 1),v2,v3,v4,v5,v6,none]∧s[0]?=some (.fzn (ns.map D.int))∧s[1]?=some (.lst qs)∧qs.length=k∧∀ d∈qs,Ask d) ?_ (by rw [Xab];omega) ?_ ?_))⟩
 ·clear hQ
  refine Yaa ?_
  intro qhQ hQ
  set_option simprocs false in simp only [wpB,hS1,hm]
  exact ⟨by omega,hQ _ _ ⟨by rw [Int.toNat_natCast],_,_,_,_,_,[],rfl,rfl,rfl,rfl,fun d hd=>nomatch hd⟩⟩
 ·rintro k d δ s hd ⟨v2,v3,v4,v5,v6,qs,rfl,h0,h1,hql,hq⟩
  have hk:=yac hd
  rw [Xab] at hk
  rw [XaH hk,Int.zero_add] at hd
  cases hd
  clear hQ
  refine Yaa ?_
  intro qhQ hQ
  set_option simprocs false in simp only [wpB]
  refine hQ _ _ (zad (Xae ?_))
  clear hQ
  refine Yaa ?_
  intro qhQ hQ
  set_option simprocs false in simp only [wpB]
  refine Yab (YbQ (a:=0) (ns:=ns) (k:=k) (xbM h0) (by omega)) ?_
  rintro d st2 ⟨rfl,f2,k2⟩
  refine hQ _ _ (zad (Xae ?_))
  clear hQ
  refine Yaa ?_
  intro qhQ hQ
  set_option simprocs false in simp only [wpB]
  refine Yab (Xar (n:=4) f2 (by decide) (by decide)) ?_
  rintro d st3 ⟨fm,rfl,m0,m4,f3,k3⟩
  refine hQ _ _ (zad (Xae ?_))
  clear hQ
  refine Yaa ?_
  intro qhQ hQ
  set_option simprocs false in simp only [wpB]
  refine Yab (ybA (most:=8) f3 (by decide) (by decide)) ?_
  rintro d st4 ⟨n,xs,ys,rfl,fl,n1,n8,f4,k4⟩
  refine hQ _ _ (zad (YaS (N:=fun δ s5=>∃ (n:Nat) (xs ys:List Int),δ=[some (.ref 0),some (.ref 1),some (.int (k:Int)),some (.ref s.length),some (.int fm),some (flD xs ys),v6,none]∧IsFl n xs ys∧0 < n∧n≤8∧FeedIs s5 s.length∧Ex [s.length] st4 s5) (ZaG ?_) ?_))
  ·clear hQ
   refine Yaa ?_
   intro qhQ hQ
   set_option simprocs false in simp only [wpB]
   refine Yab (Xar (n:=4) f4 (by decide) (by decide)) ?_
   rintro d st5 ⟨q,rfl,q0,q4,f5,k5⟩
   set_option simprocs false in simp only [wpB]
   refine hQ _ _ ⟨fun _=>Xae ?_,fun _=>Xam ⟨n,xs,ys,rfl,fl,by omega,by omega,f5,k5⟩⟩
   clear hQ
   refine Yaa ?_
   intro qhQ hQ
   set_option simprocs false in simp only [wpB]
   refine Yab (Xbk f5) ?_
   rintro d st6 ⟨n',xs',ys',rfl,fl',n0',n8',f6,k6⟩
   exact hQ _ _ ⟨n',xs',ys',rfl,fl',n0',n8',f6,k5.trans k6⟩
  ·rintro δ s5 ⟨n,xs,ys,rfl,fl,n0,n8,f5,k5⟩
   have kk:Ex [] s s5:=k2.drop ((k3.trans k4).trans k5) (Nat.le_refl _)
   clear hQ
   refine zad (Xae ?_)
   refine Yaa ?_
   intro qhQ hQ
   set_option simprocs false in simp only [wpB]
   refine ⟨rfl,?_⟩
   refine Yab (Xar (n:=7) f5 (by decide) (by decide)) ?_
   rintro d st6 ⟨q,rfl,q0,q7,f6,k6⟩
   set_option simprocs false in simp only [wpB]
   obtain ⟨dd,hdd,hst⟩:∃ x,atI [D.tup [D.str (Str.ofString "s"),D.int 0],D.tup [D.str (Str.ofString "s"),D.int (1 + q)],D.tup [D.str (Str.ofString "t"),D.int 1],D.tup [D.str (Str.ofString "t"),D.int 2]] fm=some x∧IsStp x:=by
    obtain ⟨j,rfl⟩:∃ j:Nat,fm=(j:Int):=⟨fm.toNat,by omega⟩
    have hj:j < 4:=by omega
    match j,hj with
    | 0,_=>exact ⟨_,zaD (j:=0) rfl,.inl ⟨0,rfl⟩⟩
    | 1,_=>exact ⟨_,zaD (j:=1) rfl,.inl ⟨1 + q,rfl⟩⟩
    | 2,_=>exact ⟨_,zaD (j:=2) rfl,.inr ⟨1,by decide,rfl⟩⟩
    | 3,_=>exact ⟨_,zaD (j:=3) rfl,.inr ⟨2,by decide,rfl⟩⟩
   refine ⟨rfl,rfl,rfl,rfl,dd,hdd,hQ _ _ (ZaA ?_)⟩
   clear hQ
   have kk6:Ex [] s (st6 ++ [O.lst [D.tup [D.str (Str.ofString "s"),D.int 0],D.tup [D.str (Str.ofString "s"),D.int (1 + q)],D.tup [D.str (Str.ofString "t"),D.int 1],D.tup [D.str (Str.ofString "t"),D.int 2]]]):=(kk.drop k6 (Nat.le_refl _)).app _
   generalize (st6 ++ [O.lst [D.tup [D.str (Str.ofString "s"),D.int 0],D.tup [D.str (Str.ofString "s"),D.int (1 + q)],D.tup [D.str (Str.ofString "t"),D.int 1],D.tup [D.str (Str.ofString "t"),D.int 2]]])=s7 at kk6 ⊢
   have h17:=kk6.keep _ _ h1 (by simp)
   refine Yaa ?_
   intro qhQ hQ
   set_option simprocs false in simp only [wpB]
   refine ⟨Xap (by rw [zac h17];rfl),?_⟩
   refine Yab (XbR fl n0 n8 hst) ?_
   rintro d s8 ⟨xs',ys',rfl,fl',k8⟩
   have h18:=k8.keep _ _ h17 (by simp)
   have h08:=k8.keep _ _ (kk6.keep _ _ h0 (by simp)) (by simp)
   set_option simprocs false in simp only [wpB,Xah h18]
   refine ⟨xak (by omega),hQ _ _ ⟨_,_,_,_,_,qs ++ [flD xs' ys'],rfl,?_,?_,by rw [List.length_append];simp [hql],fun d hd=>?_⟩⟩
   ·rw [List.getElem?_set_ne (by decide)];exact h08
   ·rw [List.getElem?_set_self (yac h18)]
   ·rcases List.mem_append.mp hd with h | h
    ·exact hq d h
    ·rw [List.mem_singleton.mp h];exact ⟨n,xs',ys',rfl,fl',n0,n8⟩
 ·rintro δ s ⟨v2,v3,v4,v5,v6,qs,rfl,h0,h1,hql,hq⟩
  rw [Xab] at hql
  have h2:(s ++ [O.lst qs.reverse])[1]?=some (.lst qs):=Xaf h1
  have e3:(s ++ [O.lst qs.reverse]).length=s.length + 1:=by simp
  clear hQ
  refine zad (Ybn (qs ++ qs.reverse) (s.length + 1) (fun j δ s'=>∃ (w5 w7:Option D),δ=[some (.ref 0),some (.ref 1),v2,v3,v4,w5,v6,w7]∧items s' (s.length + 1)=some (qs ++ qs.reverse)) ?_ (by rw [List.length_append,List.length_reverse];omega) ?_ ?_ ?_)
  ·refine Yaa ?_
   intro qhQ hQ
   set_option simprocs false in simp only [wpB,yce,zac h1,Xah h2,ya1]
   exact ⟨xak (by rw [List.length_reverse];omega),hQ _ _ ⟨by rw [e3],_,_,rfl,by rw [← e3];exact zah⟩⟩
  ·rintro j δ s' ⟨_,_,_,h⟩
   exact h
  ·rintro j d δ s' hd ⟨w5,w7,rfl,hit⟩
   have hd':d∈qs:=by
    rcases List.mem_append.mp (List.mem_of_getElem? hd) with h | h
    ·exact h
    ·exact List.mem_reverse.mp h
   obtain ⟨n,xs,ys,rfl,fl,n0,n8⟩:=hq d hd'
   have hok0:=okFl fl.1 fl.2.1 (by omega)
   refine Yaa ?_
   intro qhQ hQ
   set_option simprocs false in simp only [wpB]
   refine hQ _ _ (zad (Xae ?_))
   clear hQ
   refine Yaa ?_
   intro qhQ hQ
   set_option simprocs false in simp only [wpB,Zbi hok0]
   refine hQ _ _ (ZaG ?_)
   clear hQ
   refine Yaa ?_
   intro qhQ hQ
   set_option simprocs false in simp only [wpB]
   refine Yab (YbB fl n0 n8) ?_
   rintro d s1 ⟨rfl,k1⟩
   set_option simprocs false in simp only [wpB,Zbi hok0]
   exact hQ _ _ ⟨fun h=>absurd h (by simp),fun _=>Xam ⟨_,_,rfl,zaI hit k1⟩⟩
  ·rintro δ s' ⟨w5,w7,rfl,hit⟩
   refine xal ?_
   refine Yaa ?_
   intro qhQ hQ
   set_option simprocs false in simp only [wpB]
   exact hQ _ _ rfl
theorem all_ok {P:Program} {w:World} {K:PySem.W.Frag} {mg:Str→Option Value} {base:Heap} (T:Txt mg)  {f_law_feed:Addr} {d_law_feed:FuncData} (D_law_feed:Def K mg "_law_feed" xaD ["_law_script","_law_k"] f_law_feed d_law_feed) {f_law_take:Addr} {d_law_take:FuncData} (D_law_take:Def K mg "_law_take" zan ["_law_feed_here","_law_many"] f_law_take d_law_take) {f_law_anew:Addr} {d_law_anew:FuncData} (D_law_anew:Def K mg "_law_anew" Xaw ["_law_floor_here","_law_p"] f_law_anew d_law_anew) {f_law_turning:Addr} {d_law_turning:FuncData} (D_law_turning:Def K mg "_law_turning" zal ["_law_feed_here","_law_n"] f_law_turning d_law_turning) {f_law_met:Addr} {d_law_met:FuncData} (D_law_met:Def K mg "_law_met" yaI ["_law_floor_here"] f_law_met d_law_met) {f_law_floor:Addr} {d_law_floor:FuncData} (D_law_floor:Def K mg "_law_floor" xay ["_law_feed_here","_law_n"] f_law_floor d_law_floor) {f_law_drawn:Addr} {d_law_drawn:FuncData} (D_law_drawn:Def K mg "_law_drawn" zaz ["_law_feed_here","_law_most"] f_law_drawn d_law_drawn) {f_law_band:Addr} {d_law_band:FuncData} (D_law_band:Def K mg "_law_band" yaE ["_law_feed_here"] f_law_band d_law_band) {f_law_behind:Addr} {d_law_behind:FuncData} (D_law_behind:Def K mg "_law_behind" yav ["_law_turning_here","_law_s","_law_k"] f_law_behind d_law_behind) {f_law_stepped:Addr} {d_law_stepped:FuncData} (D_law_stepped:Def K mg "_law_stepped" xar ["_law_floor_here","_law_step"] f_law_stepped d_law_stepped) {fring_from:Addr} {dring_from:FuncData} (Dring_from:Def K mg "ring_from" zax ["turning","first"] fring_from dring_from) {frings_of:Addr} {drings_of:FuncData} (Drings_of:Def K mg "rings_of" YaI ["turning"] frings_of drings_of) {fupper_row:Addr} {dupper_row:FuncData} (Dupper_row:Def K mg "upper_row" Zax ["floor","row"] fupper_row dupper_row) {ffollowed:Addr} {dfollowed:FuncData} (Dfollowed:Def K mg "followed" xaI ["one","other"] ffollowed dfollowed) {fturned_back:Addr} {dturned_back:FuncData} (Dturned_back:Def K mg "turned_back" Zav ["turning"] fturned_back dturned_back) {fround_corners:Addr} {dround_corners:FuncData} (Dround_corners:Def K mg "round_corners" Yap ["floor"] fround_corners dround_corners) {fis_smooth:Addr} {dis_smooth:FuncData} (Dis_smooth:Def K mg "is_smooth" Yax ["floor","ring"] fis_smooth dis_smooth) {fband_from:Addr} {dband_from:FuncData} (Dband_from:Def K mg "band_from" ZaE ["floor","lowest"] fband_from dband_from) {fbands_of:Addr} {dbands_of:FuncData} (Dbands_of:Def K mg "bands_of" zaJ ["floor"] fbands_of dbands_of) {f_law_around:Addr} {d_law_around:FuncData} (D_law_around:Def K mg "_law_around" Xav ["_law_floor_here"] f_law_around d_law_around) {f_law_rings:Addr} {d_law_rings:FuncData} (D_law_rings:Def K mg "_law_rings" Zat ["_law_turning_here"] f_law_rings d_law_rings) {f_law_bands:Addr} {d_law_bands:FuncData} (D_law_bands:Def K mg "_law_bands" Zaz ["_law_floor_here"] f_law_bands d_law_bands) {f_law_right:Addr} {d_law_right:FuncData} (D_law_right:Def K mg "_law_right" xaz ["_law_floor_here"] f_law_right d_law_right) {flaw:Addr} {dlaw:FuncData} (Dlaw:Def K mg "law" ZbZ ["_law_script"] flaw dlaw):FnOk P w K mg base CX0 7 flaw dlaw ["_law_script"] (spF K 1 zcg):=by
 have G_law_feed:=xbi (P:=P) (w:=w) (base:=base) D_law_feed T
 have G_law_take:=Xbi (P:=P) (w:=w) (base:=base) D_law_take T
 have G_law_anew:=ybj (P:=P) (w:=w) (base:=base) D_law_anew T
 have G_law_turning:=xa1 (P:=P) (w:=w) (base:=base) D_law_turning T  D_law_take G_law_take
 have G_law_met:=Ybo (P:=P) (w:=w) (base:=base) D_law_met T
 have G_law_floor:=Xbb (P:=P) (w:=w) (base:=base) D_law_floor T  D_law_take G_law_take D_law_turning G_law_turning D_law_met G_law_met
 have G_law_drawn:=zbc (P:=P) (w:=w) (base:=base) D_law_drawn T  D_law_anew G_law_anew D_law_take G_law_take D_law_floor G_law_floor D_law_turning G_law_turning
 have G_law_band:=Zbj (P:=P) (w:=w) (base:=base) D_law_band T  D_law_take G_law_take D_law_anew G_law_anew D_law_turning G_law_turning
 have G_law_behind:=Ya3 (P:=P) (w:=w) (base:=base) D_law_behind T
 have G_law_stepped:=Xa1 (P:=P) (w:=w) (base:=base) D_law_stepped T  D_law_behind G_law_behind
 have Gring_from:=Ybj (P:=P) (w:=w) (base:=base) Dring_from T
 have Grings_of:=xbo (P:=P) (w:=w) (base:=base) Drings_of T  Dring_from Gring_from
 have Gupper_row:=Xbj (P:=P) (w:=w) (base:=base) Dupper_row T  Dring_from Gring_from
 have Gfollowed:=zbp (P:=P) (w:=w) (base:=base) Dfollowed T
 have Gturned_back:=xa3 (P:=P) (w:=w) (base:=base) Dturned_back T
 have Ground_corners:=ZaX (P:=P) (w:=w) (base:=base) Dround_corners T  Dfollowed Gfollowed Dturned_back Gturned_back
 have Gis_smooth:=zbk (P:=P) (w:=w) (base:=base) Dis_smooth T  Dround_corners Ground_corners
 have Gband_from:=ybk (P:=P) (w:=w) (base:=base) Dband_from T  Dis_smooth Gis_smooth Dupper_row Gupper_row
 have Gbands_of:=ybp (P:=P) (w:=w) (base:=base) Dbands_of T  Drings_of Grings_of Dupper_row Gupper_row Dis_smooth Gis_smooth Dband_from Gband_from
 have G_law_around:=Xa3 (P:=P) (w:=w) (base:=base) D_law_around T
 have G_law_rings:=ybc (P:=P) (w:=w) (base:=base) D_law_rings T
 have G_law_bands:=Zbc (P:=P) (w:=w) (base:=base) D_law_bands T  D_law_around G_law_around D_law_rings G_law_rings
 have G_law_right:=Ybc (P:=P) (w:=w) (base:=base) D_law_right T  Dbands_of Gbands_of D_law_bands G_law_bands D_law_rings G_law_rings
 have Glaw:=ok_law (P:=P) (w:=w) (base:=base) Dlaw T  D_law_feed G_law_feed D_law_take G_law_take D_law_drawn G_law_drawn D_law_band G_law_band D_law_stepped G_law_stepped D_law_right G_law_right
 exact Glaw
end My
open PySem PySem.W PyProof.Rows L2
set_option maxRecDepth 100000 in
set_option maxHeartbeats 0 in
theorem PySem.Challenge.cw_shearfloor_k25_bands_told_holds : PySem.Challenge.rw_shearfloor_k25_bands_told.Holds := by
 w_on;o_law;k_head;(case hw=>w_witness2)
 k_fill
 refine L2.xbT (l:=PySem.Challenge.rw_shearfloor_k25_bands_told) (n:=63) (k:=7) (x:="_law_script") (CX:=CX0) (sp:=L4.spLaw) rfl (by decide) rfl ⟨rfl,by decide,by decide,rfl⟩ (fun w h Y=>PySem.W.kIn_of Y) ?F ?S ?C
 case F =>
  intro w mg fa h KX G hmg
  have T:My.Txt mg:=by
   refine' ⟨zaA KX G ?z0,zaA KX G ?z1,zaA KX G ?z2,zaA KX G ?z3,zaA KX G ?z4,zaA KX G ?z5,zaA KX G ?z6,zaA KX G ?z7,zaA KX G ?z8,zaA KX G ?z9,zaA KX G ?z10,zaA KX G ?z11⟩
   (case z0=>k_is);(case z1=>k_is);(case z2=>k_is);(case z3=>k_is);(case z4=>k_is);(case z5=>k_is);(case z6=>k_is);(case z7=>k_is);(case z8=>k_is);(case z9=>k_is);(case z10=>k_is);(case z11=>k_is)
  have D__law_feed:∃ f fd,Def (L2.KOf KX) mg "_law_feed" My.xaD ["_law_script","_law_k"] f fd:=by
   dsimp only [L2.KOf];refine' yao KX G (fun _ _ _ _ _ _ us hl=>match us,hl with | [_,_],_=>rfl) ?a ?l ?c ?k
   (case a=>k_is);(case l=>k_is);(case c=>k_is);(case k=>k_is)
  obtain ⟨_,_,D__law_feed⟩:=D__law_feed
  have D__law_take:∃ f fd,Def (L2.KOf KX) mg "_law_take" My.zan ["_law_feed_here","_law_many"] f fd:=by
   dsimp only [L2.KOf];refine' yao KX G (fun _ _ _ _ _ _ us hl=>match us,hl with | [_,_],_=>rfl) ?a ?l ?c ?k
   (case a=>k_is);(case l=>k_is);(case c=>k_is);(case k=>k_is)
  obtain ⟨_,_,D__law_take⟩:=D__law_take
  have D__law_anew:∃ f fd,Def (L2.KOf KX) mg "_law_anew" My.Xaw ["_law_floor_here","_law_p"] f fd:=by
   dsimp only [L2.KOf];refine' yao KX G (fun _ _ _ _ _ _ us hl=>match us,hl with | [_,_],_=>rfl) ?a ?l ?c ?k
   (case a=>k_is);(case l=>k_is);(case c=>k_is);(case k=>k_is)
  obtain ⟨_,_,D__law_anew⟩:=D__law_anew
  have D__law_turning:∃ f fd,Def (L2.KOf KX) mg "_law_turning" My.zal ["_law_feed_here","_law_n"] f fd:=by
   dsimp only [L2.KOf];refine' yao KX G (fun _ _ _ _ _ _ us hl=>match us,hl with | [_,_],_=>rfl) ?a ?l ?c ?k
   (case a=>k_is);(case l=>k_is);(case c=>k_is);(case k=>k_is)
  obtain ⟨_,_,D__law_turning⟩:=D__law_turning
  have D__law_met:∃ f fd,Def (L2.KOf KX) mg "_law_met" My.yaI ["_law_floor_here"] f fd:=by
   dsimp only [L2.KOf];refine' yao KX G (fun _ _ _ _ _ _ us hl=>match us,hl with | [_],_=>rfl) ?a ?l ?c ?k
   (case a=>k_is);(case l=>k_is);(case c=>k_is);(case k=>k_is)
  obtain ⟨_,_,D__law_met⟩:=D__law_met
  have D__law_floor:∃ f fd,Def (L2.KOf KX) mg "_law_floor" My.xay ["_law_feed_here","_law_n"] f fd:=by
   dsimp only [L2.KOf];refine' yao KX G (fun _ _ _ _ _ _ us hl=>match us,hl with | [_,_],_=>rfl) ?a ?l ?c ?k
   (case a=>k_is);(case l=>k_is);(case c=>k_is);(case k=>k_is)
  obtain ⟨_,_,D__law_floor⟩:=D__law_floor
  have D__law_drawn:∃ f fd,Def (L2.KOf KX) mg "_law_drawn" My.zaz ["_law_feed_here","_law_most"] f fd:=by
   dsimp only [L2.KOf];refine' yao KX G (fun _ _ _ _ _ _ us hl=>match us,hl with | [_,_],_=>rfl) ?a ?l ?c ?k
   (case a=>k_is);(case l=>k_is);(case c=>k_is);(case k=>k_is)
  obtain ⟨_,_,D__law_drawn⟩:=D__law_drawn
  have D__law_band:∃ f fd,Def (L2.KOf KX) mg "_law_band" My.yaE ["_law_feed_here"] f fd:=by
   dsimp only [L2.KOf];refine' yao KX G (fun _ _ _ _ _ _ us hl=>match us,hl with | [_],_=>rfl) ?a ?l ?c ?k
   (case a=>k_is);(case l=>k_is);(case c=>k_is);(case k=>k_is)
  obtain ⟨_,_,D__law_band⟩:=D__law_band
  have D__law_behind:∃ f fd,Def (L2.KOf KX) mg "_law_behind" My.yav ["_law_turning_here","_law_s","_law_k"] f fd:=by
   dsimp only [L2.KOf];refine' yao KX G (fun _ _ _ _ _ _ us hl=>match us,hl with | [_,_,_],_=>rfl) ?a ?l ?c ?k
   (case a=>k_is);(case l=>k_is);(case c=>k_is);(case k=>k_is)
  obtain ⟨_,_,D__law_behind⟩:=D__law_behind
  have D__law_stepped:∃ f fd,Def (L2.KOf KX) mg "_law_stepped" My.xar ["_law_floor_here","_law_step"] f fd:=by
   dsimp only [L2.KOf];refine' yao KX G (fun _ _ _ _ _ _ us hl=>match us,hl with | [_,_],_=>rfl) ?a ?l ?c ?k
   (case a=>k_is);(case l=>k_is);(case c=>k_is);(case k=>k_is)
  obtain ⟨_,_,D__law_stepped⟩:=D__law_stepped
  have D_ring_from:∃ f fd,Def (L2.KOf KX) mg "ring_from" My.zax ["turning","first"] f fd:=by
   dsimp only [L2.KOf];refine' yao KX G (fun _ _ _ _ _ _ us hl=>match us,hl with | [_,_],_=>rfl) ?a ?l ?c ?k
   (case a=>k_is);(case l=>k_is);(case c=>k_is);(case k=>k_is)
  obtain ⟨_,_,D_ring_from⟩:=D_ring_from
  have D_rings_of:∃ f fd,Def (L2.KOf KX) mg "rings_of" My.YaI ["turning"] f fd:=by
   dsimp only [L2.KOf];refine' yao KX G (fun _ _ _ _ _ _ us hl=>match us,hl with | [_],_=>rfl) ?a ?l ?c ?k
   (case a=>k_is);(case l=>k_is);(case c=>k_is);(case k=>k_is)
  obtain ⟨_,_,D_rings_of⟩:=D_rings_of
  have D_upper_row:∃ f fd,Def (L2.KOf KX) mg "upper_row" My.Zax ["floor","row"] f fd:=by
   dsimp only [L2.KOf];refine' yao KX G (fun _ _ _ _ _ _ us hl=>match us,hl with | [_,_],_=>rfl) ?a ?l ?c ?k
   (case a=>k_is);(case l=>k_is);(case c=>k_is);(case k=>k_is)
  obtain ⟨_,_,D_upper_row⟩:=D_upper_row
  have D_followed:∃ f fd,Def (L2.KOf KX) mg "followed" My.xaI ["one","other"] f fd:=by
   dsimp only [L2.KOf];refine' yao KX G (fun _ _ _ _ _ _ us hl=>match us,hl with | [_,_],_=>rfl) ?a ?l ?c ?k
   (case a=>k_is);(case l=>k_is);(case c=>k_is);(case k=>k_is)
  obtain ⟨_,_,D_followed⟩:=D_followed
  have D_turned_back:∃ f fd,Def (L2.KOf KX) mg "turned_back" My.Zav ["turning"] f fd:=by
   dsimp only [L2.KOf];refine' yao KX G (fun _ _ _ _ _ _ us hl=>match us,hl with | [_],_=>rfl) ?a ?l ?c ?k
   (case a=>k_is);(case l=>k_is);(case c=>k_is);(case k=>k_is)
  obtain ⟨_,_,D_turned_back⟩:=D_turned_back
  have D_round_corners:∃ f fd,Def (L2.KOf KX) mg "round_corners" My.Yap ["floor"] f fd:=by
   dsimp only [L2.KOf];refine' yao KX G (fun _ _ _ _ _ _ us hl=>match us,hl with | [_],_=>rfl) ?a ?l ?c ?k
   (case a=>k_is);(case l=>k_is);(case c=>k_is);(case k=>k_is)
  obtain ⟨_,_,D_round_corners⟩:=D_round_corners
  have D_is_smooth:∃ f fd,Def (L2.KOf KX) mg "is_smooth" My.Yax ["floor","ring"] f fd:=by
   dsimp only [L2.KOf];refine' yao KX G (fun _ _ _ _ _ _ us hl=>match us,hl with | [_,_],_=>rfl) ?a ?l ?c ?k
   (case a=>k_is);(case l=>k_is);(case c=>k_is);(case k=>k_is)
  obtain ⟨_,_,D_is_smooth⟩:=D_is_smooth
  have D_band_from:∃ f fd,Def (L2.KOf KX) mg "band_from" My.ZaE ["floor","lowest"] f fd:=by
   dsimp only [L2.KOf];refine' yao KX G (fun _ _ _ _ _ _ us hl=>match us,hl with | [_,_],_=>rfl) ?a ?l ?c ?k
   (case a=>k_is);(case l=>k_is);(case c=>k_is);(case k=>k_is)
  obtain ⟨_,_,D_band_from⟩:=D_band_from
  have D_bands_of:∃ f fd,Def (L2.KOf KX) mg "bands_of" My.zaJ ["floor"] f fd:=by
   dsimp only [L2.KOf];refine' yao KX G (fun _ _ _ _ _ _ us hl=>match us,hl with | [_],_=>rfl) ?a ?l ?c ?k
   (case a=>k_is);(case l=>k_is);(case c=>k_is);(case k=>k_is)
  obtain ⟨_,_,D_bands_of⟩:=D_bands_of
  have D__law_around:∃ f fd,Def (L2.KOf KX) mg "_law_around" My.Xav ["_law_floor_here"] f fd:=by
   dsimp only [L2.KOf];refine' yao KX G (fun _ _ _ _ _ _ us hl=>match us,hl with | [_],_=>rfl) ?a ?l ?c ?k
   (case a=>k_is);(case l=>k_is);(case c=>k_is);(case k=>k_is)
  obtain ⟨_,_,D__law_around⟩:=D__law_around
  have D__law_rings:∃ f fd,Def (L2.KOf KX) mg "_law_rings" My.Zat ["_law_turning_here"] f fd:=by
   dsimp only [L2.KOf];refine' yao KX G (fun _ _ _ _ _ _ us hl=>match us,hl with | [_],_=>rfl) ?a ?l ?c ?k
   (case a=>k_is);(case l=>k_is);(case c=>k_is);(case k=>k_is)
  obtain ⟨_,_,D__law_rings⟩:=D__law_rings
  have D__law_bands:∃ f fd,Def (L2.KOf KX) mg "_law_bands" My.Zaz ["_law_floor_here"] f fd:=by
   dsimp only [L2.KOf];refine' yao KX G (fun _ _ _ _ _ _ us hl=>match us,hl with | [_],_=>rfl) ?a ?l ?c ?k
   (case a=>k_is);(case l=>k_is);(case c=>k_is);(case k=>k_is)
  obtain ⟨_,_,D__law_bands⟩:=D__law_bands
  have D__law_right:∃ f fd,Def (L2.KOf KX) mg "_law_right" My.xaz ["_law_floor_here"] f fd:=by
   dsimp only [L2.KOf];refine' yao KX G (fun _ _ _ _ _ _ us hl=>match us,hl with | [_],_=>rfl) ?a ?l ?c ?k
   (case a=>k_is);(case l=>k_is);(case c=>k_is);(case k=>k_is)
  obtain ⟨_,_,D__law_right⟩:=D__law_right
  have D_law:∃ f fd,Def (L2.KOf KX) mg "law" My.ZbZ ["_law_script"] f fd:=by
   dsimp only [L2.KOf];refine' yao KX G (fun _ _ _ _ _ _ us hl=>match us,hl with | [_],_=>rfl) ?a ?l ?c ?k
   (case a=>k_is);(case l=>k_is);(case c=>k_is);(case k=>k_is)
  obtain ⟨_,_,D_law⟩:=D_law
  have e0:=hmg.symm.trans D_law.m
  cases e0
  exact ⟨_,D_law.bindsTo,fun base _ _=>L4.law_of (My.all_ok T  D__law_feed D__law_take D__law_anew D__law_turning D__law_met D__law_floor D__law_drawn D__law_band D__law_behind D__law_stepped D_ring_from D_rings_of D_upper_row D_followed D_turned_back D_round_corners D_is_smooth D_band_from D_bands_of D__law_around D__law_rings D__law_bands D__law_right D_law) fun ns hn=>let ⟨_,st,e,h⟩:=My.law_true ns hn;⟨st,h ▸ e⟩⟩
 case S=>exact fun K H a ns hl hO hS=>⟨a,ns,rfl,hS.script hO,hl,fun _=>rfl⟩
 case C=>exact fun _ _ _ _ z=>z
