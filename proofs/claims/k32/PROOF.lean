import PyProof.Rows.All
import Wide.All
import OpenK.AllK
import Wide.FinOn
import Lean
import PyProof.EqAt
import PyProof.EqKinds
import PyProof.TupleCall
import PyProof.DictIter
import PyProof.EnumMake
import KE.KSortTup
import KE.KDictLaws
import KE.KDictSum
import PyProof.StrLawsTight
import KE.KIntText
import PyProof.MinMaxWalk
import PyProof.WalkInts
import KE.KIsAll
import PyProof.ExcInit
import PyProof.NsDelKeeps
import PyProof.ExcBaseAll.ValueError
import OpenK.KOwn
import PyProof.ExcAttrAll.ValueError
import PySem.Challenge.RW_shearfloor_k32_tables_of_slopes
set_option Elab.async false
set_option linter.all false
set_option maxRecDepth 100000
set_option maxHeartbeats 4000000
set_option genSizeOf false
noncomputable section
namespace L2
open PySem PySem.Spec PyProof.Rows
abbrev Key:=Sum Int Str
noncomputable def keyIs:Key→Value→Bool
 | .inl k,v=>Value.isInt k v
 | .inr x,v=>Value.isStrOf x v
noncomputable def keyH (w:World):Key→Int
 | .inl k=>hashInt k
 | .inr x=>hashStr w x
theorem zah:∀ {k:Key} {v:Value},keyIs k v=true→(∃ i t,k=Sum.inl i∧v=Value.int i t)∨(∃ x t,k=Sum.inr x∧v=Value.str x t)
 | .inl i,v,h=>by
  obtain ⟨t,e⟩:=Value.isInt_shape (k:=i) (v:=v) h
  exact .inl ⟨i,t,rfl,e⟩
 | .inr x,v,h=>by
  obtain ⟨t,e⟩:=Value.isStrOf_shape (x:=x) (v:=v) h
  exact .inr ⟨x,t,rfl,e⟩
theorem key_ll (a b:Int):decide ((Sum.inl a:Key)=Sum.inl b)=(a == b):=by
 by_cases e:a=b
 ·subst e;simp
 ·have h:¬ (Sum.inl a:Key)=Sum.inl b:=fun q=>e (Sum.inl.inj q)
  rw [decide_eq_false h]
  exact (beq_eq_false_iff_ne.mpr e).symm
theorem key_rr (a b:Str):decide ((Sum.inr a:Key)=Sum.inr b)=decide (a=b):=by
 by_cases e:a=b
 ·subst e;simp
 ·have h:¬ (Sum.inr a:Key)=Sum.inr b:=fun q=>e (Sum.inr.inj q)
  rw [decide_eq_false h,decide_eq_false e]
theorem key_lr (a:Int) (b:Str):decide ((Sum.inl a:Key)=Sum.inr b)=false:=decide_eq_false (fun q=>nomatch q)
theorem key_rl (a:Str) (b:Int):decide ((Sum.inr a:Key)=Sum.inl b)=false:=decide_eq_false (fun q=>nomatch q)
noncomputable def mixKind (prog:Program) (w:World):PySem.KeyKind prog w Key where
 is:=keyIs
 hash:=keyH w
 inj:=fun v a b ha hb=>by
  rcases zah ha with ⟨i,t,rfl,rfl⟩ | ⟨x,t,rfl,rfl⟩
  ·rcases zah hb with ⟨j,u,rfl,e⟩ | ⟨y,u,rfl,e⟩
   ·injection e with e1 _;rw [e1]
   ·exact nomatch e
  ·rcases zah hb with ⟨j,u,rfl,e⟩ | ⟨y,u,rfl,e⟩
   ·exact nomatch e
   ·injection e with e1 _;rw [e1]
 byValue:=fun k v h=>by
  rcases zah h with ⟨i,t,rfl,rfl⟩ | ⟨x,t,rfl,rfl⟩ <;> rfl
 pyHash:=fun hv h=>by
  rcases zah hv with ⟨i,t,rfl,rfl⟩ | ⟨x,t,rfl,rfl⟩
  ·exact wpAny_pyHash_int h
  ·exact wpAny_pyHash_str h
 eqBool:=fun hu hv h=>by
  rcases zah hu with ⟨i,t,rfl,rfl⟩ | ⟨x,t,rfl,rfl⟩
  ·rcases zah hv with ⟨j,u,rfl,rfl⟩ | ⟨y,u,rfl,rfl⟩
   ·rw [key_ll] at h;exact wpAny_eqBool_int h
   ·rw [key_lr] at h;exact SeqAt.EqAt.int_str i t y u _ _ _ _ h
  ·rcases zah hv with ⟨j,u,rfl,rfl⟩ | ⟨y,u,rfl,rfl⟩
   ·rw [key_rl] at h;exact SeqAt.EqAt.str_int x t j u _ _ _ _ h
   ·rw [key_rr] at h;exact wpAny_eqBool_str h
 «strs»:=fun k x t v h=>by
  rcases zah h with ⟨i,u,rfl,e⟩ | ⟨y,u,rfl,e⟩
  ·exact nomatch e
  ·injection e with e1 _
   subst e1
   cases v <;> rfl
end L2
namespace L2
open PySem PySem.Spec PyProof.Rows
inductive V where
 | non | bl (b:Bool) | int (i:Int) | str (x:Str) | byt (b:Array UInt8) | flt (b:UInt64) | ref (a:Addr) | ty (n:String)
 deriving DecidableEq
noncomputable def RelV:V→Value→Prop
 | .non,u=>u=Value.none
 | .bl b,u=>u=Value.bool b
 | .int i,u=>∃ t,u=Value.int i t
 | .str x,u=>∃ t,u=Value.str x t
 | .byt b,u=>∃ t,u=Value.bytes b t
 | .flt b,u=>∃ t,u=Value.float b t
 | .ref a,u=>u=Value.ref a
 | .ty n,u=>u=Value.type n
abbrev Vals:List V→List Value→Prop:=Paired RelV
theorem Vals.length {xs:List V} {us:List Value} (r:Vals xs us):xs.length=us.length:=Paired.length r
theorem Vals.get:∀ {xs:List V} {us:List Value} {i:Nat} {x:V},Vals xs us→xs[i]?=some x→∃ u,us[i]?=some u∧RelV x u
 | _,_,_,_,.nil,e=>by simp at e
 | _,_,0,_,.cons r _,e=>by simp at e;subst e;exact ⟨_,rfl,r⟩
 | _,_,i + 1,x,.cons _ t,e=>by
  obtain ⟨u,h1,h2⟩:=Vals.get (i:=i) (x:=x) t (by simpa using e)
  exact ⟨u,by simpa using h1,h2⟩
theorem Vals.set {x:V} {u:Value} (r:RelV x u):∀ {xs:List V} {us:List Value} (i:Nat),Vals xs us→Vals (xs.set i x) (us.set i u)
 | _,_,_,.nil=>.nil
 | _,_,0,.cons _ t=>.cons r t
 | _,_,i + 1,.cons q t=>.cons q (Vals.set r i t)
theorem Vals.append:∀ {xs ys:List V} {us ws:List Value},Vals xs us→Vals ys ws→Vals (xs ++ ys) (us ++ ws)
 | _,_,_,_,.nil,s=>s
 | _,_,_,_,.cons r t,s=>.cons r (Vals.append t s)
noncomputable def RelO:Option V→Option Value→Prop
 | some v,some u=>RelV v u
 | none,none=>True
 | _,_=>False
noncomputable def KV {κ:Type}:List (κ×V)→List (κ×Value)→Prop:=Paired fun (p:κ×V) (q:κ×Value)=>p.1=q.1∧RelV p.2 q.2
noncomputable def kV:Key→V
 | .inl i=>.int i
 | .inr x=>.str x
set_option genInjectivity false in
inductive HO where
 /-- a list -/
 | lst (xs:List V)
 /-- a tuple (never changes) -/
 | tup (xs:List V)
 /-- a dict whose keys are ints and texts;one whose keys are tuples of ints and texts (the empty one is both) -/
 | dK (kvs:List (Key×V)) | dT (kvs:List (List Key×V))
 /-- a set of ints: its members,its size -/
 | set (S:Int→Bool) (n:Nat)
 /-- an instance of the class at C,its dict at dx,its attributes -/
 | ins (C dx:Addr) (fs:List (Str×V))
 /-- the dict of the instance at x -/
 | own (x:Addr)
 /-- the dict of an exception -/
 | xd (fs:List (Str×V))
 /-- a bound method,f of x -/
 | met (f x:Addr)
 /-- a range object lo,lo + 1,.. below hi -/
 | rng (lo hi:Int)
 /-- a thing that is known to the object (the script;a dict while a loop walks it): read,never written while it is so -/
 | frz (o:Obj) (u:HO)
 /-- a code object's table -/
 | tbl (ps:Array Value)
 /-- any other thing,by what is true of its one object (a def of one's own: SetO a S n:=HO.ext fun h=>..) -/
 | ext (φ:Heap→Prop)
abbrev Hp:=Addr→Option HO
noncomputable def upd (H:Hp) (a:Addr) (o:HO):Hp:=fun b=>if b=a then some o else H b
theorem xah {H:Hp} {a:Addr} {o:HO}:upd H a o a=some o:=by unfold upd;rw [if_pos rfl]
theorem xae {H:Hp} {a b:Addr} {o:HO} (h:b≠a):upd H a o b=H b:=by unfold upd;rw [if_neg h]
theorem ne_of {H:Hp} {a b:Addr} {o u:HO} (h:H a=some o) (h':H b=some u) (d:o≠u):a≠b:=by
 intro e;subst e;rw [h] at h';exact d (Option.some.inj h')
theorem Zam {H:Hp} {a b:Addr} {o:HO} (h:H a=some o) (h':H b=none):a≠b:=by
 intro e;subst e;rw [h] at h';cases h'
noncomputable def PTup (h:Heap) (a:Addr) (its:Array Value):Prop:=∃ o,h.get? a=some o∧o.cls=.type "tuple" ∧ o.dict=none∧∃ n,o.data=.seq its n
theorem PTup.tup {h:Heap} {a:Addr} {its:Array Value} (x:PTup h a its):IsTup h a its:=let ⟨o,e,c,_,n,d⟩:=x;⟨o,e,c,n,d⟩
theorem PTup.new (h:Heap) (its:Array Value):PTup (h.push { cls:=.type "tuple",data:=.seq its }) h.objs.size its:=⟨_,Heap.get?_push_size _ rfl,rfl,rfl,_,rfl⟩
section
variable (P:Program) (w:World)
noncomputable def ObjOk (H:Hp) (h:Heap) (a:Addr):HO→Prop
 | .lst xs=>xs.length≤sizeLine∧∃ (its:List Value) (n:Nat),Vals xs its∧h.get? a=some { cls:=.type "list",data:=.seq its.toArray n }
 | .tup xs=>xs.length≤sizeLine∧∃ its:List Value,Vals xs its∧PTup h a its.toArray
 | .dK kvs=>kvs.length≤sizeLine∧(a == sysModules)=false∧∃ vs,KV kvs vs∧h.DictOf (mixKind P w) a vs
 | .dT kvs=>kvs.length≤sizeLine∧(a == sysModules)=false∧∃ xs:List (List Key×Addr×Value),
   Paired (fun (p:List Key×V) (q:List Key×Addr×Value)=>p.1=q.1∧H q.2.1=some (.tup (p.1.map kV))∧RelV p.2 q.2.2) kvs xs ∧
   ∃ o es ep,h.get? a=some o∧o.ExactDict∧o.data=.dict es ep∧es.toList=xs.map (entryOfKey (tupleKind (mixKind P w)))∧(xs.map (·.1)).Nodup
 | .set S n=>h.SetOf (intKind P w) a S n
 | .ins C dx fs=>H dx=some (.own a)∧fs.length≤1000∧dx≠a∧h.get? a=some (PySem.W.instObj C dx) ∧
   ∃ mA,h.Ns1 dx mA∧(∀ f,RelO (fs.lookup f) (mA f))∧PySem.Within mA (fs.map (·.1))
 | .own _=>∃ o,h.get? a=some o
 | .xd fs=>∃ mA,h.Ns1 a mA∧∀ f,RelO (fs.lookup f) (mA f)
 | .rng lo hi=>∃ t u v,h.get? a=some { cls:=.type "range",data:=.fields #[.int lo t,.int hi u,.int 1 v] }
 | .frz o u=>h.get? a=some o∧ObjOk H h a u
 | .tbl ps=>h.get? a=some { cls:=.none,data:=.fields ps }
 | .met f x=>h.get? a=some (PySem.W.methodObj (.ref f) (.ref x))
 | .ext φ=>φ h∧(∃ o,h.get? a=some o)∧∀ h1 h2:Heap,φ h1→(∀ o,h1.get? a=some o→h2.get? a=some o)→φ h2
noncomputable def HOk (H:Hp) (h:Heap):Prop:=∀ a o,H a=some o→ObjOk P w H h a o
end
section
variable {P:Program} {w:World} {H H':Hp} {h h':Heap} {a:Addr} {o:HO}
theorem ObjOk.lt (x:ObjOk P w H h a o):a < h.objs.size:=by
 cases o with
 | lst xs=>obtain ⟨_,_,_,_,e⟩:=x;exact Heap.lt_size e
 | tup xs=>obtain ⟨_,_,_,_,e,_⟩:=x;exact Heap.lt_size e
 | dK kvs=>obtain ⟨_,_,_,_,o,_,_,e,_⟩:=x;exact Heap.lt_size e
 | dT kvs=>obtain ⟨_,_,_,_,o,_,_,e,_⟩:=x;exact Heap.lt_size e
 | set S n=>obtain ⟨o,_,_,_,e,_⟩:=x;exact Heap.lt_size e
 | ins C dx fs=>obtain ⟨_,_,_,e,_⟩:=x;exact Heap.lt_size e
 | own y=>obtain ⟨_,e⟩:=x;exact Heap.lt_size e
 | xd fs=>obtain ⟨_,⟨_,_,_,e,_⟩,_⟩:=x;exact Heap.lt_size e
 | rng lo hi=>obtain ⟨_,_,_,e⟩:=x;exact Heap.lt_size e
 | frz ob u=>obtain ⟨e,_⟩:=x;exact Heap.lt_size e
 | tbl ps=>exact Heap.lt_size (show h.get? a=some _ from x)
 | met f y=>exact Heap.lt_size (show h.get? a=some _ from x)
 | ext φ=>obtain ⟨_,⟨_,e⟩,_⟩:=x;exact Heap.lt_size e
theorem Paired.mapP {α β:Type} {F G:α→β→Prop}:∀ {l₁:List α} {l₂:List β},Paired F l₁ l₂→(∀ a b,F a b→G a b)→Paired G l₁ l₂
 | _,_,.nil,_=>.nil
 | _,_,.cons r t,f=>.cons (f _ _ r) (Paired.mapP t f)
theorem ObjOk.stay (x:ObjOk P w H h a o) (k:∀ b u,(b=a∨H b=some (.own a))→h.get? b=some u→h'.get? b=some u)
  (ho:∀ b,H b=some (.own a)→H' b=some (.own a)) (ht:∀ b xs,H b=some (.tup xs)→H' b=some (.tup xs)):ObjOk P w H' h' a o:=by
 induction o with
 | lst xs=>obtain ⟨z,its,n,r,e⟩:=x;exact ⟨z,its,n,r,k _ _ (.inl rfl) e⟩
 | tup xs=>obtain ⟨z,its,r,ob,e,c⟩:=x;exact ⟨z,its,r,ob,k _ _ (.inl rfl) e,c⟩
 | dK kvs=>obtain ⟨z,y,vs,r,ob,es,ep,e,c⟩:=x;exact ⟨z,y,vs,r,ob,es,ep,k _ _ (.inl rfl) e,c⟩
 | dT kvs =>
  obtain ⟨z,y,xs,r,ob,es,ep,e,c⟩:=x
  exact ⟨z,y,xs,Paired.mapP r fun p q z=>⟨z.1,ht _ _ z.2.1,z.2.2⟩,ob,es,ep,k _ _ (.inl rfl) e,c⟩
 | set S n=>obtain ⟨ob,es,ep,t,e,c⟩:=x;exact ⟨ob,es,ep,t,k _ _ (.inl rfl) e,c⟩
 | ins C dx fs =>
  obtain ⟨d,z,ne,e,mA,⟨od,es,ep,e2,c⟩,r⟩:=x
  exact ⟨ho _ d,z,ne,k _ _ (.inl rfl) e,mA,⟨od,es,ep,k _ _ (.inr d) e2,c⟩,r⟩
 | own y=>obtain ⟨ob,e⟩:=x;exact ⟨ob,k _ _ (.inl rfl) e⟩
 | xd fs=>obtain ⟨mA,⟨od,es,ep,e,c⟩,r⟩:=x;exact ⟨mA,⟨od,es,ep,k _ _ (.inl rfl) e,c⟩,r⟩
 | rng lo hi=>obtain ⟨t,u,v,e⟩:=x;exact ⟨t,u,v,k _ _ (.inl rfl) e⟩
 | frz ob u ih=>obtain ⟨e,q⟩:=x;exact ⟨k _ _ (.inl rfl) e,ih q⟩
 | tbl ps =>
  have e:h.get? a=some { cls:=.none,data:=.fields ps }:=x
  show h'.get? a=some { cls:=.none,data:=.fields ps }
  exact k a _ (.inl rfl) e
 | met f y =>
  have e:h.get? a=some (PySem.W.methodObj (.ref f) (.ref y)):=x
  show h'.get? a=some (PySem.W.methodObj (.ref f) (.ref y))
  exact k a _ (.inl rfl) e
 | ext φ=>obtain ⟨p,⟨o,e⟩,st⟩:=x;exact ⟨st _ _ p fun o q=>k _ _ (.inl rfl) q,⟨o,k _ _ (.inl rfl) e⟩,st⟩
theorem HOk.lt (x:HOk P w H h) (e:H a=some o):a < h.objs.size:=(x a o e).lt
theorem HOk.fresh (x:HOk P w H h) (e:h.objs.size≤a):H a=none:=by
 cases q:H a with
 | none=>rfl
 | some u=>exact absurd (Nat.lt_of_lt_of_le (x.lt q) e) (Nat.lt_irrefl _)
theorem HOk.kept (x:HOk P w H h) (k:∀ b u,h.get? b=some u→h'.get? b=some u):HOk P w H h':=fun a o e =>
 (x a o e).stay (fun b u _ q=>k b u q) (fun _ q=>q) fun _ _ q=>q
theorem HOk.laid (x:HOk P w H h) (k:∀ b u,h.get? b=some u→h'.get? b=some u) (hp:h.objs.size≤a) (new:ObjOk P w (upd H a o) h' a o):HOk P w (upd H a o) h':=fun b u e=>by
 have hn:=x.fresh hp
 by_cases hb:b=a
 ·subst hb;rw [xah] at e;cases e;exact new
 ·rw [xae hb] at e
  exact (x b u e).stay (fun c v _ q=>k c v q) (fun c q=>by rw [xae (Zam q hn)];exact q) fun c xs q=>by rw [xae (Zam q hn)];exact q
end
noncomputable def Rd (H:Hp) (a:Addr) (u:HO):Prop:=H a=some u∨∃ o,H a=some (.frz o u)
theorem Rd.ok {P:Program} {w:World} {H:Hp} {h:Heap} {a:Addr} {u:HO} (r:Rd H a u) (x:HOk P w H h):ObjOk P w H h a u:=by
 rcases r with r | ⟨o,r⟩
 ·exact x a u r
 ·obtain ⟨_,q⟩:=x a _ r
  exact q
noncomputable def Mut:Option HO→Prop
 | some (.lst _)=>True
 | some (.dK _)=>True
 | some (.dT _)=>True
 | some (.set _ _)=>True
 | some (.ins _ _ _)=>True
 | some (.ext _)=>True
 | _=>False
section
variable {P:Program} {w:World} {H:Hp} {h h':Heap} {x e:Addr} {o':HO}
theorem HOk.write (ok:HOk P w H h) (mu:Mut (H x)) (he:e=x∨H e=some (.own x)) (k:∀ b u,b≠e→h.get? b=some u→h'.get? b=some u) (heo:∃ u,h'.get? e=some u)
  (new:ObjOk P w (upd H x o') h' x o'):HOk P w (upd H x o') h':=fun b u q=>by
 have nown:∀ c y,H c=some (.own y)→c≠x:=fun c y r z=>by subst z;rw [r] at mu;exact mu
 have ntup:∀ c xs,H c=some (.tup xs)→c≠x:=fun c xs r z=>by subst z;rw [r] at mu;exact mu
 by_cases hb:b=x
 ·subst hb;rw [xah] at q;cases q;exact new
 ·rw [xae hb] at q
  by_cases hbe:b=e
  ·have q':H b=some (.own x):=by
    rcases he with z | z
    ·exact absurd (hbe.trans z) hb
    ·rw [hbe];exact z
   rw [q] at q';cases q'
   obtain ⟨v,hv⟩:=heo
   exact ⟨v,by rw [hbe];exact hv⟩
  ·refine (ok b u q).stay (fun c v hc r=>k c v ?_ r) (fun c r=>by rw [xae (nown c b r)];exact r) fun c xs r=>by rw [xae (ntup c xs r)];exact r
   rcases hc with rfl | hc
   ·exact hbe
   ·rintro rfl
    rcases he with z | z
    ·exact nown c b hc z
    ·rw [hc] at z;cases z;exact hb rfl
end
structure Un (fs ex:List Addr) (H H':Hp) (h h':Heap):Prop where
 keep:∀ b o,h.get? b=some o→H b=none→b ∉ fs→b ∉ ex→h'.get? b=some o
 slot:∀ b o,h.get? b=some o→H b=none→b∈fs→b ∉ ex→∃ sl,h'.get? b=some { o with slots:=sl }
 free:∀ b o,h.get? b=some o→H b=none→b ∉ ex→H' b=none
 there:∀ b o,h.get? b=some o→b ∉ ex→∃ o',h'.get? b=some o'
 tups:∀ b xs,H b=some (.tup xs)→H' b=some (.tup xs)
 frzs:∀ b o u,H b=some (.frz o u)→H' b=some (.frz o u)
 tbls:∀ b ps,H b=some (.tbl ps)→∃ more,H' b=some (.tbl (ps ++ more))
section
variable {fs fs' ex ex':List Addr} {H H1 H2:Hp} {h h1 h2 h':Heap} {a x e:Addr} {o:HO}
theorem Un.any (u:Un fs ex H H1 h h1) {b:Addr} {ob:Obj} (q:h.get? b=some ob) (n:H b=none) (hx:b ∉ ex):∃ sl,h1.get? b=some { ob with slots:=sl }:=by
 by_cases hb:b∈fs
 ·exact u.slot b ob q n hb hx
 ·exact ⟨ob.slots,u.keep b ob q n hb hx⟩
theorem Un.kept (k:∀ b u,h.get? b=some u→h'.get? b=some u):Un fs ex H H h h' :=
 ⟨fun b ob q _ _ _=>k b ob q,fun b ob q _ _ _=>⟨ob.slots,k b ob q⟩,fun _ _ _ n _=>n,fun b ob q _=>⟨ob,k b ob q⟩,fun _ _ q=>q,fun _ _ _ q=>q,fun _ ps q=>⟨#[],by rw [q];simp⟩⟩
theorem Un.refl:Un fs ex H H h h:=Un.kept fun _ _ q=>q
theorem Un.laid (k:∀ b u,h.get? b=some u→h'.get? b=some u) (hp:h.objs.size≤a) (hn:H a=none):Un fs ex H (upd H a o) h h' where
 keep:=fun b u q _ _ _=>k b u q
 slot:=fun b u q _ _ _=>⟨u.slots,k b u q⟩
 free:=fun b u q n _=>by rw [xae (Nat.ne_of_lt (Nat.lt_of_lt_of_le (Heap.lt_size q) hp))];exact n
 there:=fun b u q _=>⟨u,k b u q⟩
 tups:=fun b xs q=>by rw [xae (Zam q hn)];exact q
 frzs:=fun b u xs q=>by rw [xae (Zam q hn)];exact q
 tbls:=fun b ps q=>⟨#[],by rw [xae (Zam q hn),q];simp⟩
theorem Un.write (mu:Mut (H x)) (he:e=x∨H e=some (.own x)) (k:∀ b u,b≠e→h.get? b=some u→h'.get? b=some u) (heo:∃ u,h'.get? e=some u):Un fs ex H (upd H x o) h h':=by
 have hx:∀ b,H b=none→b≠x:=fun b n z=>by subst z;rw [n] at mu;exact mu
 have hb:∀ b,H b=none→b≠e:=fun b n z=>by
  subst z
  rcases he with r | r
  ·exact hx b n r
  ·rw [n] at r;cases r
 have hm:∀ b u,H b=some u→¬ Mut (some u)→b≠x:=fun b u q nm z=>by subst z;rw [q] at mu;exact nm mu
 refine ⟨fun b u q n _ _=>k b u (hb b n) q,fun b u q n _ _=>⟨u.slots,k b u (hb b n) q⟩,fun b u q n _=>by rw [xae (hx b n)];exact n,fun b u q _=>?_,
  fun b xs q=>by rw [xae (hm b _ q fun z=>z)];exact q,fun b u xs q=>by rw [xae (hm b _ q fun z=>z)];exact q,fun b ps q=>⟨#[],by rw [xae (hm b _ q fun z=>z),q];simp⟩⟩
 by_cases hbe:b=e
 ·subst hbe;exact heo
 ·exact ⟨u,k b u hbe q⟩
end
noncomputable def trk (h:Heap) (H:Hp):List Addr:=(List.range h.objs.size).filter fun a=>(H a).isSome
noncomputable def hidT (h:Heap) (H:Hp):Heap:=PySem.W.hideAll h (trk h H)
theorem zaW (h:Heap) (H:Hp):(hidT h H).objs.size=h.objs.size:=PySem.W.hideAll_size _ _
theorem Xa7 {h:Heap} {H:Hp} {b:Addr} {o:Obj} (e:h.get? b=some o) (n:H b=none):(hidT h H).get? b=some o :=
 PySem.W.hideAll_get _ e fun hm=>by
  have q:(H b).isSome=true:=(List.mem_filter.mp hm).2
  rw [n] at q;simp at q
theorem xbj {h:Heap} {H:Hp} {b:Addr} {o:Obj} (e:(hidT h H).get? b=some o):h.get? b=some o∧H b=none:=by
 have e':h.get? b=some o:=PySem.W.of_hideAll (trk h H) e
 refine ⟨e',?_⟩
 cases q:H b with
 | none=>rfl
 | some x =>
  have hm:b∈trk h H:=List.mem_filter.mpr ⟨List.mem_range.mpr (Heap.lt_size e'),by simp [q]⟩
  have z:(hidT h H).get? b=none:=PySem.W.hideAll_none (trk h H) hm
  rw [z] at e;cases e
noncomputable def allNews (g h:Heap) (L:Addr):List (Addr×Obj):=(List.range h.objs.size).filterMap fun a=>if a=L∨(g.get? a).isSome=true then none else (h.get? a).map fun o=>(a,o)
noncomputable def rest (g h:Heap) (L d:Addr):List (Addr×Obj):=(allNews g h L).filter fun p=>decide (p.1≠d)
end L2
namespace L2
open PySem PySem.Spec PyProof.Rows
structure Mod (K:PySem.W.Frag) (mg:Str→Option Value) (base:Heap):Prop where
 kin:K.In base
 glob:base.Ns mainGlobals mg
 blt:∃ mb,base.Ns builtinsNs mb∧∀ x:Str,x≠"__name__" → mb x=bootBuiltins x
 nolimit:base.NoLimit
set_option genInjectivity false in
structure Cx where
 prog:Program
 w:World
 K:PySem.W.Frag
 mg:Str→Option Value
 base:Heap
 A:Around
 N:List Str
 s₀:Shared
 H₀:Hp
 env:Env
 outer:List Env
 stack:List Env
 ex:List Addr
 fn:Str→Bool
 calm:Bool
 pn:List (Addr×Obj)
 xe:Value→Shared→Prop
noncomputable def frs (l:List Env):List Addr:=l.filterMap (·.frame)
abbrev Cx.fs (X:Cx):List Addr:=frs X.outer
noncomputable def Vis (sc:Scope) (x:Str):Prop:=sc.names.lookup x=some .local∨sc.names.lookup x=some .cell∨sc.names.lookup x=some .free
noncomputable def Loc (sc:Scope) (x:Str):Prop:=sc.names.lookup x=some .local∨sc.names.lookup x=some .cell
noncomputable def Look (env:Env) (h:Heap) (m:Str→Option Value) (x:Str) (u:Value):Prop :=
 (env.kindOf x=some .local∧m x=some u)∨((env.kindOf x=some .cell∨env.kindOf x=some .free)∧∃ c,env.cells.lookup x=some c∧h.IsCell c (some u))
structure Cx.Ok (X:Cx):Prop where
 mod:Mod X.K X.mg X.base
 kind:X.env.scope.kind=.function
 glob:X.env.globals=mainGlobals
 blt:X.env.builtins=builtinsNs
 above:X.s₀.heap.objs.size≤X.env.locals
 inj:∀ x y c,X.env.cells.lookup x=some c→X.env.cells.lookup y=some c→x=y
 has:∀ x,(X.env.kindOf x=some .cell∨X.env.kindOf x=some .free)→∃ c,X.env.cells.lookup x=some c
 cab:∀ x c,X.fn x=true→X.env.cells.lookup x=some c→X.s₀.heap.objs.size≤c
 hd:X.calm=true→X.A.handled=none
 frames:X.A.frames=some X.stack
 stk:X.stack=X.outer∨(X.stack=X.env :: X.outer∧X.env.frame=some X.env.locals)
 exf:∀ b∈X.ex,b≠X.env.locals∧∀ x c,X.env.cells.lookup x=some c→c≠b
 bs:∀ b o,X.base.get? b=some o→X.s₀.heap.get? b=some o∧X.H₀ b=none
 bsz:X.base.objs.size≤X.s₀.heap.objs.size
 noex:∀ b o,X.base.get? b=some o→b ∉ X.ex
 exfs:∀ b∈X.ex,b ∉ X.fs
 funs:X.s₀.heap.FunFrames X.base X.outer
 frf:∀ b∈X.fs,X.H₀ b=none
structure Inv (X:Cx) (pins:List (Addr×Obj)) (σ:List (Option V)) (H:Hp) (s:Shared):Prop where
 ok:X.Ok
 os:s.os=X.s₀.os
 bare:AllBare s.gens
 base:Un X.fs X.ex X.H₀ H X.s₀.heap s.heap
 loc:∃ m,s.heap.Ns X.env.locals m∧∀ (i:Nat) (x:Str) (v:V),X.N[i]?=some x→σ[i]?=some (some v)→Vis X.env.scope x→∃ u,RelV v u∧Look X.env s.heap m x u
 cell:∀ x c,X.env.cells.lookup x=some c→∃ v,s.heap.IsCell c v
 free:H X.env.locals=none
 freeC:∀ x c,X.env.cells.lookup x=some c→H c=none
 pin:∀ p∈X.pn ++ pins,s.heap.get? p.1=some p.2∧H p.1=none∧p.1≠X.env.locals∧p.1 ∉ X.fs∧∀ v,p.2.data≠.cell v
 hok:HOk X.prog X.w H s.heap
 len:σ.length=X.N.length
section
variable {X:Cx} {pins:List (Addr×Obj)} {σ:List (Option V)} {H H':Hp} {s:Shared} {h':Heap}
theorem Cx.Ok.nofr (ok:X.Ok) {b:Addr} {o:Obj} (e:X.base.get? b=some o):b ∉ X.fs:=fun hb=>by
 have:=(ok.funs.mem hb).1
 rw [e] at this;cases this
theorem Inv.bs (I:Inv X pins σ H s):∀ b o,X.base.get? b=some o→s.heap.get? b=some o∧H b=none:=fun b o e =>
 ⟨I.base.keep b o (I.ok.bs b o e).1 (I.ok.bs b o e).2 (I.ok.nofr e) (I.ok.noex b o e),I.base.free b o (I.ok.bs b o e).1 (I.ok.bs b o e).2 (I.ok.noex b o e)⟩
theorem Inv.bk (I:Inv X pins σ H s):∀ b o,X.base.get? b=some o→s.heap.get? b=some o:=fun b o e=>(I.bs b o e).1
theorem Inv.mod (I:Inv X pins σ H s):Mod X.K X.mg X.base:=I.ok.mod
theorem Inv.kIn (I:Inv X pins σ H s):X.K.In s.heap:=I.ok.mod.kin.keeps I.bk
theorem Inv.lt (I:Inv X pins σ H s):X.env.locals < s.heap.objs.size:=let ⟨_,hn,_⟩:=I.loc;hn.lt
theorem Inv.sz (I:Inv X pins σ H s):X.s₀.heap.objs.size≤s.heap.objs.size:=Nat.le_trans I.ok.above (Nat.le_of_lt I.lt)
theorem Inv.nofs (I:Inv X pins σ H s) {a:Addr} (h:s.heap.objs.size≤a):a ∉ X.fs:=fun hb=>by
 obtain ⟨_,o,ho,_⟩:=I.ok.funs.mem hb
 exact absurd (Nat.lt_of_lt_of_le (Heap.lt_size ho) (Nat.le_trans I.sz h)) (Nat.lt_irrefl _)
theorem Inv.cne (I:Inv X pins σ H s):∀ x c,X.env.cells.lookup x=some c→c≠X.env.locals:=fun x c e z=>by
 obtain ⟨v,o,ho,hd⟩:=I.cell x c e
 obtain ⟨m,⟨o',es,ep,ho',hd',_⟩,_⟩:=I.loc
 rw [z,ho'] at ho;cases ho;rw [hd'] at hd;cases hd
theorem Inv.funs (I:Inv X pins σ H s):s.heap.FunFrames X.base X.outer:=by
 have all:∀ (l:List Env),(∀ b∈frs l,b∈X.fs)→X.s₀.heap.FunFrames X.base l→s.heap.FunFrames X.base l:=by
  intro l
  induction l with
  | nil=>intro _ _;trivial
  | cons env r ih =>
   intro hs hl
   obtain ⟨hk,⟨L,o,hf,hn,ho,hd⟩,hr⟩:=hl
   have hL:L∈X.fs:=hs L (by unfold frs;rw [List.filterMap_cons,hf];exact List.mem_cons_self)
   obtain ⟨sl,e⟩:=I.base.slot L o ho (I.ok.frf L hL) hL fun z=>I.ok.exfs L z hL
   exact ⟨hk,⟨L,_,hf,hn,e,hd⟩,ih (fun b hb=>hs b (by unfold frs;rw [List.filterMap_cons,hf];exact List.mem_cons_of_mem _ hb)) hr⟩
 exact all X.outer (fun _ hb=>hb) I.ok.funs
theorem Inv.stack (I:Inv X pins σ H s):s.heap.FunFrames X.base X.stack:=by
 rcases I.ok.stk with e | ⟨e,hf⟩
 ·rw [e];exact I.funs
 ·rw [e]
  obtain ⟨m,hn,_⟩:=I.loc
  refine .cons (by rw [I.ok.kind];decide) hf hn ?_ I.funs
  exact Heap.get?_none_of_le (Nat.le_trans I.ok.bsz I.ok.above)
theorem Inv.stkSub (I:Inv X pins σ H s):∀ b∈frs X.stack,b∈X.env.locals :: X.fs:=fun b hb=>by
 rcases I.ok.stk with e | ⟨e,hf⟩
 ·rw [e] at hb;exact List.mem_cons_of_mem _ hb
 ·rw [e] at hb
  unfold frs at hb
  rw [List.filterMap_cons,hf] at hb
  exact hb
theorem Inv.stkFree (I:Inv X pins σ H s):∀ b∈frs X.stack,H b=none:=fun b hb=>by
 rcases List.mem_cons.mp (I.stkSub b hb) with e | hb
 ·rw [e];exact I.free
 ·obtain ⟨_,o,ho,_⟩:=I.ok.funs.mem hb
  exact I.base.free b o ho (I.ok.frf b hb) fun z=>I.ok.exfs b z hb
theorem Inv.step {g':Array GenState} {t':Nat} {d':Drawn} {ch:List Addr} (I:Inv X pins σ H s)
  (hch:∀ b∈ch,(b∈X.ex∨X.s₀.heap.objs.size≤b)∧b≠X.env.locals∧(∀ x c,X.env.cells.lookup x=some c→c≠b)∧∀ p∈X.pn ++ pins,p.1≠b)
  (keep:∀ b o,b≠X.env.locals→b ∉ X.fs→b ∉ ch→s.heap.get? b=some o→H b=none→h'.get? b=some o)
  (slot:∀ b o,b≠X.env.locals→b∈X.fs→b ∉ ch→s.heap.get? b=some o→H b=none→∃ sl,h'.get? b=some { o with slots:=sl }) (free:∀ b o,b ∉ ch→s.heap.get? b=some o→H b=none→H' b=none)
  (there:∀ b o,b ∉ ch→s.heap.get? b=some o→∃ o',h'.get? b=some o')
  (tups:∀ b xs,H b=some (.tup xs)→H' b=some (.tup xs)) (frzs:∀ b o u,H b=some (.frz o u)→H' b=some (.frz o u)) (tbls:∀ b ps,H b=some (.tbl ps)→∃ more,H' b=some (.tbl (ps ++ more)))
  (ns:∀ m,s.heap.Ns X.env.locals m→h'.Ns X.env.locals m) (hok:HOk X.prog X.w H' h') (hg:AllBare g') :
  Inv X pins σ H' { s with heap:=h',gens:=g',drawn:=d',toks:=t' }:=by
 have neL:∀ b o,X.s₀.heap.get? b=some o→b≠X.env.locals:=fun b o e=>Nat.ne_of_lt (Nat.lt_of_lt_of_le (Heap.lt_size e) I.ok.above)
 have neC:∀ b o,X.s₀.heap.get? b=some o→b ∉ X.ex→b ∉ ch:=fun b o e hx hb=>by
  rcases (hch b hb).1 with z | z
  ·exact hx z
  ·exact absurd (Nat.lt_of_lt_of_le (Heap.lt_size e) z) (Nat.lt_irrefl _)
 have cellK:∀ x c,X.env.cells.lookup x=some c→∀ v,s.heap.IsCell c v→h'.IsCell c v:=fun x c e v ⟨o,ho,hd⟩=>by
  have nch:c ∉ ch:=fun z=>(hch c z).2.2.1 x c e rfl
  by_cases hc:c∈X.fs
  ·obtain ⟨sl,q⟩:=slot c o (I.cne x c e) hc nch ho (I.freeC x c e)
   exact ⟨_,q,hd⟩
  ·exact ⟨o,keep c o (I.cne x c e) hc nch ho (I.freeC x c e),hd⟩
 refine ⟨I.ok,I.os,hg,⟨fun b o e n hb hx=>?_,fun b o e n hb hx=>?_,fun b o e n hx=>?_,fun b o e hx=>?_,fun b xs e=>tups b xs (I.base.tups b xs e),fun b o xs e=>frzs b o xs (I.base.frzs b o xs e),fun b ps e=>?_⟩,?_,fun x c e=>?_,?_,fun x c e=>?_,fun p hp=>?_,hok,I.len⟩
 ·exact keep b o (neL b o e) hb (neC b o e hx) (I.base.keep b o e n hb hx) (I.base.free b o e n hx)
 ·obtain ⟨sl,e1⟩:=I.base.slot b o e n hb hx
  obtain ⟨sl',e2⟩:=slot b _ (neL b o e) hb (neC b o e hx) e1 (I.base.free b o e n hx)
  exact ⟨sl',e2⟩
 ·obtain ⟨o',e1⟩:=I.base.there b o e hx
  exact free b o' (neC b o e hx) e1 (I.base.free b o e n hx)
 ·obtain ⟨o',e1⟩:=I.base.there b o e hx
  exact there b o' (neC b o e hx) e1
 ·obtain ⟨m1,e1⟩:=I.base.tbls b ps e
  obtain ⟨m2,e2⟩:=tbls b _ e1
  exact ⟨m1 ++ m2,by rw [e2,Array.append_assoc]⟩
 ·obtain ⟨m,hn,hl⟩:=I.loc
  refine ⟨m,ns m hn,fun i x v e1 e2 e3=>?_⟩
  obtain ⟨u,r,l⟩:=hl i x v e1 e2 e3
  refine ⟨u,r,?_⟩
  rcases l with l | ⟨k,c,e,z⟩
  ·exact .inl l
  ·exact .inr ⟨k,c,e,cellK x c e _ z⟩
 ·obtain ⟨v,z⟩:=I.cell x c e
  exact ⟨v,cellK x c e v z⟩
 ·obtain ⟨m,⟨o,_,_,ho,_⟩,_⟩:=I.loc
  exact free _ o (fun z=>(hch _ z).2.1 rfl) ho I.free
 ·obtain ⟨v,o,ho,hd⟩:=I.cell x c e
  exact free c o (fun z=>(hch c z).2.2.1 x c e rfl) ho (I.freeC x c e)
 ·obtain ⟨e,n,ne,nf,d⟩:=I.pin p hp
  have nch:p.1 ∉ ch:=fun z=>(hch p.1 z).2.2.2 p hp rfl
  exact ⟨keep p.1 p.2 ne nf nch e n,free p.1 p.2 nch e n,ne,nf,d⟩
theorem Inv.un {t':Nat} (I:Inv X pins σ H s) (u:Un X.fs [] H H' s.heap h') (hok:HOk X.prog X.w H' h'):Inv X pins σ H' { s with heap:=h',toks:=t' }:=by
 obtain ⟨m,⟨o,es,ep,ho,r⟩,_⟩:=id I.loc
 obtain ⟨sl,hL⟩:=u.any ho I.free (by simp)
 exact I.step (g':=s.gens) (d':=s.drawn) (ch:=[]) (fun _ z=>nomatch z) (fun b o _ hb _ e n=>u.keep b o e n hb (by simp)) (fun b o _ hb _ e n=>u.slot b o e n hb (by simp)) (fun b o _ e n=>u.free b o e n (by simp)) (fun b o _ e=>u.there b o e (by simp)) u.tups u.frzs u.tbls (fun m' hm=>by
  obtain ⟨o',es',ep',ho',r'⟩:=hm
  rw [ho] at ho';cases ho'
  exact ⟨_,es',ep',hL,r'⟩) hok I.bare
theorem Inv.call {g':Array GenState} {t':Nat} {d':Drawn} {ch:List Addr} (I:Inv X pins σ H s) (u:Un (frs X.stack) ch H H' s.heap h') (hok:HOk X.prog X.w H' h') (hg:AllBare g')
  (hch:∀ b∈ch,(b∈X.ex∨X.s₀.heap.objs.size≤b)∧b≠X.env.locals∧(∀ x c,X.env.cells.lookup x=some c→c≠b)∧∀ p∈X.pn ++ pins,p.1≠b) :
  Inv X pins σ H' { s with heap:=h',gens:=g',drawn:=d',toks:=t' }:=by
 obtain ⟨m,⟨o,es,ep,ho,r⟩,_⟩:=id I.loc
 obtain ⟨sl,hL⟩:=u.any ho I.free fun z=>(hch _ z).2.1 rfl
 exact I.step (ch:=ch) hch (fun b o hL hb hc e n=>u.keep b o e n (fun z=>(List.mem_cons.mp (I.stkSub b z)).elim hL hb) hc) (fun b o _ _ hc e n=>u.any e n hc) (fun b o hc e n=>u.free b o e n hc) (fun b o hc e=>u.there b o e hc) u.tups u.frzs u.tbls (fun m' hm=>by
  obtain ⟨o',es',ep',ho',r'⟩:=hm
  rw [ho] at ho';cases ho'
  exact ⟨_,es',ep',hL,r'⟩) hok hg
theorem Inv.turned {t':Nat} {it:Addr} (I:Inv X pins σ H s) (k:∀ b o,b≠it→s.heap.get? b=some o→h'.get? b=some o) (hn:H it=none) (hL:it≠X.env.locals)
  (h1:it∈X.ex∨X.s₀.heap.objs.size≤it) (h2:∀ x c,X.env.cells.lookup x=some c→c≠it) (h3:∀ p∈X.pn ++ pins,p.1≠it):Inv X pins σ H { s with heap:=h',toks:=t' }:=by
 have nit:∀ b u,H b=some u→b≠it:=fun b u e z=>by rw [z,hn] at e;cases e
 refine I.step (g':=s.gens) (d':=s.drawn) (ch:=[it]) (fun b hb=>?_) (fun b o _ _ hc e _=>k b o (fun z=>hc (by simp [z])) e) (fun b o _ _ hc e _=>⟨o.slots,k b o (fun z=>hc (by simp [z])) e⟩) (fun _ _ _ _ n=>n)
  (fun b o hc e=>⟨o,k b o (fun z=>hc (by simp [z])) e⟩) (fun _ _ e=>e) (fun _ _ _ e=>e) (fun b ps e=>⟨#[],by rw [e];simp⟩) (fun m hm=>?_) (fun b u e=>?_) I.bare
 ·have e:b=it:=by simpa using hb
  subst e
  exact ⟨h1,hL,h2,h3⟩
 ·obtain ⟨o,es,ep,ho,r⟩:=hm
  exact ⟨o,es,ep,k _ o (Ne.symm hL) ho,r⟩
 ·refine (I.hok b u e).stay (fun c v hc q=>k c v ?_ q) (fun _ q=>q) fun _ _ q=>q
  rcases hc with z | z
  ·rw [z];exact nit b u e
  ·exact nit c _ z
theorem Inv.tok (I:Inv X pins σ H s) (t:Nat):Inv X pins σ H { s with toks:=t }:=I.un (h':=s.heap) (t':=t) Un.refl I.hok
theorem Inv.kept {t':Nat} (I:Inv X pins σ H s) (k:∀ b u,s.heap.get? b=some u→h'.get? b=some u):Inv X pins σ H { s with heap:=h',toks:=t' }:=I.un (Un.kept k) (I.hok.kept k)
theorem Inv.laid {a:Addr} {o:HO} {t':Nat} (I:Inv X pins σ H s) (k:∀ b u,s.heap.get? b=some u→h'.get? b=some u) (hp:s.heap.objs.size≤a) (new:ObjOk X.prog X.w (upd H a o) h' a o) :
  Inv X pins σ (upd H a o) { s with heap:=h',toks:=t' }:=I.un (Un.laid k hp (I.hok.fresh hp)) (I.hok.laid k hp new)
theorem Inv.write {x e:Addr} {o:HO} {t':Nat} (I:Inv X pins σ H s) (mu:Mut (H x)) (he:e=x∨H e=some (.own x)) (k:∀ b u,b≠e→s.heap.get? b=some u→h'.get? b=some u) (heo:∃ u,h'.get? e=some u)
  (new:ObjOk X.prog X.w (upd H x o) h' x o):Inv X pins σ (upd H x o) { s with heap:=h',toks:=t' }:=I.un (Un.write mu he k heo) (I.hok.write mu he k heo new)
theorem Inv.pins_of {pins':List (Addr×Obj)} (I:Inv X pins σ H s) (h:∀ p∈pins',s.heap.get? p.1=some p.2∧H p.1=none∧p.1≠X.env.locals∧p.1 ∉ X.fs∧∀ v,p.2.data≠.cell v):Inv X pins' σ H s :=
 ⟨I.ok,I.os,I.bare,I.base,I.loc,I.cell,I.free,I.freeC,fun p hp=>(List.mem_append.mp hp).elim (fun z=>I.pin p (List.mem_append_left _ z)) (h p),I.hok,I.len⟩
theorem XaE {N:List Str} (hN:N.Nodup) {i j:Nat} {x:Str} (a:N[i]?=some x) (b:N[j]?=some x):i=j:=by
 obtain ⟨h1,e1⟩:=List.getElem?_eq_some_iff.mp a
 obtain ⟨h2,e2⟩:=List.getElem?_eq_some_iff.mp b
 exact (List.getElem_inj hN).mp (e1.trans e2.symm)
theorem xaI {M:Model} {A:Around} {E:Value→Shared→Prop} {i:Nat} {x:Str} {v:V} {u:Value} {Q:Unit→Shared→Prop} (I:Inv X pins σ H s) (hN:X.N.Nodup) (hi:X.N[i]?=some x) (hx:Loc X.env.scope x) (r:RelV v u)
  (h:∀ s',Inv X pins (σ.set i (some v)) H s'→(∃ a,Heap.SameBut a s.heap s'.heap∧(a=X.env.locals∨X.env.cells.lookup x=some a))→Q () s') (hf:X.fn x=true∨X.env.scope.names.lookup x=some .local:=by first | exact .inl rfl | exact .inr rfl | assumption):wpAny M A (storeName X.env x u) Q E s:=by
 obtain ⟨m,hn,hl⟩:=id I.loc
 have hcls:(X.env.scope.kind == .class || (X.env.scope.kind == .module && X.env.locals != X.env.globals))=false:=by rw [I.ok.kind];rfl
 have hiσ:i < σ.length:=by rw [I.len];exact (List.getElem?_eq_some_iff.mp hi).1
 have cne:=I.cne
 have tracked:∀ {a:Addr} {h':Heap},(∃ o,s.heap.get? a=some o∧H a=none)→Heap.SameBut a s.heap h'→HOk X.prog X.w H h':=fun {a h'} ha hs b ob e=>by
  obtain ⟨_,_,hfree⟩:=ha
  refine (I.hok b ob e).stay (fun c w' hc q=>(hs.2 c ?_).trans q) (fun _ q=>q) fun _ _ q=>q
  rintro rfl
  rcases hc with rfl | hc
  ·rw [hfree] at e;cases e
  ·rw [hfree] at hc;cases hc
 rcases hx with hk | hk
 ·refine wpAny_storeName_local hk hn (fun h' hn' hs=>?_) hcls
  obtain ⟨oL,_,_,hoL,_⟩:=id hn
  refine h _ ⟨I.ok,I.os,I.bare,⟨fun b o e n hb hx=>?_,fun b o e n hb hx=>?_,I.base.free,fun b o e hx=>?_,I.base.tups,I.base.frzs,I.base.tbls⟩,⟨_,hn',fun j y v' e1 e2 e3=>?_⟩,fun y c e=>?_,I.free,I.freeC,fun p hp=>?_,tracked ⟨oL,hoL,I.free⟩ hs,by simpa using I.len⟩ ⟨_,hs,.inl rfl⟩
  ·exact (hs.2 b (Nat.ne_of_lt (Nat.lt_of_lt_of_le (Heap.lt_size e) I.ok.above))).trans (I.base.keep b o e n hb hx)
  ·obtain ⟨sl,e1⟩:=I.base.slot b o e n hb hx
   exact ⟨sl,(hs.2 b (Nat.ne_of_lt (Nat.lt_of_lt_of_le (Heap.lt_size e) I.ok.above))).trans e1⟩
  ·obtain ⟨o',e1⟩:=I.base.there b o e hx
   exact ⟨o',(hs.2 b (Nat.ne_of_lt (Nat.lt_of_lt_of_le (Heap.lt_size e) I.ok.above))).trans e1⟩
  ·by_cases hj:j=i
   ·subst hj
    rw [hi] at e1;cases e1
    rw [List.getElem?_set_self hiσ] at e2
    cases e2
    exact ⟨u,r,.inl ⟨hk,by simp⟩⟩
   ·rw [List.getElem?_set_ne (Ne.symm hj)] at e2
    obtain ⟨u',r',q⟩:=hl j y v' e1 e2 e3
    refine ⟨u',r',?_⟩
    rcases q with ⟨k,e⟩ | ⟨k,c,e,z⟩
    ·refine .inl ⟨k,?_⟩
     have:y≠x:=fun e=>hj (XaE hN e1 (e ▸ hi))
     simp [this,e]
    ·exact .inr ⟨k,c,e,z.sameBut hs (cne y c e)⟩
  ·obtain ⟨w',z⟩:=I.cell y c e
   exact ⟨w',z.sameBut hs (cne y c e)⟩
  ·obtain ⟨e,n,ne,nf,d⟩:=I.pin p hp
   exact ⟨(hs.2 p.1 ne).trans e,n,ne,nf,d⟩
 ·have hfn:X.fn x=true:=by
   rcases hf with z | z
   ·exact z
   ·rw [z] at hk;cases hk
  obtain ⟨c,hc⟩:=I.ok.has x (.inl hk)
  obtain ⟨w',z⟩:=I.cell x c hc
  refine wpAny_storeName_cell I.ok.kind hk hc z (fun h' hc' hs=>?_)
  obtain ⟨oc,hoc,hocd⟩:=id z
  refine h { s with heap:=h' } ⟨I.ok,I.os,I.bare,⟨fun b o e n hb hx=>?_,fun b o e n hb hx=>?_,I.base.free,fun b o e hx=>?_,I.base.tups,I.base.frzs,I.base.tbls⟩,⟨m,hn.sameBut hs (Ne.symm (cne x c hc)),fun j y v' e1 e2 e3=>?_⟩,fun y c' e=>?_,I.free,I.freeC,fun p hp=>?_,tracked ⟨oc,hoc,I.freeC x c hc⟩ hs,by simpa using I.len⟩ ⟨c,hs,.inr hc⟩
  ·exact (hs.2 b (Nat.ne_of_lt (Nat.lt_of_lt_of_le (Heap.lt_size e) (I.ok.cab x c hfn hc)))).trans (I.base.keep b o e n hb hx)
  ·obtain ⟨sl,e1⟩:=I.base.slot b o e n hb hx
   exact ⟨sl,(hs.2 b (Nat.ne_of_lt (Nat.lt_of_lt_of_le (Heap.lt_size e) (I.ok.cab x c hfn hc)))).trans e1⟩
  ·obtain ⟨o',e1⟩:=I.base.there b o e hx
   exact ⟨o',(hs.2 b (Nat.ne_of_lt (Nat.lt_of_lt_of_le (Heap.lt_size e) (I.ok.cab x c hfn hc)))).trans e1⟩
  ·by_cases hj:j=i
   ·subst hj
    rw [hi] at e1;cases e1
    rw [List.getElem?_set_self hiσ] at e2
    cases e2
    exact ⟨u,r,.inr ⟨.inl hk,c,hc,hc'⟩⟩
   ·rw [List.getElem?_set_ne (Ne.symm hj)] at e2
    obtain ⟨u',r',q⟩:=hl j y v' e1 e2 e3
    refine ⟨u',r',?_⟩
    rcases q with q | ⟨k,c',e,z'⟩
    ·exact .inl q
    ·refine .inr ⟨k,c',e,z'.sameBut hs ?_⟩
     rintro rfl
     exact hj (XaE hN e1 (I.ok.inj _ _ _ e hc ▸ hi))
  ·by_cases hcc:c'=c
   ·subst hcc;exact ⟨_,hc'⟩
   ·obtain ⟨w2,z2⟩:=I.cell y c' e
    exact ⟨w2,z2.sameBut hs hcc⟩
  ·obtain ⟨e,n,ne,nf,d⟩:=I.pin p hp
   refine ⟨(hs.2 p.1 ?_).trans e,n,ne,nf,d⟩
   intro q
   rw [q,hoc] at e
   have q':oc=p.2:=Option.some.inj e
   exact d w' (by rw [← q'];exact hocd)
theorem zax {M:Model} {A:Around} {E:Value→Shared→Prop} {i:Nat} {x:Str} {v:V} {u:Value} {Q:Unit→Shared→Prop} (I:Inv X pins σ H s) (hN:X.N.Nodup) (hi:X.N[i]?=some x) (hx:Loc X.env.scope x) (r:RelV v u)
  (h:∀ s',Inv X pins (σ.set i (some v)) H s'→Q () s') (hf:X.fn x=true∨X.env.scope.names.lookup x=some .local:=by first | exact .inl rfl | exact .inr rfl | assumption):wpAny M A (storeName X.env x u) Q E s :=
 xaI I hN hi hx r (fun s' I' _=>h s' I') hf
theorem Inv.call' {s':Shared} {ch:List Addr} (I:Inv X pins σ H s) (ho:s'.os=s.os) (u:Un (frs X.stack) ch H H' s.heap s'.heap) (hok:HOk X.prog X.w H' s'.heap) (hg:AllBare s'.gens)
  (hch:∀ b∈ch,(b∈X.ex∨X.s₀.heap.objs.size≤b)∧b≠X.env.locals∧(∀ x c,X.env.cells.lookup x=some c→c≠b)∧∀ p∈X.pn ++ pins,p.1≠b):Inv X pins σ H' s':=by
 obtain ⟨h',g',d',t',o'⟩:=s'
 have e:o'=s.os:=ho
 subst e
 exact I.call (g':=g') (t':=t') (d':=d') u hok hg hch
end
abbrev XK:=Value→Option Addr→Hp→Prop
abbrev St:=List (Option V)
abbrev VK:=V→Hp→Prop
abbrev TE:=St→Hp→VK→Prop
abbrev TT:=St→Hp→(Bool→Hp→Prop)→Prop
abbrev TA:=St→Hp→(List V→Hp→Prop)→Prop
set_option genInjectivity false in
structure Ends where
 nx:St→Hp→Prop
 rt:VK
 bk:St→Hp→Prop:=fun _ _=>False
 ct:St→Hp→Prop:=fun _ _=>False
abbrev TS:=Ends→St→Hp→Prop
noncomputable def EP (X:Cx) (pins:List (Addr×Obj)) (σ:St) (Q:VK) (u:Value) (s':Shared):Prop:=∃ v H',Inv X pins σ H' s'∧RelV v u∧Q v H'
noncomputable def TP (X:Cx) (pins:List (Addr×Obj)) (σ:St) (Q:Bool→Hp→Prop) (b:Bool) (s':Shared):Prop:=∃ H',Inv X pins σ H' s'∧Q b H'
noncomputable def AP (X:Cx) (pins:List (Addr×Obj)) (σ:St) (Q:List V→Hp→Prop) (us:List Value) (s':Shared):Prop:=∃ vs H',Inv X pins σ H' s'∧Vals vs us∧Q vs H'
noncomputable def SP (X:Cx) (pins:List (Addr×Obj)) (D:Ends) (f:Flow) (s':Shared):Prop :=
 match f with
 | .next=>∃ σ' H',Inv X pins σ' H' s'∧D.nx σ' H'
 | .brk=>∃ σ' H',Inv X pins σ' H' s'∧D.bk σ' H'
 | .cont=>∃ σ' H',Inv X pins σ' H' s'∧D.ct σ' H'
 | .ret u=>∃ v σ' H',Inv X pins σ' H' s'∧RelV v u∧D.rt v H'
noncomputable def PE (X:Cx) (e:Expr) (t:TE):Prop :=
 ∀ (pins:List (Addr×Obj)) (s:Shared) (σ:St) (H:Hp) (Q:VK),Inv X pins σ H s→t σ H Q→wpAny (model X.prog X.w) X.A (eval e X.env) (EP X pins σ Q) X.xe s
noncomputable def PT (X:Cx) (e:Expr) (t:TT):Prop :=
 ∀ (pins:List (Addr×Obj)) (s:Shared) (σ:St) (H:Hp) (Q:Bool→Hp→Prop),Inv X pins σ H s→t σ H Q→wpAny (model X.prog X.w) X.A (isTrue e X.env (eval e X.env)) (TP X pins σ Q) X.xe s
noncomputable def PW (X:Cx) (e:Expr) (t:TT):Prop :=
 ∀ (whole:Sem Value) (pins:List (Addr×Obj)) (s:Shared) (σ:St) (H:Hp) (Q:Bool→Hp→Prop),Inv X pins σ H s→t σ H Q→wpAny (model X.prog X.w) X.A (isTrue e X.env whole) (TP X pins σ Q) X.xe s
theorem PW.pt {X:Cx} {e:Expr} {t:TT} (h:PW X e t):PT X e t:=h _
noncomputable def PA (X:Cx) (es:List Expr) (t:TA):Prop :=
 ∀ (pos:Pos) (pins:List (Addr×Obj)) (s:Shared) (σ:St) (H:Hp) (Q:List V→Hp→Prop),Inv X pins σ H s→t σ H Q→wpAny (model X.prog X.w) X.A (spliced (backTo pos (starEach es X.env))) (AP X pins σ Q) X.xe s
noncomputable def PS (X:Cx) (st:Stmt) (t:TS):Prop :=
 ∀ (pins:List (Addr×Obj)) (s:Shared) (σ:St) (H:Hp) (D:Ends),Inv X pins σ H s→t D σ H→wpAny (model X.prog X.w) X.A (exec st X.env) (SP X pins D) X.xe s
noncomputable def PSs (X:Cx) (st:List Stmt) (t:TS):Prop :=
 ∀ (pins:List (Addr×Obj)) (s:Shared) (σ:St) (H:Hp) (D:Ends),Inv X pins σ H s→t D σ H→wpAny (model X.prog X.w) X.A (execs st X.env) (SP X pins D) X.xe s
theorem thn {α:Type} {t:Sem α} {Q Q':α→Shared→Prop} {M:Model} {A:Around} {E:Value→Shared→Prop} {s:Shared} (h:wpAny M A t Q E s) (hQ:∀ a s,Q a s→Q' a s):wpAny M A t Q' E s:=wpAny_mono h hQ fun _ _ x=>x
end L2
namespace L2
open PySem PySem.Spec PyProof.Rows
section
variable {X:Cx}
theorem bin {a b:Expr} {ta tb:TE} (ha:PE X a ta) (hb:PE X b tb) {pins:List (Addr×Obj)} {s:Shared} {σ:St} {H:Hp} {R:V→V→Hp→Prop} (I:Inv X pins σ H s) (h:ta σ H fun x H1=>tb σ H1 fun y H2=>R x y H2)
  {α:Type} {Q:α→Shared→Prop} {f:Value→Value→Sem α}
  (hf:∀ v u s2 x y H2,Inv X pins σ H2 s2→RelV x v→RelV y u→R x y H2→wpAny (model X.prog X.w) X.A (f v u) Q X.xe s2) :
  wpAny (model X.prog X.w) X.A (eval a X.env) (fun v s₁=>wpAny (model X.prog X.w) X.A (eval b X.env) (fun u s₂=>wpAny (model X.prog X.w) X.A (f v u) Q X.xe s₂) X.xe s₁) X.xe s:=by
 refine thn (ha pins s σ H _ I h) fun v s1 ⟨x,H1,I1,r1,q1⟩=>?_
 refine thn (hb pins s1 σ H1 _ I1 q1) fun u s2 ⟨y,H2,I2,r2,q2⟩=>?_
 exact hf v u s2 x y H2 I2 r1 r2 q2
noncomputable def tVar (i:Nat):TE:=fun σ H Q=>∃ v,σ[i]?=some (some v)∧Q v H
noncomputable def tC (v:V):TE:=fun _ H Q=>Q v H
theorem pe_var {i:Nat} {x:Str} {pos:Pos} (hN:X.N[i]?=some x) (hv:Vis X.env.scope x) (hd:(x == ("__debug__" : Str))=false:=by decide) (hcd:(x == ("__classdict__" : Str))=false:=by decide):PE X (.Name x pos) (tVar i):=by
 intro pins s σ H Q I h
 obtain ⟨v,e,h⟩:=h
 obtain ⟨m,hn,hl⟩:=I.loc
 obtain ⟨u,r,l⟩:=hl i x v hN e hv
 have fin:EP X pins σ Q u s:=⟨v,H,I,r,h⟩
 rcases l with ⟨hk,hm⟩ | ⟨hk,c,hc,hcell⟩
 ·exact wpAny_Name (wpAny_loadName_local I.ok.kind hk hn hm fin) hd
 ·rcases hk with hk | hk
  ·exact wpAny_Name (wpAny_loadName_cell I.ok.kind hk hc hcell fin) hd
  ·exact wpAny_Name (wpAny_loadName_free I.ok.kind hk hc hcell fin hcd) hd
theorem xaa {i j pos}:PE X (.Constant (.int i) j pos) (tC (.int i)):=fun _ _ _ H _ I h=>wpAny_Constant_int ⟨.int i,H,I.tok _,⟨_,rfl⟩,h⟩
theorem zaF {b j pos}:PE X (.Constant (.bool b) j pos) (tC (.bl b)):=fun _ _ _ H _ I h=>Constant_bool ⟨.bl b,H,I,rfl,h⟩
theorem pe_non {j pos}:PE X (.Constant .none j pos) (tC .non):=fun _ _ _ H _ I h=>Constant_none ⟨.non,H,I,rfl,h⟩
theorem Zao {x j pos}:PE X (.Constant (.str x) j pos) (tC (.str x)):=fun _ _ _ H _ I h=>Calls.Constant_str ⟨.str x,H,I.tok _,⟨_,rfl⟩,h⟩
noncomputable def Gl (X:Cx) (x:Str):Prop:=X.env.kindOf x=some .globalImplicit
theorem zaA {E:Value→Shared→Prop} {pins:List (Addr×Obj)} {s:Shared} {σ:St} {H:Hp} {x:Str} {u:Value} {pos:Pos} {Q:Value→Shared→Prop} (I:Inv X pins σ H s) (hg:Gl X x) (hm:X.mg x=some u) (h:Q u s)
  (hd:(x == ("__debug__" : Str))=false:=by decide):wpAny (model X.prog X.w) X.A (eval (.Name x pos) X.env) Q E s :=
 Calls.Name_function_global I.ok.kind hg (Calls.loadGlobal_global (by rw [I.ok.glob];exact I.mod.glob.keeps I.bk) hm h) hd
theorem zaP {E:Value→Shared→Prop} {pins:List (Addr×Obj)} {s:Shared} {σ:St} {H:Hp} {x:Str} {u:Value} {pos:Pos} {Q:Value→Shared→Prop} (I:Inv X pins σ H s) (hg:Gl X x) (hm:X.mg x=none) (hv:bootBuiltins x=some u) (h:Q u s)
  (hn:x≠"__name__" := by decide) (hd:(x == ("__debug__" : Str))=false:=by decide):wpAny (model X.prog X.w) X.A (eval (.Name x pos) X.env) Q E s:=by
 obtain ⟨mb,h1,h2⟩:=I.mod.blt
 exact Calls.Name_function_global I.ok.kind hg (Calls.loadGlobal_builtin (by rw [I.ok.glob];exact I.mod.glob.keeps I.bk) hm (by rw [I.ok.blt];exact h1.keeps I.bk) ((h2 x hn).trans hv) h) hd
theorem yaW {x:Str} {v:V} {u:Value} {pos:Pos} (hg:Gl X x) (hm:X.mg x=some u) (r:RelV v u) (hd:(x == ("__debug__" : Str))=false:=by decide):PE X (.Name x pos) (tC v) :=
 fun _ _ _ H _ I h=>zaA I hg hm ⟨v,H,I,r,h⟩ hd
theorem yaF {x:Str} {v:V} {u:Value} {pos:Pos} (hg:Gl X x) (hm:X.mg x=none) (hv:bootBuiltins x=some u) (r:RelV v u) (hn:x≠"__name__" := by decide) (hd:(x == ("__debug__" : Str))=false:=by decide):PE X (.Name x pos) (tC v) :=
 fun _ _ _ H _ I h=>zaP I hg hm hv ⟨v,H,I,r,h⟩ hn hd
variable {a b:Expr} {ta tb:TE} {pos:Pos}
noncomputable def PC (X:Cx) (op:CmpOp) (a b:Expr) (t:TE):Prop :=
 ∀ (pins:List (Addr×Obj)) (s:Shared) (σ:St) (H:Hp) (Q:VK),Inv X pins σ H s→t σ H Q →
  wpAny (model X.prog X.w) X.A (eval a X.env) (fun v s₁=>wpAny (model X.prog X.w) X.A (eval b X.env) (fun u s₂=>wpAny (model X.prog X.w) X.A (compareOp op v u) (EP X pins σ Q) X.xe s₂) X.xe s₁) X.xe s
theorem nobehind (b:Expr) {op:CmpOp} (h:op≠.In) (h2:op≠.NotIn):behindInMarks op b=false:=by
 have e1:(op == CmpOp.In)=false:=by cases op <;> first | rfl | exact absurd rfl h
 have e2:(op == CmpOp.NotIn)=false:=by cases op <;> first | rfl | exact absurd rfl h2
 cases b <;> simp [behindInMarks,e1,e2]
noncomputable def tB (t:TE):TT:=fun σ H Q=>t σ H fun x H1=>∃ c,x=.bl c∧Q c H1
theorem pt_cmp {op:CmpOp} {t:TE} (h:PC X op a b t) (h1:behindInMarks op b=false:=by first | exact nobehind _ (by decide) (by decide) | rfl):PT X (.Compare a [op] [b] pos) (tB t):=by
 intro pins s σ H Q I hw
 refine wpAny_isTrue_Compare1 (thn (h pins s σ H _ I hw) fun v s1 h1=>thn h1 fun u s2 h2=>thn h2 fun c s3 ⟨x,H1,I1,r1,q1⟩=>?_) h1
 obtain ⟨d,rfl,q⟩:=q1
 cases r1
 exact wpAny_truthy_bool ⟨H1,I1,q⟩
theorem yaA {e:Expr} {t:TE} (h:PE X e t) (he:∀ whole,isTrue e X.env whole=(do let v ← whole;standAt e.pos;holding [v] (truthy v)):=by intro _;rfl):PT X e (tB t):=by
 intro pins s σ H Q I hw
 refine isTrue_plain (thn (h pins s σ H _ I hw) fun v s1 ⟨x,H1,I1,r1,q1⟩=>?_) (he _)
 obtain ⟨d,rfl,q⟩:=q1
 cases r1
 exact wpAny_truthy_bool ⟨H1,I1,q⟩
variable {tA tB':TT} {rest:List Expr}
noncomputable def tAnd (t u:TT):TT:=fun σ H Q=>t σ H fun c H1=>if c=true then u σ H1 Q else Q false H1
noncomputable def tOr (t u:TT):TT:=fun σ H Q=>t σ H fun c H1=>if c=true then Q true H1 else u σ H1 Q
noncomputable def tNot (t:TT):TT:=fun σ H Q=>t σ H fun c H1=>Q (!c) H1
theorem ZaW (ha:PT X a tA):PW X (.BoolOp .And [a] pos) tA:=by
 intro wh pins s σ H Q I h
 refine isTrue_and (thn (ha pins s σ H Q I h) fun c s1 e=>?_)
 cases c with
 | true=>exact isTrue_and_nil e
 | false=>exact e
theorem ZaA (ha:PT X a tA):PW X (.BoolOp .Or [a] pos) tA:=by
 intro wh pins s σ H Q I h
 refine isTrue_or (thn (ha pins s σ H Q I h) fun c s1 e=>?_)
 cases c with
 | false=>exact isTrue_or_nil e
 | true=>exact e
theorem Ybe (ha:PT X a tA) (hb:PW X (.BoolOp .And (b :: rest) pos) tB'):PW X (.BoolOp .And (a :: b :: rest) pos) (tAnd tA tB'):=by
 intro wh pins s σ H Q I h
 refine isTrue_and (thn (ha pins s σ H _ I h) fun c s1 ⟨H1,I1,q1⟩=>?_)
 cases c with
 | true=>exact hb wh pins s1 σ H1 Q I1 q1
 | false=>exact ⟨H1,I1,q1⟩
theorem yay (ha:PT X a tA) (hb:PW X (.BoolOp .Or (b :: rest) pos) tB'):PW X (.BoolOp .Or (a :: b :: rest) pos) (tOr tA tB'):=by
 intro wh pins s σ H Q I h
 refine isTrue_or (thn (ha pins s σ H _ I h) fun c s1 ⟨H1,I1,q1⟩=>?_)
 cases c with
 | true=>exact ⟨H1,I1,q1⟩
 | false=>exact hb wh pins s1 σ H1 Q I1 q1
theorem yaP (ha:PT X a tA):PT X (.UnaryOp .Not a pos) (tNot tA):=by
 intro pins s σ H Q I h
 exact isTrue_not (ha pins s σ H (fun c H1=>Q (!c) H1) I h)
noncomputable def tAndV (ta tb:TE):TE:=fun σ H Q=>ta σ H fun x H1=>∃ c,x=.bl c∧if c=true then tb σ H1 Q else Q (.bl false) H1
theorem pe_one {op} {t:TE} (h:PE X a t):PE X (.BoolOp op [a] pos) t:=fun pins s σ H Q I hw=>BoolOp_one (h pins s σ H Q I hw)
theorem xbe (ha:PE X a ta) (hb:PE X (.BoolOp .And (b :: rest) pos) tb):PE X (.BoolOp .And (a :: b :: rest) pos) (tAndV ta tb):=by
 intro pins s σ H Q I h
 refine BoolOp_and (thn (ha pins s σ H _ I h) fun v s1 ⟨x,H1,I1,r1,q1⟩=>?_)
 obtain ⟨c,rfl,q1⟩:=q1
 cases r1
 refine wpAny_truthy_bool ?_
 cases c with
 | true=>exact hb pins s1 σ H1 Q I1 q1
 | false=>exact ⟨.bl false,H1,I1,rfl,q1⟩
noncomputable def tIf (t:TT) (ta tb:TE):TE:=fun σ H Q=>t σ H fun c H1=>if c=true then ta σ H1 Q else tb σ H1 Q
theorem za8 {c:Expr} (hc:PT X c tA) (ha:PE X a ta) (hb:PE X b tb):PE X (.IfExp c a b pos) (tIf tA ta tb):=by
 intro pins s σ H Q I h
 refine wpAny_IfExp (thn (hc pins s σ H _ I h) fun d s1 ⟨H1,I1,q1⟩=>?_)
 cases d with
 | true=>exact ha pins s1 σ H1 Q I1 q1
 | false=>exact hb pins s1 σ H1 Q I1 q1
end
end L2
namespace L2
open PySem PySem.Spec PyProof.Rows
noncomputable def SqL (K:PySem.W.Frag) (H:Hp) (a:Addr) (xs:List V):Prop :=
 Rd H a (.lst xs) ∨
  ∃ (o:Obj) (its:Array Value) (n:Nat),K.lookup a=some o∧o.cls=.type "list" ∧ o.dict=none∧o.data=.seq its n∧its.size≤sizeLine∧Vals xs its.toList
noncomputable def SqT (K:PySem.W.Frag) (H:Hp) (a:Addr) (xs:List V):Prop :=
 Rd H a (.tup xs) ∨
  ∃ (o:Obj) (its:Array Value) (n:Nat),K.lookup a=some o∧o.cls=.type "tuple" ∧ o.dict=none∧o.data=.seq its n∧its.size≤sizeLine∧Vals xs its.toList
noncomputable def absV:Value→Option V
 | .none=>some .non
 | .bool b=>some (.bl b)
 | .int i _=>some (.int i)
 | .str x _=>some (.str x)
 | .bytes b _=>some (.byt b)
 | .float b _=>some (.flt b)
 | .ref a=>some (.ref a)
 | .type n=>some (.ty n)
 | _=>none
theorem RelV.abs {x:V} {u:Value} (r:RelV x u):absV u=some x:=by
 cases x with
 | non=>cases r;rfl
 | bl _=>cases r;rfl
 | int _=>obtain ⟨t,rfl⟩:=r;rfl
 | str _=>obtain ⟨t,rfl⟩:=r;rfl
 | byt _=>obtain ⟨t,rfl⟩:=r;rfl
 | flt _=>obtain ⟨t,rfl⟩:=r;rfl
 | ref _=>cases r;rfl
 | ty _=>cases r;rfl
theorem RelV.inj {x y:V} {u:Value} (r:RelV x u) (q:RelV y u):x=y:=Option.some.inj (r.abs.symm.trans q.abs)
theorem Vals.inj:∀ {xs ys:List V} {us:List Value},Vals xs us→Vals ys us→xs=ys
 | _,_,_,.nil,.nil=>rfl
 | _,_,_,.cons r t,.cons r' t'=>by rw [r.inj r',Vals.inj t t']
section
variable {X:Cx} {pins:List (Addr×Obj)} {σ:St} {H:Hp} {s:Shared} {a:Addr} {xs ys:List V}
theorem SqT.of {K:PySem.W.Frag} (h:H a=some (.tup xs)):SqT K H a xs:=.inl (.inl h)
theorem Inv.list (I:Inv X pins σ H s) (h:SqL X.K H a xs):∃ its:List Value,Vals xs its∧PlainL s.heap a its.toArray∧xs.length≤sizeLine:=by
 rcases h with h | ⟨o,its,n,hk,hc,hd,hs,hz,r⟩
 ·obtain ⟨z,its,n,r,e⟩:=h.ok I.hok
  exact ⟨its,r,⟨_,n,e,rfl,rfl,rfl⟩,z⟩
 ·refine ⟨its.toList,r,⟨o,n,I.kIn a o hk,hc,hd,by simpa using hs⟩,?_⟩
  have e:=r.length
  simp only [Array.length_toList] at e
  omega
theorem Inv.tupleP (I:Inv X pins σ H s) (h:SqT X.K H a xs):∃ its:List Value,Vals xs its∧PTup s.heap a its.toArray∧xs.length≤sizeLine:=by
 rcases h with h | ⟨o,its,n,hk,hc,hd0,hs,hz,r⟩
 ·obtain ⟨z,its,r,p⟩:=h.ok I.hok
  exact ⟨its,r,p,z⟩
 ·refine ⟨its.toList,r,⟨o,I.kIn a o hk,hc,hd0,n,by simpa using hs⟩,?_⟩
  have e:=r.length
  simp only [Array.length_toList] at e
  omega
theorem Inv.tuple (I:Inv X pins σ H s) (h:SqT X.K H a xs):∃ its:List Value,Vals xs its∧IsTup s.heap a its.toArray∧xs.length≤sizeLine :=
 let ⟨its,r,p,z⟩:=I.tupleP h
 ⟨its,r,p.tup,z⟩
theorem Inv.list_inj (I:Inv X pins σ H s) (h:SqL X.K H a xs) (h':SqL X.K H a ys):xs=ys:=by
 obtain ⟨its,r,⟨o,n,e,_,_,d⟩,_⟩:=I.list h
 obtain ⟨its',r',⟨o',n',e',_,_,d'⟩,_⟩:=I.list h'
 rw [e] at e';cases e'
 rw [d] at d'
 injection d' with d1 _
 have:its=its':=by simpa using congrArg Array.toList d1
 subst this
 exact r.inj r'
theorem Inv.tuple_inj (I:Inv X pins σ H s) (h:SqT X.K H a xs) (h':SqT X.K H a ys):xs=ys:=by
 obtain ⟨its,r,⟨o,e,_,n,d⟩,_⟩:=I.tuple h
 obtain ⟨its',r',⟨o',e',_,n',d'⟩,_⟩:=I.tuple h'
 rw [e] at e';cases e'
 rw [d] at d'
 injection d' with d1 _
 have:its=its':=by simpa using congrArg Array.toList d1
 subst this
 exact r.inj r'
end
abbrev Cx.wish (X:Cx) (E:Value→Shared→Prop):Cx:={ X with xe:=E }
abbrev Cx.nox (X:Cx):Cx:=X.wish fun _ _=>False
theorem Cx.Ok.wish {X:Cx} (ok:X.Ok) (E:Value→Shared→Prop):(X.wish E).Ok :=
 ⟨ok.mod,ok.kind,ok.glob,ok.blt,ok.above,ok.inj,ok.has,ok.cab,ok.hd,ok.frames,ok.stk,ok.exf,ok.bs,ok.bsz,ok.noex,ok.exfs,ok.funs,ok.frf⟩
theorem Cx.Ok.unwish {X:Cx} {E:Value→Shared→Prop} (ok:(X.wish E).Ok):X.Ok :=
 ⟨ok.mod,ok.kind,ok.glob,ok.blt,ok.above,ok.inj,ok.has,ok.cab,ok.hd,ok.frames,ok.stk,ok.exf,ok.bs,ok.bsz,ok.noex,ok.exfs,ok.funs,ok.frf⟩
section
variable {X:Cx} {pins:List (Addr×Obj)} {σ:St} {H:Hp} {s:Shared} {E:Value→Shared→Prop}
theorem Inv.wish (I:Inv X pins σ H s) (E:Value→Shared→Prop):Inv (X.wish E) pins σ H s:=⟨I.ok.wish E,I.os,I.bare,I.base,I.loc,I.cell,I.free,I.freeC,I.pin,I.hok,I.len⟩
theorem Inv.unwish (I:Inv (X.wish E) pins σ H s):Inv X pins σ H s:=⟨I.ok.unwish,I.os,I.bare,I.base,I.loc,I.cell,I.free,I.freeC,I.pin,I.hok,I.len⟩
theorem SP.unwish {D:Ends} {f:Flow} {s':Shared} (h:SP (X.wish E) pins D f s'):SP X pins D f s':=by
 cases f with
 | next=>obtain ⟨σ',H',I,q⟩:=h;exact ⟨σ',H',I.unwish,q⟩
 | brk=>obtain ⟨σ',H',I,q⟩:=h;exact ⟨σ',H',I.unwish,q⟩
 | cont=>obtain ⟨σ',H',I,q⟩:=h;exact ⟨σ',H',I.unwish,q⟩
 | ret u=>obtain ⟨v,σ',H',I,r,q⟩:=h;exact ⟨v,σ',H',I.unwish,r,q⟩
theorem PSs.nox {st:List Stmt} {t:TS} (h:PSs X.nox st t):PSs X st t:=fun pins s σ H D I hw =>
 wpAny_mono (h pins s σ H D (I.wish _) hw) (fun _ _ q=>q.unwish) fun _ _ z=>False.elim z
end
section
variable {X:Cx} {st:Stmt} {rest:List Stmt} {t u:TS} {e:Expr} {te:TE} {pos:Pos}
noncomputable def tNext:TS:=fun D σ H=>D.nx σ H
noncomputable def tSeq (t u:TS):TS:=fun D σ H=>t { D with nx:=u D } σ H
theorem yaj:PSs X [] tNext:=fun _ _ σ H _ I h=>wpAny_execs_nil ⟨σ,H,I,h⟩
theorem yab (h1:PS X st t) (h2:PSs X rest u):PSs X (st :: rest) (tSeq t u):=by
 intro pins s σ H D I h
 refine wpAny_execs_cons (thn (h1 pins s σ H { D with nx:=u D } I h) fun f s1 q=>?_)
 cases f with
 | next =>
  obtain ⟨σ',H',I',q⟩:=q
  exact h2 pins s1 σ' H' D I' q
 | ret v=>exact q
 | brk=>exact q
 | cont=>exact q
theorem Xac (h1:PS X st t):PSs X [st] t:=by
 intro pins s σ H D I h
 refine wpAny_execs_cons (thn (h1 pins s σ H D I h) fun f s1 q=>?_)
 cases f with
 | next=>exact wpAny_execs_nil q
 | ret v=>exact q
 | brk=>exact q
 | cont=>exact q
theorem Inv.quiet {pins:List (Addr×Obj)} {σ:St} {H:Hp} {s:Shared} (I:Inv X pins σ H s):interactive X.env=false:=by simp [interactive,I.ok.kind]
noncomputable def tDrop (te:TE):TS:=fun D σ H=>te σ H fun _ H1=>D.nx σ H1
theorem YaW (he:PE X e te) (hs:swapsWith e none pos.line X.env=pure false:=by rfl):PS X (.Expr e pos) (tDrop te):=by
 intro pins s σ H D I h
 exact wpAny_Expr_any (thn (he pins s σ H _ I h) fun v s1 ⟨x,H1,I1,r1,q1⟩=>⟨σ,H1,I1,q1⟩) I.quiet hs
noncomputable def tRet (te:TE):TS:=fun D σ H=>te σ H D.rt
theorem xag (he:PE X e te):PS X (.Return (some e) pos) (tRet te):=by
 intro pins s σ H D I h
 exact wpAny_Return_some (thn (he pins s σ H _ I h) fun v s1 ⟨x,H1,I1,r1,q1⟩=>⟨x,σ,H1,I1,r1,q1⟩)
noncomputable def tIfS (c:TT) (t u:TS):TS:=fun D σ H=>c σ H fun b H1=>if b=true then t D σ H1 else u D σ H1
theorem xat {c:Expr} {a b:List Stmt} {tc:TT} (hc:PT X c tc) (ha:PSs X a t) (hb:PSs X b u):PS X (.If c a b pos) (tIfS tc t u):=by
 intro pins s σ H D I h
 refine wpAny_If (thn (hc pins s σ H _ I h) fun d s1 ⟨H1,I1,q1⟩=>?_)
 cases d with
 | true=>exact ha pins s1 σ H1 D I1 q1
 | false=>exact hb pins s1 σ H1 D I1 q1
end
abbrev TG:=V→St→Hp→(St→Hp→Prop)→Prop
abbrev TGs:=List V→St→Hp→(St→Hp→Prop)→Prop
noncomputable def PG (X:Cx) (target:Expr) (t:TG):Prop :=
 ∀ (pins:List (Addr×Obj)) (s:Shared) (σ:St) (H:Hp) (v:V) (u:Value) (Q:St→Hp→Prop),Inv X pins σ H s→RelV v u→t v σ H Q →
  wpAny (model X.prog X.w) X.A (assign target X.env u) (fun _ s'=>∃ σ' H',Inv X pins σ' H' s'∧Q σ' H') X.xe s
noncomputable def PGs (X:Cx) (ts:List Expr) (t:TGs):Prop :=
 ∀ (pins:List (Addr×Obj)) (s:Shared) (σ:St) (H:Hp) (vs:List V) (us:List Value) (Q:St→Hp→Prop),Inv X pins σ H s→Vals vs us→t vs σ H Q →
  wpAny (model X.prog X.w) X.A (assignInOrder ((assignEach ts X.env).map (·.2)) us) (fun _ s'=>∃ σ' H',Inv X pins σ' H' s'∧Q σ' H') X.xe s
abbrev TSet:=V→V→V→Hp→(Hp→Prop)→Prop
noncomputable def PSet (X:Cx) (t:TSet):Prop :=
 ∀ (pins:List (Addr×Obj)) (s:Shared) (σ:St) (H:Hp) (o i v:V) (ov iv u:Value) (Q:Hp→Prop),Inv X pins σ H s→RelV o ov→RelV i iv→RelV v u→t o i v H Q →
  wpAny (model X.prog X.w) X.A (setItem ov iv u) (fun _ s'=>∃ H',Inv X pins σ H' s'∧Q H') X.xe s
section
variable {X:Cx} {pos:Pos}
noncomputable def gName (i:Nat):TG:=fun v σ H Q=>Q (σ.set i (some v)) H
theorem Xap {i:Nat} {x:Str} (hN:X.N.Nodup) (hi:X.N[i]?=some x) (hx:Loc X.env.scope x) (hf:X.fn x=true∨X.env.scope.names.lookup x=some .local:=by first | exact .inl rfl | exact .inr rfl | assumption):PG X (.Name x pos) (gName i):=by
 intro pins s σ H v u Q I r h
 exact wpAny_assign_Name (zax I hN hi hx r (fun s' I'=>⟨_,H,I',h⟩) hf)
noncomputable def gNil:TGs:=fun vs σ H Q=>vs=[]∧Q σ H
noncomputable def gCons (t:TG) (u:TGs):TGs:=fun vs σ H Q=>∃ v r,vs=v :: r∧t v σ H fun σ' H'=>u r σ' H' Q
theorem xaW:PGs X [] gNil:=by
 intro pins s σ H vs us Q I r h
 obtain ⟨e,h⟩:=h
 subst e
 cases r
 exact assignInOrder_nil ⟨σ,H,I,h⟩
theorem Yav {e:Expr} {es:List Expr} {t:TG} {u:TGs} (h1:PG X e t) (h2:PGs X es u)
  (hs:(assignEach (e :: es) X.env).map (·.2)=assign e X.env :: (assignEach es X.env).map (·.2):=by rfl):PGs X (e :: es) (gCons t u):=by
 intro pins s σ H vs us Q I r h
 obtain ⟨v,vr,e1,h⟩:=h
 subst e1
 cases r with
 | cons r rr =>
  rw [hs]
  refine assignInOrder_cons (thn (h1 pins s σ H _ _ _ I r h) fun _ s1 ⟨σ1,H1,I1,q1⟩=>?_)
  exact h2 pins s1 σ1 H1 _ _ Q I1 rr q1
noncomputable def gTup (K:PySem.W.Frag) (n:Nat) (t:TGs):TG:=fun v σ H Q=>∃ a xs,v=.ref a∧SqT K H a xs∧xs.length=n∧t xs σ H Q
theorem Xbe {es:List Expr} {k:Nat} {t:TGs} {n:Nat} (hc:X.calm=true) (h:PGs X es t)
  (hn:(assignEach es X.env).length=n:=by rfl) (hst:(assignEach es X.env).findIdx? (·.1)=none:=by rfl):PG X (.Tuple es k pos) (gTup X.K n t):=by
 intro pins s σ H v u Q I r hw
 obtain ⟨a,xs,e1,hq,hl,hw⟩:=hw
 subst e1
 cases r
 obtain ⟨its,rv,ht,hz⟩:=I.tuple hq
 refine assign_Tuple_tuple (I.ok.hd hc) ht (by simp [hn,← hl,rv.length]) hst fun h' hx=>?_
 have I1:Inv X pins σ H { s with heap:=h' }:=I.kept (t':=s.toks) fun b o e=>hx b o (Nat.ne_of_lt (Heap.lt_size e)) e
 exact h pins _ σ H xs _ Q I1 (by simpa using rv) hw
noncomputable def gSub (to ti:TE) (t:TSet):TG:=fun v σ H Q=>to σ H fun o H1=>ti σ H1 fun i H2=>t o i v H2 fun H3=>Q σ H3
theorem zbf {o i:Expr} {to ti:TE} {t:TSet} (ho:PE X o to) (hi:PE X i ti) (hs:PSet X t)
  (ha:∀ v,assign (.Subscript o i pos) X.env v=(do
   let ov ← holding [v] (eval o X.env)
   let iv ← holding [v,ov] (eval i X.env)
   standAt pos
   holding [v,ov,iv] (setItem ov iv v)
   release [v,ov,iv] []):=by intro _;rfl):PG X (.Subscript o i pos) (gSub to ti t):=by
 intro pins s σ H v u Q I r h
 rw [ha]
 refine wpAny_bind (wpAny_holding (thn (ho pins s σ H _ I h) fun ov s1 ⟨x,H1,I1,r1,q1⟩=>?_))
 refine wpAny_bind (wpAny_holding (thn (hi pins s1 σ H1 _ I1 q1) fun iv s2 ⟨y,H2,I2,r2,q2⟩=>?_))
 refine wpAny_bind (wpAny_standAt (wpAny_bind (wpAny_holding (thn (hs pins s2 σ H2 x y v ov iv u _ I2 r1 r2 r q2) fun _ s3 ⟨H3,I3,q3⟩=>?_))))
 exact wpAny_release ⟨σ,H3,I3,q3⟩
noncomputable def tAsg (te:TE) (g:TG):TS:=fun D σ H=>te σ H fun x H1=>g x σ H1 D.nx
theorem ZaP {tg e:Expr} {te:TE} {g:TG} (he:PE X e te) (hg:PG X tg g) (hs:swapsWithSole [tg] e pos.line X.env=pure false:=by rfl) (hw:swappedStores [tg] e X.env=pure none:=by rfl)
  (h1:(assignEach [tg] X.env).map (·.2)=[assign tg X.env]:=by rfl):PS X (.Assign [tg] e pos) (tAsg te g):=by
 intro pins s σ H D I h
 refine wpAny_Assign_stores (thn (he pins s σ H _ I h) fun v s1 ⟨x,H1,I1,r1,q1⟩=>?_) hs hw
 rw [h1]
 exact thn (hg pins s1 σ H1 x v _ I1 r1 q1) fun _ s2 q=>q
theorem yaf {i:Nat} {x:Str} {e:Expr} {te:TE} {pos':Pos} (hN:X.N.Nodup) (hi:X.N[i]?=some x) (hx:Loc X.env.scope x) (he:PE X e te) (hs:swapsWith e (some (.Name x pos')) pos.line X.env=pure false:=by rfl) (hf:X.fn x=true∨X.env.scope.names.lookup x=some .local:=by first | exact .inl rfl | exact .inr rfl | assumption) :
  PS X (.Assign [.Name x pos'] e pos) (tAsg te (gName i)):=by
 intro pins s σ H D I h
 refine wpAny_Assign_Name (thn (he pins s σ H _ I h) fun v s1 ⟨y,H1,I1,r1,q1⟩=>?_) hs
 exact zax I1 hN hi hx r1 (fun s2 I2=>⟨_,H1,I2,q1⟩) hf
noncomputable def tPar (i j:Nat) (ta:TA):TS:=fun D σ H=>ta σ H fun vs H1=>∃ v w,vs=[v,w]∧D.nx ((σ.set i (some v)).set j (some w)) H1
theorem ybf {i j:Nat} {x y:Str} {a b:Expr} {ta:TA} {px py pt:Pos} {kt k2 pt2} (hc:X.calm=true) (hN:X.N.Nodup) (hi:X.N[i]?=some x) (hj:X.N[j]?=some y) (hij:i≠j)
  (hx:X.env.scope.names.lookup x=some .local) (hy:X.env.scope.names.lookup y=some .local) (ha:PA X [a,b] ta)
  (hw:swappedStores [.Tuple [.Name x px,.Name y py] kt pt] (.Tuple [a,b] k2 pt2) X.env=pure (some [x,y]))
  (hs:swapsWithSole [.Tuple [.Name x px,.Name y py] kt pt] (.Tuple [a,b] k2 pt2) pos.line X.env=pure false:=by rfl) :
  PS X (.Assign [.Tuple [.Name x px,.Name y py] kt pt] (.Tuple [a,b] k2 pt2) pos) (tPar i j ta):=by
 intro pins s σ H D I h
 rw [exec_Assign_arm]
 refine wpAny_bind (wpAny_standAt ?_)
 rw [hs]
 refine wpAny_bind (wpAny_pure ?_)
 rw [if_neg (by decide)]
 refine wpAny_bind (Tuple_ (thn (ha _ pins s σ H _ I h) fun us s1 ⟨vs,H1,I1,r1,q1⟩=>?_))
 obtain ⟨v,w,e1,q1⟩:=q1
 subst e1
 obtain ⟨u1,u2,rfl,rv,rw'⟩:∃ u1 u2,us=[u1,u2]∧RelV v u1∧RelV w u2:=by
  cases r1 with
  | cons p q =>
   cases q with
   | cons p' q' =>
    cases q'
    exact ⟨_,_,rfl,p,p'⟩
 refine wpAny_newObj_type ?_ (by show 2≤sizeLine;decide)
 have I2:Inv X pins σ H1 { s1 with heap:=s1.heap.push { cls:=.type "tuple",data:=.seq [u1,u2].toArray } }:=I1.kept (t':=s1.toks) fun b o e=>Heap.get?_push_of_some _ e
 rw [hw]
 refine wpAny_bind (wpAny_pure ?_)
 show wpAny (model X.prog X.w) X.A (do rule "assign.swapped-stores";let items ← unpackItems (.ref s1.heap.objs.size) 2 none;assignInOrder [fun v=>bindName X.env y v,fun v=>bindName X.env x v] items.reverse;pure Flow.next) _ _ _
 refine wpAny_bind (wpAny_rule (wpAny_bind (unpackItems_tuple (items:=#[u1,u2]) (I.ok.hd hc) (IsTup.new s1.heap _) fun h' hx'=>?_)))
 have I3:=I2.kept (h':=h') (t':=s1.toks) fun b o e=>hx' b o (Nat.ne_of_lt (Heap.lt_size e)) e
 show wpAny _ _ (assignInOrder [fun v=>bindName X.env y v,fun v=>bindName X.env x v] [u2,u1] >>= fun _=>pure Flow.next) _ _ _
 refine wpAny_bind (assignInOrder_cons (wpAny_bindName (zax I3 hN hj (.inl hy) rw' (fun s2 I4=>?_) (.inr hy))))
 refine assignInOrder_cons (wpAny_bindName (zax I4 hN hi (.inl hx) rv (fun s3 I5=>assignInOrder_nil (wpAny_pure ?_)) (.inr hx)))
 rw [List.set_comm _ _ (Ne.symm hij)] at I5
 exact ⟨_,H1,I5,q1⟩
end
section
variable {X:Cx} {pos:Pos}
noncomputable def tWhile (c:TT) (tb:TS):TS:=fun D σ H=>∃ W:Nat→St→Hp→Prop,(∃ m,W m σ H)∧∀ m σ H,W m σ H →
 c σ H fun b H1=>if b=true then ∃ N:St→Hp→Prop,(∀ σ' H',N σ' H'→∃ m',m' < m∧W m' σ' H')∧tb { D with nx:=N,ct:=N,bk:=D.nx } σ H1 else D.nx σ H1
theorem ZaF {c:Expr} {body:List Stmt} {tc:TT} {tb:TS} (hp:PassesOwn (model X.prog X.w) X.A X.env X.xe) (hc:PT X c tc) (hb:PSs X body tb):PS X (.While c body [] pos) (tWhile tc tb):=by
 intro pins s σ H D I h
 obtain ⟨W,⟨m0,w0⟩,turn⟩:=h
 refine wpAny_While (codeAny_whileLoop (fun n s'=>∃ σ' H',Inv X pins σ' H' s'∧W n σ' H') ?_ m0 ⟨σ,H,I,w0⟩)
 rintro n s1 ⟨σ1,H1,I1,w1⟩
 refine wpAny_passesOwn hp (thn (hc pins s1 σ1 H1 _ I1 (turn n σ1 H1 w1)) fun b s2 ⟨H2,I2,q2⟩=>?_)
 cases b with
 | true =>
  obtain ⟨N,hN,q2⟩:=q2
  rw [if_pos rfl]
  refine wpAny_passesOwn hp (thn (hb pins s2 σ1 H2 _ I2 q2) fun f s3 q3=>?_)
  cases f with
  | next =>
   obtain ⟨σ3,H3,I3,n3⟩:=q3
   obtain ⟨m',hm,w3⟩:=hN σ3 H3 n3
   exact ⟨m',hm,σ3,H3,I3,w3⟩
  | cont =>
   obtain ⟨σ3,H3,I3,n3⟩:=q3
   obtain ⟨m',hm,w3⟩:=hN σ3 H3 n3
   exact ⟨m',hm,σ3,H3,I3,w3⟩
  | brk=>exact q3
  | ret v=>exact q3
 | false =>
  rw [if_neg Bool.false_ne_true]
  exact wpAny_execs_nil ⟨σ1,H2,I2,q2⟩
end
set_option genInjectivity false in
structure It where
 go:Nat→Hp→Prop
 yld:Nat→Hp→V→Hp→Prop
 stop:Nat→Hp→Prop
noncomputable def FpOk (X:Cx) (pins:List (Addr×Obj)) (H:Hp) (b:Addr):Prop :=
 H b=none∧b≠X.env.locals∧b ∉ X.fs∧(b∈X.ex∨X.s₀.heap.objs.size≤b)∧(∀ x c,X.env.cells.lookup x=some c→c≠b)∧∀ p∈X.pn ++ pins,p.1≠b
theorem Inv.fpOk {X:Cx} {pins:List (Addr×Obj)} {σ:St} {H H':Hp} {s:Shared} {b:Addr} (I:Inv X pins σ H s) (hb:s.heap.objs.size≤b) (hn:H' b=none):FpOk X pins H' b:=by
 refine ⟨hn,Nat.ne_of_gt (Nat.lt_of_lt_of_le I.lt hb),I.nofs hb,.inr (Nat.le_trans I.sz hb),fun x c e z=>?_,fun p hp z=>?_⟩
 ·obtain ⟨v,q⟩:=I.cell x c e
  exact absurd (Nat.lt_of_lt_of_le q.lt (by rw [z];exact hb)) (Nat.lt_irrefl _)
 ·exact absurd (Nat.lt_of_lt_of_le (Heap.lt_size (I.pin p hp).1) (by rw [z];exact hb)) (Nat.lt_irrefl _)
structure Turn (P:Program) (w:World) (K:PySem.W.Frag) (tg:Expr) (J:It) (fp:List Addr) (it:Addr) (tn:Nat→Heap→Prop):Prop where
 mem:it∈fp
 obj:∀ i h,tn i h→∀ b∈fp,∃ o,h.get? b=some o∧∀ v,o.data≠.cell v
 keep:∀ i h h',tn i h→(∀ b∈fp,∀ o,h.get? b=some o→h'.get? b=some o)→tn i h'
 item:∀ (X:Cx),X.prog=P→X.w=w→X.K=K→X.calm=true→∀ (i:Nat) (pins:List (Addr×Obj)) (s:Shared) (σ:St) (H:Hp) (E:Value→Shared→Prop),Inv X pins σ H s→(∀ b∈fp,FpOk X pins H b)→tn i s.heap→J.go i H →
  wpAny (model P w) X.A (pyNext (.ref it)) (fun r s1=>∃ u,r=some u ∧
   wpAny (model P w) X.A (letOwnedTupleGo tg (.ref it) u) (fun _ s2=>∃ x H',Inv X pins σ H' s2∧RelV x u∧J.yld i H x H'∧tn (i + 1) s2.heap∧∀ b∈fp,H' b=none) E s1) E s
 done:∀ (X:Cx),X.prog=P→X.w=w→X.K=K→X.calm=true→∀ (i:Nat) (pins:List (Addr×Obj)) (s:Shared) (σ:St) (H:Hp) (E:Value→Shared→Prop),Inv X pins σ H s→(∀ b∈fp,FpOk X pins H b)→tn i s.heap→J.stop i H →
  wpAny (model P w) X.A (pyNext (.ref it)) (fun r s1=>r=none∧Inv X pins σ H s1) E s
 self:∀ (A:Around) (i:Nat) (s:Shared) (Q:Value→Shared→Prop) (E:Value→Shared→Prop),tn i s.heap→Q (.ref it) s→wpAny (model P w) A (pyIter (.ref it)) Q E s
abbrev TI:=St→Hp→(It→Hp→Prop)→Prop
noncomputable def PIE (X:Cx) (pins:List (Addr×Obj)) (σ:St) (tg:Expr) (R:It→Hp→Prop) (itv:Value) (s2:Shared):Prop :=
 ∃ (it:Addr) (fp:List Addr) (tn:Nat→Heap→Prop) (J:It) (H':Hp),itv=.ref it∧Inv X pins σ H' s2∧Turn X.prog X.w X.K tg J fp it tn∧tn 0 s2.heap∧(∀ b∈fp,FpOk X pins H' b)∧R J H'
noncomputable def PI (X:Cx) (tg iter:Expr) (wi:TI):Prop :=
 ∀ (pins:List (Addr×Obj)) (s:Shared) (σ:St) (H:Hp) (R:It→Hp→Prop),Inv X pins σ H s→wi σ H R →
  wpAny (model X.prog X.w) X.A (eval iter X.env) (fun v s1=>wpAny (model X.prog X.w) X.A (pyIter v) (PIE X pins σ tg R) X.xe s1) X.xe s
theorem Xbj {M:Model} {A:Around} {E:Value→Shared→Prop} {s:Shared} {tg:Expr} {it:Addr} {u:Value} {o:Obj} {n:String} {vs:Array Value} {Q:Unit→Shared→Prop} (ho:s.heap.get? it=some o) (hc:o.cls=.type n) (hd:o.data=.fields vs)
  (hn:["enumerate","zip","dict_itemiterator","dict_reverseitemiterator","odict_iterator","itertools.zip_longest","itertools.pairwise"].contains n=false) (hQ:Q () s):wpAny M A (letOwnedTupleGo tg (.ref it) u) Q E s:=by
 unfold letOwnedTupleGo
 cases tg <;> first
  | exact wpAny_pure hQ
  | (cases u <;> first
    | exact wpAny_pure hQ
    | (refine wpAny_bind (wpAny_load ho ?_)
       rw [hc,hd]
       show wpAny M A (if (["enumerate","zip","dict_itemiterator","dict_reverseitemiterator","odict_iterator","itertools.zip_longest","itertools.pairwise"].contains n && vs[0]? == some (rawInt _))=true then _ else _) Q E s
       rw [if_neg (by intro h;rw [hn,Bool.false_and] at h;cases h)]
       exact wpAny_pure hQ))
noncomputable def Itl (K:PySem.W.Frag) (a:Addr):It :=
 ⟨fun i H=>∃ xs x,SqL K H a xs∧xs[i]?=some x,fun i H x H'=>H'=H∧∀ xs,SqL K H a xs→xs[i]?=some x,fun i H=>∃ xs,SqL K H a xs∧xs.length≤i⟩
noncomputable def Itt (K:PySem.W.Frag) (a:Addr):It :=
 ⟨fun i H=>∃ xs x,SqT K H a xs∧xs[i]?=some x,fun i H x H'=>H'=H∧∀ xs,SqT K H a xs→xs[i]?=some x,fun i H=>∃ xs,SqT K H a xs∧xs.length≤i⟩
noncomputable def Itr (lo:Int) (n:Nat):It:=⟨fun i _=>i < n,fun i H x H'=>H'=H∧x=.int (lo + i),fun i _=>n≤i⟩
theorem XaW {P:Program} {w:World} {K:PySem.W.Frag} {tg:Expr} (a it:Addr):Turn P w K tg (Itl K a) [it] it (fun i h=>h.IsListIter it a i) where
 mem:=by simp
 obj:=fun i h st b hb=>by
  have e:b=it:=by simpa using hb
  subst e
  obtain ⟨o,e,c,d⟩:=st
  exact ⟨o,e,fun v z=>by rw [d] at z;cases z⟩
 keep:=fun i h h' st k=>st.at fun o e=>k it (by simp) o e
 item:=by
  intro X hP hw hK hc i pins s σ H E I hf st hg
  subst hP hw hK
  obtain ⟨xs,x,hq,hx⟩:=hg
  obtain ⟨its,rv,p,hz⟩:=I.list hq
  obtain ⟨u,hu,ru⟩:=rv.get hx
  obtain ⟨f0,f1,f2,f3,f4,f5⟩:=hf it (by simp)
  refine wpAny_pyNext_list_item st p.isList (x:=u) (by simpa using hu) fun h' st' sb=>?_
  have I1:Inv X pins σ H { s with heap:=h' }:=I.turned (t':=s.toks) (fun b o hb e=>(sb.2 b hb).trans e) f0 f1 f3 f4 f5
  obtain ⟨o,e,c,d⟩:=id st'
  exact ⟨u,rfl,Xbj (s:={ s with heap:=h' }) e c d (by decide) ⟨x,H,I1,ru,⟨rfl,fun ys hy=>by rw [I.list_inj hy hq];exact hx⟩,st',fun b hb=>(hf b hb).1⟩⟩
 done:=by
  intro X hP hw hK hc i pins s σ H E I hf st hg
  subst hP hw hK
  obtain ⟨xs,hq,hx⟩:=hg
  obtain ⟨its,rv,p,hz⟩:=I.list hq
  obtain ⟨f0,f1,f2,f3,f4,f5⟩:=hf it (by simp)
  have hl:=rv.length
  exact wpAny_pyNext_list_end (I.ok.hd hc) st p.isList (by simp;omega) fun h' eb=>⟨rfl,I.turned (t':=s.toks) (fun b o hb e=>eb b o hb e) f0 f1 f3 f4 f5⟩
 self:=fun _ _ _ _ _ st h=>wpAny_pyIter_listiter st h
theorem ZaS {P:Program} {w:World} {K:PySem.W.Frag} {tg:Expr} (a it:Addr):Turn P w K tg (Itt K a) [it] it (fun i h=>h.IsTupleIter it a i) where
 mem:=by simp
 obj:=fun i h st b hb=>by
  have e:b=it:=by simpa using hb
  subst e
  obtain ⟨o,e,c,d⟩:=st
  exact ⟨o,e,fun v z=>by rw [d] at z;cases z⟩
 keep:=fun i h h' st k=>st.at fun o e=>k it (by simp) o e
 item:=by
  intro X hP hw hK hc i pins s σ H E I hf st hg
  subst hP hw hK
  obtain ⟨xs,x,hq,hx⟩:=hg
  obtain ⟨its,rv,p,hz⟩:=I.tuple hq
  obtain ⟨u,hu,ru⟩:=rv.get hx
  obtain ⟨f0,f1,f2,f3,f4,f5⟩:=hf it (by simp)
  refine wpAny_pyNext_tuple_item st (show s.heap.IsTuple a its.toArray from p) (x:=u) (by simpa using hu) fun h' st' sb=>?_
  have I1:Inv X pins σ H { s with heap:=h' }:=I.turned (t':=s.toks) (fun b o hb e=>(sb.2 b hb).trans e) f0 f1 f3 f4 f5
  obtain ⟨o,e,c,d⟩:=id st'
  exact ⟨u,rfl,Xbj (s:={ s with heap:=h' }) e c d (by decide) ⟨x,H,I1,ru,⟨rfl,fun ys hy=>by rw [I.tuple_inj hy hq];exact hx⟩,st',fun b hb=>(hf b hb).1⟩⟩
 done:=by
  intro X hP hw hK hc i pins s σ H E I hf st hg
  subst hP hw hK
  obtain ⟨xs,hq,hx⟩:=hg
  obtain ⟨its,rv,p,hz⟩:=I.tuple hq
  obtain ⟨f0,f1,f2,f3,f4,f5⟩:=hf it (by simp)
  have hl:=rv.length
  exact wpAny_pyNext_tuple_end (I.ok.hd hc) st (show s.heap.IsTuple a its.toArray from p) (by simp;omega) fun h' eb=>⟨rfl,I.turned (t':=s.toks) (fun b o hb e=>eb b o hb e) f0 f1 f3 f4 f5⟩
 self:=fun _ _ _ _ _ st h=>wpAny_pyIter_tupleiter st h
theorem YaS {P:Program} {w:World} {K:PySem.W.Frag} {tg:Expr} (it:Addr) (lo:Int) (n:Nat):Turn P w K tg (Itr lo n) [it] it (fun i h=>IsRangeIter h it (lo + (i:Nat) * 1) ((n:Int) - (i:Nat)) 1) where
 mem:=by simp
 obj:=fun i h st b hb=>by
  have e:b=it:=by simpa using hb
  subst e
  exact ⟨_,st,fun v z=>by
   have z':Data.fields _=Data.cell v:=z
   cases z'⟩
 keep:=fun i h h' st k=>k it (by simp) _ st
 item:=by
  intro X hP hw hK hc i pins s σ H E I hf st hg
  subst hP hw hK
  obtain ⟨f0,f1,f2,f3,f4,f5⟩:=hf it (by simp)
  have W:=Walks.range (prog:=X.prog) (w:=X.w) (I.ok.hd hc) it lo 1 n
  refine W.item i s _ _ hg st fun v h' tk hv st' kk=>?_
  obtain ⟨t,rfl⟩:=hv
  have I1:Inv X pins σ H { s with heap:=h',toks:=tk }:=I.turned (fun b o hb e=>kk b o (by simpa using hb) e) f0 f1 f3 f4 f5
  refine ⟨_,rfl,Xbj (s:={ s with heap:=h',toks:=tk }) (n:="range_iterator") st' rfl rfl (by decide) ⟨.int (lo + i),H,I1,⟨t,?_⟩,⟨rfl,rfl⟩,st',fun b hb=>(hf b hb).1⟩⟩
  rw [Int.mul_one]
 done:=by
  intro X hP hw hK hc i pins s σ H E I hf st hg
  subst hP hw hK
  obtain ⟨f0,f1,f2,f3,f4,f5⟩:=hf it (by simp)
  exact wpAny_pyNext_range_end (I.ok.hd hc) st (by have:n≤i:=hg;omega) fun h' eb=>⟨rfl,I.turned (t':=s.toks) (fun b o hb e=>eb b o hb e) f0 f1 f3 f4 f5⟩
 self:=fun _ _ _ _ _ st h=>wpAny_pyIter_rangeiter st h
end L2
namespace L2
open PySem PySem.Spec PyProof.Rows
section
variable {X:Cx} {tg:Expr}
noncomputable def iList (K:PySem.W.Frag) (tl:TE):TI:=fun σ H R=>tl σ H fun x H1=>∃ a,x=.ref a∧(∃ xs,SqL K H1 a xs)∧R (Itl K a) H1
noncomputable def iTup (K:PySem.W.Frag) (tl:TE):TI:=fun σ H R=>tl σ H fun x H1=>∃ a,x=.ref a∧(∃ xs,SqT K H1 a xs)∧R (Itt K a) H1
theorem zbk {l:Expr} {tl:TE} (hl:PE X l tl):PI X tg l (iList X.K tl):=by
 intro pins s σ H R I h
 refine thn (hl pins s σ H _ I h) fun v s1 ⟨x,H1,I1,r1,q1⟩=>?_
 obtain ⟨a,e,⟨xs,hq⟩,q⟩:=q1
 subst e
 cases r1
 obtain ⟨its,rv,p,hz⟩:=I1.list hq
 refine wpAny_pyIter_list p.isList ?_
 refine ⟨s1.heap.objs.size,[s1.heap.objs.size],_,_,H1,rfl,I1.kept (t':=s1.toks) fun b o e=>Heap.get?_push_of_some _ e,XaW a _,⟨_,Heap.get?_push_size _ rfl,rfl,rfl⟩,fun b hb=>?_,q⟩
 have e:b=s1.heap.objs.size:=by simpa using hb
 subst e
 exact I1.fpOk (Nat.le_refl _) (I1.hok.fresh (Nat.le_refl _))
theorem Zbf {l:Expr} {tl:TE} (hl:PE X l tl):PI X tg l (iTup X.K tl):=by
 intro pins s σ H R I h
 refine thn (hl pins s σ H _ I h) fun v s1 ⟨x,H1,I1,r1,q1⟩=>?_
 obtain ⟨a,e,⟨xs,hq⟩,q⟩:=q1
 subst e
 cases r1
 obtain ⟨its,rv,p,hz⟩:=I1.tuple hq
 refine wpAny_pyIter_tuple (show s1.heap.IsTuple a its.toArray from p) ?_
 refine ⟨s1.heap.objs.size,[s1.heap.objs.size],_,_,H1,rfl,I1.kept (t':=s1.toks) fun b o e=>Heap.get?_push_of_some _ e,ZaS a _,⟨_,Heap.get?_push_size _ rfl,rfl,rfl⟩,fun b hb=>?_,q⟩
 have e:b=s1.heap.objs.size:=by simpa using hb
 subst e
 exact I1.fpOk (Nat.le_refl _) (I1.hok.fresh (Nat.le_refl _))
theorem ya8 {pins:List (Addr×Obj)} {σ:St} {H:Hp} {s:Shared} {R:It→Hp→Prop} {E:Value→Shared→Prop} {lo hi:Int} {t u v:Tok} {tk:Nat} (I:Inv X pins σ H s) (h1:-(2 ^ 62)≤lo) (h2:lo < 2 ^ 62) (h3:-(2 ^ 62)≤hi) (h4:hi < 2 ^ 62)
  (q:R (Itr lo (hi - lo).toNat) H):wpAny (model X.prog X.w) X.A (pyIter (.ref s.heap.objs.size)) (PIE X pins σ tg R) E { s with heap:=s.heap.push { cls:=.type "range",data:=.fields #[.int lo t,.int hi u,.int 1 v] },toks:=tk }:=by
 refine wpAny_pyIter_range (IsRange.new ..) (small_one h1 h2 h3 h4) ?_
 have I1:Inv X pins σ H { s with heap:=s.heap.push { cls:=.type "range",data:=.fields #[.int lo t,.int hi u,.int 1 v] },toks:=tk }:=I.kept fun b o e=>Heap.get?_push_of_some _ e
 refine ⟨(s.heap.push { cls:=.type "range",data:=.fields #[.int lo t,.int hi u,.int 1 v] }).objs.size,[(s.heap.push { cls:=.type "range",data:=.fields #[.int lo t,.int hi u,.int 1 v] }).objs.size],_,_,H,rfl,
  I1.kept (t':=tk) fun b o e=>Heap.get?_push_of_some _ e,YaS _ lo (hi - lo).toNat,?_,fun b hb=>?_,q⟩
 ·have e1:lo + ((0:Nat):Int) * 1=lo:=by simp
  have e2:(((hi - lo).toNat:Nat):Int) - ((0:Nat):Int)=Builtin.Range.rangeSize lo hi 1:=by rw [rangeSize_one];split <;> omega
  show IsRangeIter _ _ (lo + ((0:Nat):Int) * 1) ((((hi - lo).toNat:Nat):Int) - ((0:Nat):Int)) 1
  rw [e1,e2]
  exact Heap.get?_push_size _ rfl
 ·have e:b=(s.heap.push { cls:=.type "range",data:=.fields #[.int lo t,.int hi u,.int 1 v] }).objs.size:=by simpa using hb
  subst e
  exact I1.fpOk (Nat.le_refl _) (I1.hok.fresh (Nat.le_refl _))
noncomputable def iRng1 (ta:TA):TI:=fun σ H R=>ta σ H fun vs H1=>∃ j:Int,vs=[.int j]∧-(2 ^ 62)≤j∧j < 2 ^ 62∧R (Itr 0 j.toNat) H1
theorem XaI {a:Expr} {ta:TA} {p pos:Pos} (hg:Gl X "range") (hm:X.mg "range" = none) (ha:PA X [a] ta) (hs:starEach [a] X.env=[(false,eval a X.env)]:=by rfl):PI X tg (.Call (.Name "range" p) [a] [] pos) (iRng1 ta):=by
 intro pins s σ H R I h
 refine Call_ (zaP I hg hm boot_range (PyProof.Rows.callWith_type1 (thn (ha pos pins s σ H _ I h) fun us s1 ⟨vs,H1,I1,r1,q1⟩=>?_) hs rfl))
 obtain ⟨j,e,q1,q2,q⟩:=q1
 subst e
 cases r1 with
 | cons r rr =>
  cases rr
  obtain ⟨t,rfl⟩:=r
  exact call_range_1 (ya8 I1 (by omega) (by omega) q1 q2 (by simpa using q))
noncomputable def tFor (wi:TI) (g:TG) (tb:TS):TS:=fun D σ H=>wi σ H fun J H1=>∃ W:Nat→Nat→St→Hp→Prop,(∃ m,W 0 m σ H1)∧∀ i m σ H,W i m σ H →
 (J.stop i H∧D.nx σ H)∨(J.go i H∧∃ N:St→Hp→Prop,(∀ σ' H',N σ' H'→∃ m',m' < m∧W (i + 1) m' σ' H')∧∀ x H',J.yld i H x H'→g x σ H' fun σ2 H2=>tb { D with nx:=N,ct:=N,bk:=D.nx } σ2 H2)
noncomputable def pinsAt (fp:List Addr) (h:Heap):List (Addr×Obj):=fp.filterMap fun b=>(h.get? b).map fun o=>(b,o)
theorem xav {fp:List Addr} {h:Heap} {b:Addr} {o:Obj} (hb:b∈fp) (e:h.get? b=some o):(b,o)∈pinsAt fp h:=List.mem_filterMap.mpr ⟨b,hb,by rw [e];rfl⟩
theorem zaX {fp:List Addr} {h:Heap} {p:Addr×Obj} (hp:p∈pinsAt fp h):p.1∈fp∧h.get? p.1=some p.2:=by
 obtain ⟨b,hb,e⟩:=List.mem_filterMap.mp hp
 cases q:h.get? b with
 | none=>rw [q] at e;cases e
 | some o =>
  rw [q] at e
  have e':(b,o)=p:=Option.some.inj e
  subst e'
  exact ⟨hb,q⟩
theorem Inv.pinned {pins:List (Addr×Obj)} {σ:St} {H:Hp} {s:Shared} {fp:List Addr} (I:Inv X pins σ H s) (hf:∀ b∈fp,FpOk X pins H b) (ho:∀ b∈fp,∃ o,s.heap.get? b=some o∧∀ v,o.data≠.cell v):Inv X (pins ++ pinsAt fp s.heap) σ H s :=
 I.pins_of fun p hp=>(List.mem_append.mp hp).elim (fun z=>I.pin p (List.mem_append_right _ z)) fun z=>by
  obtain ⟨hb,e⟩:=zaX z
  obtain ⟨f0,f1,f2,_⟩:=hf p.1 hb
  obtain ⟨o,e',d⟩:=ho p.1 hb
  rw [e] at e';cases e'
  exact ⟨e,f0,f1,f2,d⟩
theorem Inv.unpinned {pins pl:List (Addr×Obj)} {σ:St} {H:Hp} {s:Shared} (I:Inv X (pins ++ pl) σ H s):Inv X pins σ H s:=I.pins_of fun p hp=>I.pin p (List.mem_append_right _ (List.mem_append_left _ hp))
theorem yaX {iter:Expr} {body:List Stmt} {wi:TI} {g:TG} {tb:TS} {pos:Pos} (hp:PassesOwn (model X.prog X.w) X.A X.env X.xe) (hc:X.calm=true) (hi:PI X tg iter wi) (hg:PG X tg g) (hb:PSs X body tb)
  (hs:∀ x,foldedSetIterable iter X.env x=pure x:=by intro _;rfl):PS X (.For tg iter body [] pos) (tFor wi g tb):=by
 intro pins s σ H D I h
 refine wpAny_For (thn (hi pins s σ H _ I h) fun v s1 h1=>thn h1 fun itv s2 h2=>?_) hs
 obtain ⟨it,fp,tn,J,H2,e,I2,T,st2,f2,W,⟨m0,w0⟩,turn⟩:=h2
 subst e
 have stat:∀ {H':Hp},(∀ b∈fp,H' b=none)→∀ b∈fp,FpOk X pins H' b:=fun hn b hb=>⟨hn b hb,(f2 b hb).2⟩
 refine codeAny_forLoop_any (fun n s'=>∃ i σ' H',Inv X pins σ' H' s'∧tn i s'.heap∧(∀ b∈fp,H' b=none)∧W i n σ' H') ?_ m0 ⟨0,σ,H2,I2,st2,fun b hb=>(f2 b hb).1,w0⟩
 rintro n s3 ⟨i,σ3,H3,I3,st3,fr3,w3⟩
 rcases turn i n σ3 H3 w3 with ⟨stop,qn⟩ | ⟨go,N,hN,step⟩
 ·refine wpAny_passesOwn hp (thn (T.done X rfl rfl rfl hc i pins s3 σ3 H3 X.xe I3 (stat fr3) st3 stop) fun r s4 ⟨hr,I4⟩=>?_)
  subst hr
  exact wpAny_execs_nil ⟨σ3,H3,I4,qn⟩
 ·refine wpAny_passesOwn hp (thn (T.item X rfl rfl rfl hc i pins s3 σ3 H3 X.xe I3 (stat fr3) st3 go) fun r s4 ⟨u,hr,h4⟩=>?_)
  subst hr
  refine wpAny_passesOwn hp (thn h4 fun _ s5 ⟨x,H5,I5,r5,y5,st5,fr5⟩=>?_)
  have I5':=I5.pinned (stat fr5) (T.obj _ _ st5)
  refine wpAny_passesOwn hp (thn (hg _ s5 σ3 H5 x u _ I5' r5 (step x H5 y5)) fun _ s6 ⟨σ6,H6,I6,q6⟩=>?_)
  refine wpAny_passesOwn hp (thn (hb _ s6 σ6 H6 _ I6 q6) fun f s7 q7=>?_)
  have again:∀ {σ7:St} {H7:Hp},Inv X (pins ++ pinsAt fp s5.heap) σ7 H7 s7→N σ7 H7→∃ m,m < n∧∃ i σ' H',Inv X pins σ' H' s7∧tn i s7.heap∧(∀ b∈fp,H' b=none)∧W i m σ' H':=fun {σ7 H7} I7 n7=>by
   obtain ⟨m',hm,w7⟩:=hN σ7 H7 n7
   refine ⟨m',hm,i + 1,σ7,H7,I7.unpinned,T.keep _ _ _ st5 fun b hb o e=>(I7.pin (b,o) (List.mem_append_right _ (List.mem_append_right _ (xav hb e)))).1,fun b hb=>?_,w7⟩
   obtain ⟨o,e,d⟩:=T.obj _ _ st5 b hb
   exact (I7.pin (b,o) (List.mem_append_right _ (List.mem_append_right _ (xav hb e)))).2.1
  cases f with
  | next=>obtain ⟨σ7,H7,I7,n7⟩:=q7;exact again I7 n7
  | cont=>obtain ⟨σ7,H7,I7,n7⟩:=q7;exact again I7 n7
  | brk=>obtain ⟨σ7,H7,I7,q7⟩:=q7;exact ⟨σ7,H7,I7.unpinned,q7⟩
  | ret v=>obtain ⟨x7,σ7,H7,I7,r7,q7⟩:=q7;exact ⟨x7,σ7,H7,I7.unpinned,r7,q7⟩
end
end L2
namespace L2
open PySem PySem.Spec PyProof.Rows
abbrev R2:=V→V→Hp→VK→Prop
noncomputable def OpR (X:Cx) (f:Value→Value→Sem Value) (r:R2):Prop :=
 ∀ (pins:List (Addr×Obj)) (s:Shared) (σ:St) (H:Hp) (x y:V) (v u:Value) (Q:VK),Inv X pins σ H s→RelV x v→RelV y u→r x y H Q →
  wpAny (model X.prog X.w) X.A (f v u) (EP X pins σ Q) X.xe s
noncomputable def UnR (X:Cx) (f:Value→Sem Value) (r:V→Hp→VK→Prop):Prop :=
 ∀ (pins:List (Addr×Obj)) (s:Shared) (σ:St) (H:Hp) (x:V) (v:Value) (Q:VK),Inv X pins σ H s→RelV x v→r x H Q →
  wpAny (model X.prog X.w) X.A (f v) (EP X pins σ Q) X.xe s
noncomputable def CallR (X:Cx) (f:Value) (r:List V→Hp→VK→Prop):Prop :=
 ∀ (pins:List (Addr×Obj)) (s:Shared) (σ:St) (H:Hp) (xs:List V) (us:List Value) (Q:VK),Inv X pins σ H s→Vals xs us→r xs H Q →
  wpAny (model X.prog X.w) X.A (call f us) (EP X pins σ Q) X.xe s
noncomputable def tOp (r:R2) (ta tb:TE):TE:=fun σ H Q=>ta σ H fun x H1=>tb σ H1 fun y H2=>r x y H2 Q
noncomputable def tUn (r:V→Hp→VK→Prop) (ta:TE):TE:=fun σ H Q=>ta σ H fun x H1=>r x H1 Q
noncomputable def rI (C:Int→Int→Prop) (g:Int→Int→V):R2:=fun x y H Q=>∃ i j,x=.int i∧y=.int j∧C i j∧Q (g i j) H
noncomputable def rI0 (g:Int→Int→V):R2:=fun x y H Q=>∃ i j,x=.int i∧y=.int j∧Q (g i j) H
noncomputable def rU (g:Int→V):V→Hp→VK→Prop:=fun x H Q=>∃ i,x=.int i∧Q (g i) H
section
variable {X:Cx} {a b c:Expr} {ta tb tc:TE} {pos:Pos}
theorem binT (ha:PE X a ta) (hb:PE X b tb) {pins:List (Addr×Obj)} {s:Shared} {σ:St} {H:Hp} {R:V→V→Hp→Prop} (I:Inv X pins σ H s)
  (h:ta σ H fun x H1=>tb σ H1 fun y H2=>R x y H2) {Q:Value→Shared→Prop} {f:Value→Value→Sem Value}
  (hf:∀ v u s2 x y H2,Inv X pins σ H2 s2→RelV x v→RelV y u→R x y H2→wpAny (model X.prog X.w) X.A (f v u) Q X.xe s2) :
  wpAny (model X.prog X.w) X.A (eval a X.env) (fun v s₁=>wpAny (model X.prog X.w) X.A (eval b X.env) (fun u s₂=>wpAny (model X.prog X.w) X.A (f v u) Q X.xe s₂) X.xe s₁) X.xe s:=by
 refine thn (ha pins s σ H _ I h) fun v s1 ⟨x,H1,I1,r1,q1⟩=>?_
 refine thn (hb pins s1 σ H1 _ I1 q1) fun u s2 ⟨y,H2,I2,r2,q2⟩=>?_
 exact hf v u s2 x y H2 I2 r1 r2 q2
theorem zad {op:Operator} {r:R2} (ho:OpR X (binaryOp op) r) (ha:PE X a ta) (hb:PE X b tb):PE X (.BinOp a op b pos) (tOp r ta tb):=by
 intro pins s σ H Q I h
 exact wpAny_BinOp (binT ha hb I h fun v u s2 x y H2 I2 rx ry q=>ho pins s2 σ H2 x y v u Q I2 rx ry q)
theorem xaS {op:UnaryOp} {r:V→Hp→VK→Prop} (ho:UnR X (unaryOp op) r) (ha:PE X a ta):PE X (.UnaryOp op a pos) (tUn r ta):=by
 intro pins s σ H Q I h
 exact UnaryOp_ (thn (ha pins s σ H _ I h) fun v s1 ⟨x,H1,I1,r1,q1⟩=>ho pins s1 σ H1 x v Q I1 r1 q1)
theorem opI {f:Value→Value→Sem Value} {C:Int→Int→Prop} {g:Int→Int→Int}
  (rule:∀ (i j:Int) (t u:Tok) (s:Shared) (Q:Value→Shared→Prop) (E:Value→Shared→Prop),C i j→Q (.int (g i j) s.toks) { s with toks:=s.toks + 1 }→wpAny (model X.prog X.w) X.A (f (.int i t) (.int j u)) Q E s) :
  OpR X f (rI C fun i j=>.int (g i j)):=by
 intro pins s σ H x y v u Q I rx ry h
 obtain ⟨i,j,rfl,rfl,hc,q⟩:=h
 obtain ⟨t,rfl⟩:=rx
 obtain ⟨t',rfl⟩:=ry
 exact rule i j t t' s _ _ hc ⟨.int (g i j),H,I.tok _,⟨_,rfl⟩,q⟩
theorem opI0 {f:Value→Value→Sem Value} {g:Int→Int→Int}
  (rule:∀ (i j:Int) (t u:Tok) (s:Shared) (Q:Value→Shared→Prop) (E:Value→Shared→Prop),Q (.int (g i j) s.toks) { s with toks:=s.toks + 1 }→wpAny (model X.prog X.w) X.A (f (.int i t) (.int j u)) Q E s) :
  OpR X f (rI0 fun i j=>.int (g i j)):=by
 intro pins s σ H x y v u Q I rx ry h
 obtain ⟨i,j,rfl,rfl,q⟩:=h
 obtain ⟨t,rfl⟩:=rx
 obtain ⟨t',rfl⟩:=ry
 exact rule i j t t' s _ _ ⟨.int (g i j),H,I.tok _,⟨_,rfl⟩,q⟩
theorem opB0 {f:Value→Value→Sem Value} {g:Int→Int→Bool}
  (rule:∀ (i j:Int) (t u:Tok) (s:Shared) (Q:Value→Shared→Prop) (E:Value→Shared→Prop),Q (.bool (g i j)) s→wpAny (model X.prog X.w) X.A (f (.int i t) (.int j u)) Q E s) :
  OpR X f (rI0 fun i j=>.bl (g i j)):=by
 intro pins s σ H x y v u Q I rx ry h
 obtain ⟨i,j,rfl,rfl,q⟩:=h
 obtain ⟨t,rfl⟩:=rx
 obtain ⟨t',rfl⟩:=ry
 exact rule i j t t' s _ _ ⟨.bl (g i j),H,I,rfl,q⟩
noncomputable def CDiv (i j:Int):Prop:=0 < j∧j < 1073741824
noncomputable def CDivN (i j:Int):Prop:=j≠0∧j.natAbs < 1073741824
noncomputable def CPow (i j:Int):Prop:=0≤j∧j≤1000000∧i.natAbs < 2 ^ 64
noncomputable def CMul (i j:Int):Prop:=(-(2 ^ 64) < i∧i < 2 ^ 64)∨(-(2 ^ 64) < j∧j < 2 ^ 64)
theorem CMul.ok {i j:Int} (h:CMul i j):IntMulOk i j:=by
 rcases h with ⟨h1,h2⟩ | ⟨h1,h2⟩
 ·exact .of_left (intBits_le_64 h1 h2)
 ·exact .of_right (intBits_le_64 h1 h2)
theorem Xai:OpR X (binaryOp .Add) (rI0 fun i j=>.int (i + j)):=opI0 fun _ _ _ _ _ _ _ q=>add_int q
theorem xay:OpR X (binaryOp .Sub) (rI0 fun i j=>.int (i - j)):=opI0 fun _ _ _ _ _ _ _ q=>sub_int q
theorem Yaj:OpR X (binaryOp .Mult) (rI CMul fun i j=>.int (i * j)):=opI fun _ _ _ _ _ _ _ hc q=>mul_int q hc.ok
theorem YaF:OpR X (binaryOp .FloorDiv) (rI CDiv fun i j=>.int (i / j)):=opI fun i j _ _ _ _ _ hc q=>by
 have h1:(0:Int) < j:=hc.1
 have h2:j < 1073741824:=hc.2
 exact floordiv_int (by omega) (by rw [Int.fdiv_eq_ediv_of_nonneg i (by omega)];exact q) (.inl (PyProof.noPylong_small (by omega)))
theorem Za8:OpR X (binaryOp .FloorDiv) (rI CDivN fun i j=>.int (i.fdiv j)):=opI fun _ _ _ _ _ _ _ hc q=>floordiv_int hc.1 q (.inl (PyProof.noPylong_small hc.2))
theorem yax:OpR X (binaryOp .Mod) (rI (fun _ j=>0 < j) fun i j=>.int (i % j)):=opI fun i j _ _ _ _ _ hc q=>by
 have h1:(0:Int) < j:=hc
 exact mod_int' (by omega) (by rw [Int.fmod_eq_emod_of_nonneg i (by omega)];exact q)
theorem Ybf:OpR X (binaryOp .Pow) (rI CPow fun i j=>.int (i ^ j.toNat)):=opI fun _ _ _ _ _ _ _ hc q=>pow_int_small hc.1 hc.2.1 hc.2.2 q
theorem unI {f:Value→Sem Value} {g:Int→Int}
  (rule:∀ (i:Int) (t:Tok) (s:Shared) (Q:Value→Shared→Prop) (E:Value→Shared→Prop),Q (.int (g i) s.toks) { s with toks:=s.toks + 1 }→wpAny (model X.prog X.w) X.A (f (.int i t)) Q E s) :
  UnR X f (rU fun i=>.int (g i)):=by
 intro pins s σ H x v Q I rx h
 obtain ⟨i,rfl,q⟩:=h
 obtain ⟨t,rfl⟩:=rx
 exact rule i t s _ _ ⟨.int (g i),H,I.tok _,⟨_,rfl⟩,q⟩
theorem zaD:UnR X (unaryOp .USub) (rU fun i=>.int (-i)):=unI fun _ _ _ _ _ q=>neg_int q
end
noncomputable def scal:V→V→Bool
 | .non,.non=>true | .non,.int _=>true | .int _,.non=>true | .non,.bl _=>true | .bl _,.non=>true | .non,.str _=>true | .str _,.non=>true
 | .int _,.int _=>true | .bl _,.bl _=>true | .str _,.str _=>true | .byt _,.byt _=>true
 | .int _,.str _=>true | .str _,.int _=>true | .bl _,.str _=>true | .str _,.bl _=>true
 | _,_=>false
noncomputable def rEq:R2:=fun x y H Q=>scal x y=true∧Q (.bl (decide (x=y))) H
noncomputable def rNe:R2:=fun x y H Q=>scal x y=true∧Q (.bl (!decide (x=y))) H
theorem ZaX {i j:Int}:decide (V.int i=V.int j)=(i == j):=by
 rw [Bool.eq_iff_iff]
 simp
theorem xbf {i j:Bool}:decide (V.bl i=V.bl j)=(i == j):=by
 rw [Bool.eq_iff_iff]
 simp
theorem YaX {i j:Str}:decide (V.str i=V.str j)=(i == j):=by
 rw [Bool.eq_iff_iff]
 simp
theorem xaX {i j:Array UInt8}:decide (V.byt i=V.byt j)=(i.toList == j.toList):=by
 rw [Bool.eq_iff_iff]
 cases i
 cases j
 simp
section
variable {X:Cx} {a b c:Expr} {ta tb tc:TE} {pos:Pos}
theorem Zag {pins:List (Addr×Obj)} {σ:St} {H:Hp} {s:Shared} {Q:VK} {k k':Bool} (I:Inv X pins σ H s) (q:Q (.bl k) H) (e:k=k'):EP X pins σ Q (.bool k') s:=by
 subst e
 exact ⟨.bl k,H,I,rfl,q⟩
theorem yaM:OpR X (compareOp .Eq) rEq:=by
 intro pins s σ H x y v u Q I rx ry h
 obtain ⟨hs,q⟩:=h
 cases x with
 | non =>
  cases rx
  cases y with
  | non=>cases ry;exact PySem.EqNone.eq_none_none (Zag I q (by simp))
  | bl j=>cases ry;exact PySem.EqNone.eq_none_bool (Zag I q (by simp))
  | int j=>obtain ⟨t',rfl⟩:=ry;exact PySem.EqNone.eq_none_int (Zag I q (by simp))
  | str j=>obtain ⟨t',rfl⟩:=ry;exact PySem.EqNone.eq_none_str (Zag I q (by simp))
  | _=>exact absurd (show false=true from hs) Bool.false_ne_true
 | bl i =>
  cases rx
  cases y with
  | non=>cases ry;exact PySem.EqNone.eq_bool_none (Zag I q (by simp))
  | bl j=>cases ry;exact eq_bool (Zag I q xbf)
  | str j=>obtain ⟨t',rfl⟩:=ry;exact PySem.EqMixed.eq_bool_str (Zag I q (by simp))
  | _=>exact absurd (show false=true from hs) Bool.false_ne_true
 | int i =>
  obtain ⟨t,rfl⟩:=rx
  cases y with
  | non=>cases ry;exact PySem.EqNone.eq_int_none (Zag I q (by simp))
  | int j=>obtain ⟨t',rfl⟩:=ry;exact eq_int (Zag I q ZaX)
  | str j=>obtain ⟨t',rfl⟩:=ry;exact PySem.EqMixed.eq_int_str (Zag I q (by simp))
  | _=>exact absurd (show false=true from hs) Bool.false_ne_true
 | str i =>
  obtain ⟨t,rfl⟩:=rx
  cases y with
  | non=>cases ry;exact PySem.EqNone.eq_str_none (Zag I q (by simp))
  | bl j=>cases ry;exact PySem.EqMixed.eq_str_bool (Zag I q (by simp))
  | int j=>obtain ⟨t',rfl⟩:=ry;exact PySem.EqMixed.eq_str_int (Zag I q (by simp))
  | str j=>obtain ⟨t',rfl⟩:=ry;exact eq_str (Zag I q YaX)
  | _=>exact absurd (show false=true from hs) Bool.false_ne_true
 | byt i =>
  obtain ⟨t,rfl⟩:=rx
  cases y with
  | byt j=>obtain ⟨t',rfl⟩:=ry;exact PySem.W.eq_bytes (Zag I q xaX)
  | _=>exact absurd (show false=true from hs) Bool.false_ne_true
 | _=>cases y <;> exact absurd (show false=true from hs) Bool.false_ne_true
theorem zaC:OpR X (compareOp .NotEq) rNe:=by
 intro pins s σ H x y v u Q I rx ry h
 obtain ⟨hs,q⟩:=h
 cases x with
 | non =>
  cases rx
  cases y with
  | non=>cases ry;exact PySem.EqNone.ne_none_none (Zag I q (by simp))
  | bl j=>cases ry;exact PySem.EqNone.ne_none_bool (Zag I q (by simp))
  | int j=>obtain ⟨t',rfl⟩:=ry;exact PySem.EqNone.ne_none_int (Zag I q (by simp))
  | str j=>obtain ⟨t',rfl⟩:=ry;exact PySem.EqNone.ne_none_str (Zag I q (by simp))
  | _=>exact absurd (show false=true from hs) Bool.false_ne_true
 | bl i =>
  cases rx
  cases y with
  | non=>cases ry;exact PySem.EqNone.ne_bool_none (Zag I q (by simp))
  | bl j=>cases ry;exact ne_bool (Zag I q (congrArg not xbf))
  | str j=>obtain ⟨t',rfl⟩:=ry;exact PySem.EqMixed.ne_bool_str (Zag I q (by simp))
  | _=>exact absurd (show false=true from hs) Bool.false_ne_true
 | int i =>
  obtain ⟨t,rfl⟩:=rx
  cases y with
  | non=>cases ry;exact PySem.EqNone.ne_int_none (Zag I q (by simp))
  | int j=>obtain ⟨t',rfl⟩:=ry;exact ne_int (Zag I q (congrArg not ZaX))
  | str j=>obtain ⟨t',rfl⟩:=ry;exact PySem.EqMixed.ne_int_str (Zag I q (by simp))
  | _=>exact absurd (show false=true from hs) Bool.false_ne_true
 | str i =>
  obtain ⟨t,rfl⟩:=rx
  cases y with
  | non=>cases ry;exact PySem.EqNone.ne_str_none (Zag I q (by simp))
  | bl j=>cases ry;exact PySem.EqMixed.ne_str_bool (Zag I q (by simp))
  | int j=>obtain ⟨t',rfl⟩:=ry;exact PySem.EqMixed.ne_str_int (Zag I q (by simp))
  | str j=>obtain ⟨t',rfl⟩:=ry;exact ne_str (Zag I q (congrArg not YaX))
  | _=>exact absurd (show false=true from hs) Bool.false_ne_true
 | byt i =>
  obtain ⟨t,rfl⟩:=rx
  cases y with
  | byt j=>obtain ⟨t',rfl⟩:=ry;exact PySem.W.ne_bytes (Zag I q (congrArg not xaX))
  | _=>exact absurd (show false=true from hs) Bool.false_ne_true
 | _=>cases y <;> exact absurd (show false=true from hs) Bool.false_ne_true
theorem xaF:OpR X (compareOp .Lt) (rI0 fun i j=>.bl (decide (i < j))):=opB0 fun _ _ _ _ _ _ _ q=>lt_int q
theorem op_le:OpR X (compareOp .LtE) (rI0 fun i j=>.bl (decide (i≤j))):=opB0 fun _ _ _ _ _ _ _ q=>le_int q
theorem Ya8:OpR X (compareOp .Gt) (rI0 fun i j=>.bl (decide (j < i))):=opB0 fun _ _ _ _ _ _ _ q=>gt_int q
theorem op_ge:OpR X (compareOp .GtE) (rI0 fun i j=>.bl (decide (j≤i))):=opB0 fun _ _ _ _ _ _ _ q=>ge_int q
theorem nomark (b:Expr) {op:CmpOp} (h:op≠.In:=by decide) (h2:op≠.NotIn:=by decide):behindInMarks op b=false:=by
 have e1:(op == CmpOp.In)=false:=by cases op <;> first | rfl | exact absurd rfl h
 have e2:(op == CmpOp.NotIn)=false:=by cases op <;> first | rfl | exact absurd rfl h2
 cases b <;> simp [behindInMarks,e1,e2]
theorem YaA {op:CmpOp} {r:R2} (ho:OpR X (compareOp op) r) (ha:PE X a ta) (hb:PE X b tb) (hm:behindInMarks op b=false):PE X (.Compare a [op] [b] pos) (tOp r ta tb):=by
 intro pins s σ H Q I h
 exact wpAny_Compare1 (binT ha hb I h fun v u s2 x y H2 I2 rx ry q=>ho pins s2 σ H2 x y v u Q I2 rx ry q) hm
noncomputable def tTest (t:TE):TT:=fun σ H Q=>t σ H fun x H'=>∃ k,x=.bl k∧Q k H'
theorem Xae {op:CmpOp} {r:R2} (ho:OpR X (compareOp op) r) (ha:PE X a ta) (hb:PE X b tb) (hm:behindInMarks op b=false):PT X (.Compare a [op] [b] pos) (tTest (tOp r ta tb)):=by
 intro pins s σ H Q I h
 refine wpAny_isTrue_Compare1 (thn (ha pins s σ H _ I h) fun v s1 ⟨x,H1,I1,r1,q1⟩=>thn (hb pins s1 σ H1 _ I1 q1) fun u s2 ⟨y,H2,I2,r2,q2⟩ =>
  thn (ho pins s2 σ H2 x y v u _ I2 r1 r2 q2) fun c s3 ⟨z,H3,I3,r3,k,e,q3⟩=>?_) hm
 subst e
 cases r3
 exact wpAny_truthy_bool ⟨H3,I3,q3⟩
theorem line63:(sizeLine:Nat) < 2 ^ 63:=by rw [sizeLine_eq];decide
theorem vals1 {x:V} {us:List Value} (r:Vals [x] us):∃ u,us=[u]∧RelV x u:=by
 cases r with
 | cons r1 r2=>cases r2;exact ⟨_,rfl,r1⟩
theorem vals2 {x y:V} {us:List Value} (r:Vals [x,y] us):∃ u w',us=[u,w']∧RelV x u∧RelV y w':=by
 cases r with
 | cons r1 r2 =>
  cases r2 with
  | cons r3 r4=>cases r4;exact ⟨_,_,rfl,r1,r3⟩
theorem YaP:CallR X (.builtin "abs") (fun xs H Q=>∃ i,xs=[.int i]∧Q (.int (if i < 0 then -i else i)) H):=by
 intro pins s σ H xs us Q I r h
 obtain ⟨i,rfl,q⟩:=h
 obtain ⟨u,rfl,t,rfl⟩:=vals1 r
 exact call_abs_int fun u tk=>⟨.int (if i < 0 then -i else i),H,I.tok _,⟨_,rfl⟩,q⟩
theorem Xam (hc:X.calm=true):CallR X (.builtin "max") (fun xs H Q=>∃ i j,xs=[.int i,.int j]∧Q (.int (if j > i then j else i)) H):=by
 intro pins s σ H xs us Q I r h
 obtain ⟨i,j,rfl,q⟩:=h
 obtain ⟨u,w',rfl,⟨t,rfl⟩,⟨t',rfl⟩⟩:=vals2 r
 refine max_two_ints (I.ok.hd hc) fun h' tk k=>⟨_,H,I.kept k,?_,q⟩
 by_cases hj:j > i
 ·rw [if_pos hj,if_pos hj];exact ⟨_,rfl⟩
 ·rw [if_neg hj,if_neg hj];exact ⟨_,rfl⟩
theorem XaX (hc:X.calm=true):CallR X (.builtin "min") (fun xs H Q=>∃ i j,xs=[.int i,.int j]∧Q (.int (if j < i then j else i)) H):=by
 intro pins s σ H xs us Q I r h
 obtain ⟨i,j,rfl,q⟩:=h
 obtain ⟨u,w',rfl,⟨t,rfl⟩,⟨t',rfl⟩⟩:=vals2 r
 refine min_two_ints (I.ok.hd hc) fun h' tk k=>⟨_,H,I.kept k,?_,q⟩
 by_cases hj:j < i
 ·rw [if_pos hj,if_pos hj];exact ⟨_,rfl⟩
 ·rw [if_neg hj,if_neg hj];exact ⟨_,rfl⟩
theorem zaY:CallR X (.type "int") (fun xs H Q=>(∃ i,xs=[.int i]∧Q (.int i) H)∨∃ k,xs=[.bl k]∧Q (.int (if k then 1 else 0)) H):=by
 intro pins s σ H xs us Q I r h
 rcases h with ⟨i,rfl,q⟩ | ⟨k,rfl,q⟩
 ·obtain ⟨u,rfl,t,rfl⟩:=vals1 r
  exact call_int_int ⟨.int i,H,I,⟨_,rfl⟩,q⟩
 ·obtain ⟨u,rfl,r1⟩:=vals1 r
  cases r1
  exact call_int_bool ⟨.int (if k then 1 else 0),H,I.tok _,⟨_,rfl⟩,q⟩
end
end L2
namespace L2
open PySem PySem.Spec PyProof.Rows
section
variable {prog:Program} {w:World} {A:Around} {E:Value→Shared→Prop} {s:Shared} {K:PySem.W.Frag} {x dx C f:Addr} {mA:Str→Option Value} {name:Str} {v:Value}
end
section
variable {P:Program} {w:World} {H H':Hp} {h h':Heap} {a C dx:Addr} {fs fs':List (Str×V)}
end
structure Cls (K:PySem.W.Frag) (C:Addr):Prop where
 pg:PySem.W.plainGet K C Str.empty=true
 hd:PySem.W.hasDictIn K C=true
 po:PySem.W.plainOver K C=true
 sa:PySem.W.findIn K (.ref C) "__setattr__" = some (some (.builtin "object.__setattr__"))
structure Con (K:PySem.W.Frag) (C:Addr) (f:Str) (v:V) (u:Value):Prop where
 at_:PySem.W.findIn K (.ref C) f=some (some u)
 rel:RelV v u
 get:PySem.W.specialIn K u "__get__" = some none
 cp:PySem.W.copiedNames.contains f=false
section
variable {X:Cx} {pins:List (Addr×Obj)} {σ:St} {H:Hp} {s:Shared} {a C dx:Addr} {fs:List (Str×V)} {f:Str} {v:V} {A:Around} {E:Value→Shared→Prop}
end
section
variable {X:Cx} {o e value:Expr} {f:Str} {pos pos' tpos:Pos} {ta tv:TE}
end
section
variable {X:Cx} {pins:List (Addr×Obj)} {σ:St} {H:Hp} {s:Shared} {A:Around} {E:Value→Shared→Prop} {Q:Value→Shared→Prop} {c:Value} {b:Bool}
inductive TyOf (K:PySem.W.Frag) (H:Hp):V→Value→Prop where
 | non:TyOf K H .non (.type "NoneType")
 | bl (x:Bool):TyOf K H (.bl x) (.type "bool")
 | int (i:Int):TyOf K H (.int i) (.type "int")
 | str (x:Str):TyOf K H (.str x) (.type "str")
 | flt (x:UInt64):TyOf K H (.flt x) (.type "float")
 | lst {a:Addr} {xs:List V} (e:H a=some (.lst xs)):TyOf K H (.ref a) (.type "list")
 | frz {a:Addr} {o:Obj} {xs:List V} (e:H a=some (.frz o (.lst xs))):TyOf K H (.ref a) (.type "list")
 | tup {a:Addr} {xs:List V} (e:H a=some (.tup xs)):TyOf K H (.ref a) (.type "tuple")
 | dK {a:Addr} {kvs:List (Key×V)} (e:H a=some (.dK kvs)):TyOf K H (.ref a) (.type "dict")
 | dT {a:Addr} {kvs:List (List Key×V)} (e:H a=some (.dT kvs)):TyOf K H (.ref a) (.type "dict")
 | ins {a C dx:Addr} {fs:List (Str×V)} (e:H a=some (.ins C dx fs)) (cl:Cls K C) (ha:PySem.W.findIn K (.ref C) "__class__" = some (some (.builtin "object.__class__")))
   (hn:PySem.W.specialIn K (.builtin "object.__class__") "__get__" = some (some (.builtin "getset_descriptor.__get__"))) (htk:PySem.W.takesIn K (.builtin "object.__class__")=some true)
   (hm:PySem.W.mroIn K C (.type "object")=some true):TyOf K H (.ref a) (.ref C)
end
end L2
namespace L2
open PySem PySem.Spec PyProof.Rows
structure Room (k:Nat) (A:Around):Prop where
 hd:A.handled=none
 dp:A.depth + 3 * k + 5 < recursionLimit
 un:A.units + 16 * k + 200 < cLine
 gd:A.guards=some []
theorem Room.mono {j k:Nat} {A:Around} (r:Room k A) (h:j≤k):Room j A:=⟨r.hd,by have:=r.dp;omega,by have:=r.un;omega,r.gd⟩
theorem Room.deeper {k:Nat} {A:Around} (r:Room (k + 1) A) (env:Env):Room k (A.deeper env) :=
 ⟨r.hd,by have:=r.dp;show A.depth + 1 + 3 * k + 5 < _;omega,by have:=r.un;show A.units + 3 + 16 * k + 200 < _;omega,r.gd⟩
theorem Room.depth {k:Nat} {A:Around} (r:Room k A):A.depth < recursionLimit:=by have:=r.dp;omega
theorem Room.units {k:Nat} {A:Around} (r:Room k A):A.units + 64 < cLine:=by have:=r.un;omega
noncomputable def tNil:TA:=fun _ H Q=>Q [] H
noncomputable def tCons (ta:TE) (tr:TA):TA:=fun σ H Q=>ta σ H fun x H1=>tr σ H1 fun xs H2=>Q (x :: xs) H2
section
variable {X:Cx} {e:Expr} {es:List Expr} {te:TE} {t:TA} {pos:Pos}
theorem Xab:PA X [] tNil:=fun _ _ _ _ H Q I h=>Calls.spliced_nil ⟨[],H,I,.nil,h⟩
theorem zaa (ha:PE X e te) (hr:PA X es t) (hs:starEach (e :: es) X.env=(false,eval e X.env) :: starEach es X.env:=by rfl):PA X (e :: es) (tCons te t):=by
 intro pos pins s σ H Q I h
 rw [hs]
 show wpAny _ _ (spliced ((false,eval e X.env) :: backTo pos (starEach es X.env))) _ _ s
 refine Calls.spliced_cons (thn (ha pins s σ H _ I h) fun u s1 ⟨x,H1,I1,r1,q1⟩=>?_)
 exact thn (hr pos pins s1 σ H1 _ I1 q1) fun us s2 ⟨xs,H2,I2,r2,q2⟩=>⟨x :: xs,H2,I2,.cons r1 r2,q2⟩
noncomputable def tTup (t:TA):TE:=fun σ H Q=>t σ H fun xs H1=>xs.length≤sizeLine∧∀ p,H1 p=none→Q (.ref p) (upd H1 p (.tup xs))
noncomputable def tLst (t:TA):TE:=fun σ H Q=>t σ H fun xs H1=>xs.length≤sizeLine∧∀ p,H1 p=none→Q (.ref p) (upd H1 p (.lst xs))
theorem xai {x1} (h:PA X es t):PE X (.Tuple es x1 pos) (tTup t):=by
 intro pins s σ H Q I hq
 refine wpAny_Tuple_spliced (thn (h pos pins s σ H _ I hq) fun us s1 ⟨xs,H1,I1,r,z,q⟩=>⟨by rw [← r.length];exact z,?_⟩)
 have hf:H1 s1.heap.objs.size=none:=I1.hok.fresh (Nat.le_refl _)
 refine ⟨.ref s1.heap.objs.size,upd H1 s1.heap.objs.size (.tup xs),I1.laid (t':=s1.toks) (fun b u e=>Heap.get?_push_of_some _ e) (Nat.le_refl _) ?_,rfl,q _ hf⟩
 exact ⟨z,us,r,⟨_,Heap.get?_push_size _ rfl,rfl,rfl,_,rfl⟩⟩
theorem yaD (h:PA X es t):PE X (.List es pos) (tLst t):=by
 intro pins s σ H Q I hq
 refine wpAny_List_spliced (thn (h pos pins s σ H _ I hq) fun us s1 ⟨xs,H1,I1,r,z,q⟩=>⟨by rw [← r.length];exact z,?_⟩)
 have hf:H1 s1.heap.objs.size=none:=I1.hok.fresh (Nat.le_refl _)
 refine ⟨.ref s1.heap.objs.size,upd H1 s1.heap.objs.size (.lst xs),I1.laid (t':=s1.toks) (fun b u e=>Heap.get?_push_of_some _ e) (Nat.le_refl _) ?_,rfl,q _ hf⟩
 exact ⟨z,us,0,r,Heap.get?_push_size _ rfl⟩
end
abbrev Sp:=List V→Hp→VK→XK→Prop
abbrev CXT:=List Env→Hp→Shared→XK→Value→Shared→Prop
structure Env0 (P:Program) (w:World) (K:PySem.W.Frag) (mg:Str→Option Value) (base:Heap) (A:Around) (outer:List Env) (s:Shared) (H:Hp):Prop where
 frames:A.frames=some outer
 mod:Mod K mg base
 bs:∀ b o,base.get? b=some o→s.heap.get? b=some o∧H b=none
 bsz:base.objs.size≤s.heap.objs.size
 funs:s.heap.FunFrames base outer
 frf:∀ b∈frs outer,H b=none
 hok:HOk P w H s.heap
 bare:AllBare s.gens
noncomputable def CE (outer:List Env) (P:Program) (w:World) (H:Hp) (s:Shared) (Q:VK) (u:Value) (s':Shared):Prop :=
 ∃ v H',s'.os=s.os∧AllBare s'.gens∧Un (frs outer) [] H H' s.heap s'.heap∧HOk P w H' s'.heap∧RelV v u∧Q v H'
noncomputable def CR (CX:CXT) (outer:List Env) (P:Program) (w:World) (H:Hp) (s:Shared) (Q:VK) (E:XK) (r:Result) (s':Shared):Prop :=
 match r with
 | .ok (.ret u)=>CE outer P w H s Q u s'
 | .ok _=>False
 | .error e=>CX outer H s E e s'
structure FnOk (P:Program) (w:World) (K:PySem.W.Frag) (mg:Str→Option Value) (base:Heap) (CX:CXT) (k:Nat) (f:Addr) (fd:FuncData) (ps:List Str) (sp:Sp):Prop where
 len:∀ vs H Q E,sp vs H Q E→vs.length=ps.length
 run:∀ (A:Around) (outer:List Env) (s:Shared) (H:Hp) (args:Args) (us:List Value) (vs:List V) (Q:VK) (E:XK),Room k A→Env0 P w K mg base A outer s H→BindsTo s fd args (ps.zip us)→Vals vs us→sp vs H Q E →
  codeAny (model P w) A (.call (.ref f) args) (CR CX outer P w H s Q E) s
theorem FnOk.imp {P:Program} {w:World} {K:PySem.W.Frag} {mg:Str→Option Value} {base:Heap} {CX:CXT} {k:Nat} {f:Addr} {fd:FuncData} {ps:List Str} {sp sp':Sp} (F:FnOk P w K mg base CX k f fd ps sp)
  (h:∀ vs H Q E,sp' vs H Q E→sp vs H Q E):FnOk P w K mg base CX k f fd ps sp' :=
 ⟨fun vs H Q E q=>F.len vs H Q E (h _ _ _ _ q),fun A outer s H args us vs Q E hr he hb hv hs=>F.run A outer s H args us vs Q E hr he hb hv (h _ _ _ _ hs)⟩
section
variable {X:Cx} {pins:List (Addr×Obj)} {σ:St} {H:Hp} {s s':Shared}
theorem Inv.env0 (I:Inv X pins σ H s):Env0 X.prog X.w X.K X.mg X.base X.A X.stack s H :=
 ⟨I.ok.frames,I.ok.mod,I.bs,Nat.le_trans I.ok.bsz I.sz,I.stack,I.stkFree,I.hok,I.bare⟩
theorem Inv.after {Q:VK} {u:Value} (I:Inv X pins σ H s) (h:CE X.stack X.prog X.w H s Q u s'):EP X pins σ Q u s':=by
 obtain ⟨v,H',os,bare,un,hok,r,q⟩:=h
 obtain ⟨hh,g,d,t,os'⟩:=s'
 obtain rfl:os'=s.os:=os
 exact ⟨v,H',I.call (h':=hh) (g':=g) (d':=d) (t':=t) (ch:=[]) un hok bare (fun b z=>absurd z (by simp)),r,q⟩
end
noncomputable def tCall (sp:Sp) (dvs:List V) (E:XK) (t:TA):TE:=fun σ H Q=>t σ H fun vs H1=>sp (vs ++ dvs) H1 Q E
noncomputable def Binds (K:PySem.W.Frag) (fd:FuncData) (ps:List Str) (ds:List Value):Prop :=
 ∀ (s:Shared) (us:List Value),K.In s.heap→(us ++ ds).length=ps.length→BindsTo s fd ⟨us,[]⟩ (ps.zip (us ++ ds))
theorem Binds.all {K:PySem.W.Frag} {fd:FuncData} {ps:List Str} (h:∀ us:List Value,us.length=ps.length→bindArgs fd ⟨us,[]⟩=pure (ps.zip us)):Binds K fd ps []:=fun s us _ hl=>by
 rw [List.append_nil] at hl ⊢
 exact .of_eq (h us hl)
noncomputable def Passes (CX:CXT) (X:Cx) (E:XK):Prop:=∀ (pins:List (Addr×Obj)) (σ:St) (H:Hp) (s:Shared) (e:Value) (s':Shared),Inv X pins σ H s→CX X.stack H s E e s'→X.xe e s'
section
variable {X:Cx} {CX:CXT} {k:Nat} {f C:Addr} {fd:FuncData} {ps:List Str} {sp:Sp} {dvs:List V} {ds:List Value} {E:XK} {x m:Str} {p pos apos:Pos} {e o:Expr} {es:List Expr} {ta:TE} {t:TA}
theorem run_fn {pins:List (Addr×Obj)} {σ:St} {H:Hp} {s:Shared} {Q:VK} {us:List Value} {vs:List V} (F:FnOk X.prog X.w X.K X.mg X.base CX k f fd ps sp) (hr:Room k X.A) (hb:Binds X.K fd ps ds) (hd:Vals dvs ds) (hx:Passes CX X E)
  (I:Inv X pins σ H s) (r:Vals vs us) (h:sp (vs ++ dvs) H Q E):wpAny (model X.prog X.w) X.A (call (.ref f) us) (EP X pins σ Q) X.xe s:=by
 have r2:Vals (vs ++ dvs) (us ++ ds):=r.append hd
 have hl:(us ++ ds).length=ps.length:=by rw [← r2.length];exact F.len _ _ _ _ h
 refine wpAny_call (codeAny_mono (F.run X.A X.stack s H ⟨us,[]⟩ (us ++ ds) (vs ++ dvs) Q E hr I.env0 (hb s us I.kIn hl) r2 h) fun r s' hq=>?_)
 cases r with
 | error e=>exact hx pins σ H s e s' I hq
 | ok fl =>
  cases fl with
  | ret u=>exact I.after hq
  | next=>exact False.elim hq
  | brk=>exact False.elim hq
  | cont=>exact False.elim hq
theorem Xaf (F:FnOk X.prog X.w X.K X.mg X.base CX k f fd ps sp) (hr:Room k X.A) (hg:Gl X x) (hm:X.mg x=some (.ref f)) (hk:PySem.W.keepIn X.K (.ref f)=true) (hb:Binds X.K fd ps ds) (hd:Vals dvs ds) (hx:Passes CX X E)
  (ha:PA X (e :: es) t) (hdb:(x == ("__debug__" : Str))=false:=by decide) (he:starEach (e :: es) X.env=(false,eval e X.env) :: starEach es X.env:=by rfl) (hpl:(backTo pos (starEach es X.env)).any (·.1)=false:=by rfl) :
  PE X (.Call (.Name x p) (e :: es) [] pos) (tCall sp dvs E t):=by
 intro pins s σ H Q I h
 refine wpAny_Call_Name_kw (zaA I hg hm ?_ hdb)
 refine PySem.W.callWith_K (h₀:=X.base) I.ok.mod.kin hk (thn (ha pos pins s σ H _ I h) fun us s1 ⟨vs,H1,I1,r,q⟩=>⟨I1.kIn,?_⟩) he hpl
 exact run_fn F hr hb hd hx I1 r q
end
section
variable {X:Cx} {CX:CXT} {k:Nat} {f C:Addr} {fd:FuncData} {ps ks:List Str} {sp:Sp} {E:XK} {x m:Str} {p pos apos kpos:Pos} {e o:Expr} {es:List Expr} {kws:List Keyword} {te ta:TE} {t tk:TA} {nm:Option Str}
variable {g:List Value→List Value→List Value} {gV:List V→List V→List V}
end
structure FnScope (N P:List Str) (sc:Scope):Prop where
 kind:sc.kind=.function
 co:sc.isCoroutine=false
 gen:sc.isGenerator=false
 nd:N.Nodup
 pre:N.take P.length=P
 par:∀ x∈P,sc.names.lookup x=some .local∨sc.names.lookup x=some .cell
 nofree:∀ y∈sc.names,y.2≠.free
theorem zaJ {kindOf:Str→Option NameKind} {x:Str}:∀ {binds:List (Str×Value)} {m:Str→Option Value},(∀ v,(x,v) ∉ binds)→bindL kindOf binds m x=m x
 | [],_,_=>rfl
 | (n,v) :: r,m,h=>by
  unfold bindL
  rw [zaJ fun w hw=>h w (List.mem_cons_of_mem _ hw)]
  split
  ·have:x≠n:=by rintro rfl;exact h v List.mem_cons_self
   simp [this]
  ·rfl
theorem yaJ {kindOf:Str→Option NameKind} {x:Str}:∀ {binds:List (Str×Value)} {m:Str→Option Value},(∀ v,(x,v) ∉ binds)→bindC kindOf binds m x=m x
 | [],_,_=>rfl
 | (n,v) :: r,m,h=>by
  unfold bindC
  rw [yaJ fun w hw=>h w (List.mem_cons_of_mem _ hw)]
  split
  ·rfl
  ·have:x≠n:=by rintro rfl;exact h v List.mem_cons_self
   simp [this]
theorem ZaJ {kindOf:Str→Option NameKind} {x:Str} {v:Value}:∀ {P:List Str} {vs:List Value} {i:Nat} {m:Str→Option Value},P.Nodup→P[i]?=some x→vs[i]?=some v→kindOf x=some .local →
  bindL kindOf (P.zip vs) m x=some v
 | [],_,_,_,_,h,_,_=>by simp at h
 | _ :: _,[],_,_,_,_,h,_=>by simp at h
 | p :: P,w :: vs,0,m,nd,h1,h2,hk=>by
  simp at h1 h2;subst h1;subst h2
  show bindL kindOf ((p,w) :: P.zip vs) m p=_
  unfold bindL
  rw [zaJ fun v hv=>(List.nodup_cons.mp nd).1 (List.of_mem_zip hv).1,if_pos hk]
  simp
 | p :: P,w :: vs,i + 1,m,nd,h1,h2,hk=>by
  show bindL kindOf ((p,w) :: P.zip vs) m x=_
  unfold bindL
  exact ZaJ (i:=i) (List.nodup_cons.mp nd).2 (by simpa using h1) (by simpa using h2) hk
theorem YaJ {kindOf:Str→Option NameKind} {x:Str} {v:Value}:∀ {P:List Str} {vs:List Value} {i:Nat} {m:Str→Option Value},P.Nodup→P[i]?=some x→vs[i]?=some v→kindOf x≠some .local →
  bindC kindOf (P.zip vs) m x=some v
 | [],_,_,_,_,h,_,_=>by simp at h
 | _ :: _,[],_,_,_,_,h,_=>by simp at h
 | p :: P,w :: vs,0,m,nd,h1,h2,hk=>by
  simp at h1 h2;subst h1;subst h2
  show bindC kindOf ((p,w) :: P.zip vs) m p=_
  unfold bindC
  rw [yaJ fun v hv=>(List.nodup_cons.mp nd).1 (List.of_mem_zip hv).1,if_neg hk]
  simp
 | p :: P,w :: vs,i + 1,m,nd,h1,h2,hk=>by
  show bindC kindOf ((p,w) :: P.zip vs) m x=_
  unfold bindC
  exact YaJ (i:=i) (List.nodup_cons.mp nd).2 (by simpa using h1) (by simpa using h2) hk
noncomputable def start (N:List Str) (vs:List V):St:=vs.map some ++ List.replicate (N.length - vs.length) none
noncomputable def cxOf (CX:CXT) (P:Program) (w:World) (K:PySem.W.Frag) (mg:Str→Option Value) (base:Heap) (N:List Str) (qual:Str) (scope:Scope) (f:Addr) (cd:Value) (A:Around) (outer:List Env) (s:Shared) (H:Hp) (E:XK):Cx where
 prog:=P
 w:=w
 K:=K
 mg:=mg
 base:=base
 A:=A.deeper (envOfC qual scope s.heap.objs.size f cd)
 N:=N
 s₀:=s
 H₀:=H
 env:=envOfC qual scope s.heap.objs.size f cd
 outer:=outer
 stack:=envOfC qual scope s.heap.objs.size f cd :: outer
 ex:=[]
 calm:=true
 fn:=fun _=>true
 pn:=[]
 xe:=fun e s'=>wpAny (model P w) (A.deeper (envOfC qual scope s.heap.objs.size f cd)) («leaving» (envOfC qual scope s.heap.objs.size f cd) e) (fun _ s''=>CX outer H s E e s'') (fun e' s''=>CX outer H s E e' s'') s'
theorem xaP {sc:Scope} {n:Nat} {x:Str} (h:sc.names.lookup x=some .cell):∃ c,(cellsFrom n sc.names []).lookup x=some c:=by
 have q:=PySem.W.cellsFrom_some sc.names n [] (.inl h)
 exact Option.isSome_iff_exists.mp q
theorem yaY {CX:CXT} {P:Program} {w:World} {K:PySem.W.Frag} {mg:Str→Option Value} {base:Heap} {N ps:List Str} {qual:Str} {scope:Scope} {f:Addr} {cd:Value} {A:Around} {outer:List Env} {s s1:Shared} {H:Hp} {E:XK} {us:List Value} {vs:List V}
  (S:FnScope N ps scope) (hd:A.handled=none) (e0:Env0 P w K mg base A outer s H) (hl:vs.length=ps.length) (r:Vals vs us)
  (x:InCallC s s.heap.objs.size (bindL (envOfC qual scope s.heap.objs.size f cd).kindOf (ps.zip us) fun _=>none) (cellsFrom (s.heap.objs.size + 1) scope.names []) (bindC (envOfC qual scope s.heap.objs.size f cd).kindOf (ps.zip us) fun _=>none) s1) :
  Inv (cxOf CX P w K mg base N qual scope f cd A outer s H E) [] (start N vs) H s1:=by
 have hpl:ps.length≤N.length:=by have:=congrArg List.length S.pre;rw [List.length_take] at this;omega
 obtain ⟨h1,tk,rfl,hk⟩:=x.done
 have noA:∀ b:Addr,b ∉ (cxOf CX P w K mg base N qual scope f cd A outer s H E).ex:=fun b z=>absurd (show b∈([]:List Addr) from z) (by simp)
 refine ⟨⟨e0.mod,S.kind,rfl,rfl,Nat.le_refl _,fun y z c h1 h2=>?_,fun y hy=>?_,fun y c _ h=>?_,fun _=>hd,Around.frames_deeper e0.frames,.inr ⟨rfl,rfl⟩,fun b z=>absurd z (noA b),e0.bs,e0.bsz,fun b _ _=>noA b,fun b z=>absurd z (noA b),e0.funs,e0.frf⟩,
  rfl,e0.bare,Un.kept hk,⟨_,x.toInCall.ns,fun i y v h1 h2 h3=>?_⟩,fun y c h=>⟨_,x.cell y c h⟩,e0.hok.fresh (Nat.le_refl _),fun y c h=>?_,fun p hp=>absurd (show p∈([]:List (Addr×Obj)) from hp) (by simp),e0.hok.kept hk,?_⟩
 ·exact name_of_addr x.apart (PySem.mem_of_lookup h1) (PySem.mem_of_lookup h2)
 ·have hy:scope.names.lookup y=some .cell∨scope.names.lookup y=some .free:=hy
  rcases hy with hy | hy
  ·exact xaP hy
  ·exact absurd rfl (S.nofree _ (PySem.mem_of_lookup hy))
 ·exact Nat.le_of_lt (x.above y c (PySem.mem_of_lookup h))
 ·have hi:i < vs.length:=by
   unfold start at h2
   by_cases hi:i < vs.length
   ·exact hi
   ·rw [List.getElem?_append_right (by simpa using hi)] at h2
    rw [List.getElem?_replicate] at h2
    split at h2 <;> cases h2
  have ha:vs[i]?=some v:=by
   unfold start at h2
   rw [List.getElem?_append_left (by simpa using hi),List.getElem?_map] at h2
   cases e:vs[i]? with
   | none=>rw [e] at h2;cases h2
   | some a=>rw [e] at h2;cases h2;rfl
  obtain ⟨u,hu,rv⟩:=r.get ha
  have hp:ps[i]?=some y:=by
   rw [← S.pre,List.getElem?_take_of_lt (by omega)];exact h1
  have ndP:ps.Nodup:=by rw [← S.pre];exact S.nd.sublist (List.take_sublist _ _)
  refine ⟨u,rv,?_⟩
  rcases S.par y (List.mem_of_getElem? hp) with k | k
  ·exact .inl ⟨k,ZaJ ndP hp hu k⟩
  ·obtain ⟨c,e⟩:=xaP (n:=s.heap.objs.size + 1) k
   refine .inr ⟨.inl k,c,e,?_⟩
   have q:=x.cell y c e
   rw [YaJ ndP hp hu (by show scope.names.lookup y≠_;rw [k];decide)] at q
   exact q
 ·exact e0.hok.fresh (Nat.le_of_lt (x.above y c (PySem.mem_of_lookup h)))
 ·unfold start
  show _=N.length
  rw [List.length_append,List.length_map,List.length_replicate]
  omega
theorem fn_of {CX:CXT} {P:Program} {w:World} {K:PySem.W.Frag} {mg:Str→Option Value} {base:Heap} {k:Nat} {f:Addr} {name qual:Str} {params:Arguments} {body:List Stmt} {scope:Scope} {dV kV doc pm cdv ct oc:Value} {an od:Option Addr}
  {osl:Array (Option Value)} {N ps:List Str} {sp:Sp} (lk:K.lookup f=some ⟨oc,od,.func (PySem.W.fnOf name qual params body scope dV kV doc pm an cdv ct),osl⟩) (hcd:PySem.W.codeIn K cdv qual=true) (S:FnScope N ps scope)
  (len:∀ vs H Q E,sp vs H Q E→vs.length=ps.length)
  (hbody:∀ (A:Around) (outer:List Env) (s:Shared) (H:Hp) (vs:List V) (Q:VK) (E:XK),Room k (A.deeper (envOfC qual scope s.heap.objs.size f cdv))→sp vs H Q E →
   ∃ t,PSs (cxOf CX P w K mg base N qual scope f cdv A outer s H E) body t∧t { nx:=fun _ H'=>Q .non H',rt:=Q } (start N vs) H) :
  FnOk P w K mg base CX (k + 1) f (PySem.W.fnOf name qual params body scope dV kV doc pm an cdv ct) ps sp:=by
 refine ⟨len,fun A outer s H args us vs Q E hr e0 hb r hsp=>?_⟩
 have hl:=len _ _ _ _ hsp
 have KX:K.In s.heap:=e0.mod.kin.keeps fun b o e=>(e0.bs b o e).1
 have lim:s.heap.NoLimit:=e0.mod.nolimit.keeps fun b o e=>(e0.bs b o e).1
 have hkind:∀ y∈ps.zip us,scope.names.lookup y.1=some .local∨(scope.names.lookup y.1=some .cell∧((cellsFrom (s.heap.objs.size + 1) scope.names []).lookup y.1).isSome=true):=fun ⟨n,v⟩ hy=>by
  rcases S.par n (List.of_mem_zip hy).1 with q | q
  ·exact .inl q
  ·exact .inr ⟨q,PySem.W.cellsFrom_some _ _ _ (.inl q)⟩
 refine codeAny_call_function hr.depth (KX _ _ lk) rfl S.co S.gen rfl (PySem.W.codeRec_of KX hcd) (hb _ _ _ _ ?_)
 refine wpAny_newFunctionEnv_cells S.kind hkind fun env he s1 x=>?_
 subst he
 refine ⟨lim.keeps x.toInCall.keep,codeAny_func ?_⟩
 obtain ⟨t,ht,hq⟩:=hbody A outer s H vs Q E (hr.deeper _) hsp
 have I:Inv (cxOf CX P w K mg base N qual scope f cdv A outer s H E) [] (start N vs) H s1:=yaY S hr.hd e0 hl r x
 refine wpAny_mono (ht [] s1 (start N vs) H _ I hq) (fun fl s' hs=>?_) fun e s' hs=>hs
 have fin:∀ {σ':St} {H':Hp} {v:V} {u:Value},Inv (cxOf CX P w K mg base N qual scope f cdv A outer s H E) [] σ' H' s'→RelV v u→Q v H'→CE outer P w H s Q u s' :=
  fun {σ' H' v u} J rv q=>⟨v,H',J.os,J.bare,J.base,J.hok,rv,q⟩
 cases fl with
 | ret u =>
  obtain ⟨v,σ',H',J,rv,q⟩:=hs
  exact fin J rv q
 | next =>
  obtain ⟨σ',H',J,q⟩:=hs
  exact fin (v:=V.non) (u:=Value.none) J rfl q
 | brk =>
  obtain ⟨_,_,_,q⟩:=hs
  exact False.elim q
 | cont =>
  obtain ⟨_,_,_,q⟩:=hs
  exact False.elim q
end L2
namespace L2
open PySem PySem.Spec PyProof.Rows
section
variable {X:Cx} {x:Str} {p pos:Pos} {e:Expr} {es:List Expr} {t:TA} {id T:String} {r:List V→Hp→VK→Prop}
noncomputable def tCB (r:List V→Hp→VK→Prop) (t:TA):TE:=fun σ H Q=>t σ H fun vs H1=>r vs H1 Q
theorem yae (hc:CallR X (.builtin id) r) (hg:Gl X x) (hm:X.mg x=none) (hv:bootBuiltins x=some (.builtin id)) (ha:PA X (e :: es) t) (hn:x≠"__name__" := by decide) (hdb:(x == ("__debug__" : Str))=false:=by decide)
  (he:starEach (e :: es) X.env=(false,eval e X.env) :: starEach es X.env:=by rfl) (hpl:(backTo pos (starEach es X.env)).any (·.1)=false:=by rfl):PE X (.Call (.Name x p) (e :: es) [] pos) (tCB r t):=by
 intro pins s σ H Q I h
 refine wpAny_Call_Name_kw (zaP I hg hm hv ?_ hn hdb)
 exact PyProof.Rows.callWith_builtin1 (thn (ha pos pins s σ H _ I h) fun us s1 ⟨vs,H1,I1,r1,q1⟩=>hc pins s1 σ H1 vs us Q I1 r1 q1) he hpl
theorem ZaY (hc:CallR X (.type T) r) (hg:Gl X x) (hm:X.mg x=none) (hv:bootBuiltins x=some (.type T)) (ha:PA X (e :: es) t) (hn:x≠"__name__" := by decide) (hdb:(x == ("__debug__" : Str))=false:=by decide)
  (he:starEach (e :: es) X.env=(false,eval e X.env) :: starEach es X.env:=by rfl) (hpl:(backTo pos (starEach es X.env)).any (·.1)=false:=by rfl):PE X (.Call (.Name x p) (e :: es) [] pos) (tCB r t):=by
 intro pins s σ H Q I h
 refine wpAny_Call_Name_kw (zaP I hg hm hv ?_ hn hdb)
 exact PyProof.Rows.callWith_type1 (thn (ha pos pins s σ H _ I h) fun us s1 ⟨vs,H1,I1,r1,q1⟩=>hc pins s1 σ H1 vs us Q I1 r1 q1) he hpl
end
end L2
namespace HT
open PySem PyProof.Rows
section
open PySem.SeqAt
open PySem.AutoSeq1 (wpAny_loadPart')
open PySem.MeetsSeq PySem.MeetsSeq2 PySem.MeetsSeq3
end
section
variable {prog:Program} {w:World} {A:Around} {E:Value→Shared→Prop} {s:Shared}
theorem ybk {t b:Addr} {vs ws:List Value} {Q:Value→Shared→Prop} (ht:IsTup s.heap t vs.toArray) (hb:IsTup s.heap b ws.toArray) (hv:vs≠[])
  (h1:ws=[]→Q (.ref t) s) (h2:ws≠[]→Q (.ref s.heap.objs.size) { s with heap:=s.heap.push { cls:=.type "tuple",data:=.seq (vs ++ ws).toArray } })
  (hsz:vs.length + ws.length≤sizeLine):wpAny (model prog w) A (binaryOp .Add (.ref t) (.ref b)) Q E s:=by
 obtain ⟨⟨cls,dd,data,sl⟩,ho,hc,n,hd⟩:=id ht
 obtain ⟨⟨cls2,dd2,data2,sl2⟩,ho2,hc2,n2,hd2⟩:=id hb
 simp only at hc hd hc2 hd2
 subst hc hd hc2 hd2
 have e:vs.toArray ++ ws.toArray=(vs ++ ws).toArray:=by simp
 by_cases hw:ws=[]
 ·exact concat_meets ⟨_,ho,rfl⟩ ⟨_,ho2,rfl⟩ noFill_tuple_add seq_tuple_add PySem.F.slot_tuple_add PySem.F.entry_tuple_add (PySem.F.args_tuple_add_2 _ _)
   (tuple_addW1 t b vs.toArray ws.toArray n n2 dd dd2 sl sl2 (by simpa using hv) (by simp [hw])) ⟨ho,ho2,h1 hw⟩
 ·refine concat_meets ⟨_,ho,rfl⟩ ⟨_,ho2,rfl⟩ noFill_tuple_add seq_tuple_add PySem.F.slot_tuple_add PySem.F.entry_tuple_add (PySem.F.args_tuple_add_2 _ _)
   (tuple_addW2 t b vs.toArray ws.toArray n n2 dd dd2 sl sl2 (by simpa using hv) (by simpa using hw) (by rw [List.size_toArray,List.size_toArray];exact hsz)) ⟨ho,ho2,?_⟩
  rw [e]
  exact h2 hw
noncomputable def sIx (n d:Nat):Option Int→Nat
 | none=>d
 | some v=>if v < 0 then (v + (n:Int)).toNat else min v.toNat n
end
end HT
namespace L2
open PySem PySem.Spec PyProof.Rows
abbrev TO:=St→Hp→(Option Int→Hp→Prop)→Prop
section
variable {X:Cx} {e:Expr} {te:TE} {lo hi:Option Expr} {tl th:TO} {pos p2:Pos}
noncomputable def rCatT (K:PySem.W.Frag):R2:=fun x y H Q=>∃ a b xs ys,x=.ref a∧y=.ref b∧SqT K H a xs∧SqT K H b ys∧xs≠[]∧xs.length + ys.length≤sizeLine ∧
 (ys=[]→Q (.ref a) H)∧(ys≠[]→∀ p,H p=none→Q (.ref p) (upd H p (.tup (xs ++ ys))))
theorem Vals.nil_iff {xs:List V} {us:List Value} (r:Vals xs us):us=[]↔xs=[]:=by
 cases r with
 | nil=>simp
 | cons _ _=>simp
theorem Zbk:OpR X (binaryOp .Add) (rCatT X.K):=by
 intro pins s σ H x y v u Q I rx ry h
 obtain ⟨a,b,xs,ys,rfl,rfl,ha,hb,hx,hz,q1,q2⟩:=h
 cases rx
 cases ry
 obtain ⟨its,r1,p1,_⟩:=I.tuple ha
 obtain ⟨its2,r2,p2,_⟩:=I.tuple hb
 refine HT.ybk p1 p2 (fun z=>hx (r1.nil_iff.mp z)) (fun z=>⟨.ref a,H,I,rfl,q1 (r2.nil_iff.mp z)⟩) (fun z=>?_) (by rw [← r1.length,← r2.length];exact hz)
 refine ⟨.ref s.heap.objs.size,_,I.laid (t':=s.toks) (o:=.tup (xs ++ ys)) (fun b ob q=>Heap.get?_push_of_some _ q) (Nat.le_refl _) ?_,rfl,q2 (fun w=>z (r2.nil_iff.mpr w)) _ (I.hok.fresh (Nat.le_refl _))⟩
 exact ⟨by rw [List.length_append];exact hz,_,r1.append r2,PTup.new _ _⟩
end
end L2
namespace L2
open PySem PySem.Spec PyProof.Rows
noncomputable def ixN (n:Nat) (i:Int):Option Nat:=if 0≤i then (if i < n then some i.toNat else none) else if -(n:Int)≤i then some (i + n).toNat else none
noncomputable def atI {α:Type} (xs:List α) (i:Int):Option α:=(ixN xs.length i).bind fun j=>xs[j]?
theorem YaY {n:Nat} {i:Int} {j:Nat} (h:ixN n i=some j):seqIndex? i n=some j∧j < n∧-(n:Int)≤i∧i < n:=by
 unfold ixN at h
 by_cases h0:0≤i
 ·rw [if_pos h0] at h
  by_cases h1:i < n
  ·rw [if_pos h1] at h
   have e:i.toNat=j:=Option.some.inj h
   exact ⟨by rw [seqIndex_of h0 h1,e],by omega,by omega,h1⟩
  ·rw [if_neg h1] at h;cases h
 ·rw [if_neg h0] at h
  by_cases h1:-(n:Int)≤i
  ·rw [if_pos h1] at h
   have e:(i + n).toNat=j:=Option.some.inj h
   exact ⟨by rw [seqIndex_neg (by omega) h1,e],by omega,h1,by omega⟩
  ·rw [if_neg h1] at h;cases h
theorem ZaM {α:Type} {xs:List α} {i:Int} {v:α} (h:atI xs i=some v):∃ j,seqIndex? i xs.length=some j∧xs[j]?=some v∧j < xs.length∧-(xs.length:Int)≤i∧i < xs.length:=by
 unfold atI at h
 cases e:ixN xs.length i with
 | none=>rw [e] at h;cases h
 | some j =>
  rw [e] at h
  obtain ⟨h1,h2,h3,h4⟩:=YaY e
  exact ⟨j,h1,h,h2,h3,h4⟩
theorem xaY {α:Type} {xs:List α} {j:Nat} {v:α} (h:xs[j]?=some v):atI xs (j:Int)=some v:=by
 have hj:j < xs.length:=(List.getElem?_eq_some_iff.mp h).1
 have e:ixN xs.length (j:Int)=some j:=by
  unfold ixN
  rw [if_pos (by omega),if_pos (by omega)];simp
 unfold atI;rw [e];exact h
noncomputable def PlainIx (b:Expr):Prop:=∀ o i,subscripted b false o i=operate [o,i] (getItem o i)
noncomputable def IxR (X:Cx) (r:R2):Prop :=
 ∀ (value slice:Expr) (pins:List (Addr×Obj)) (s:Shared) (σ:St) (H:Hp) (x y:V) (v u:Value) (Q:VK),Inv X pins σ H s→RelV x v→RelV y u→r x y H Q →
  subscripted slice false v u=operate [v,u] (getItem v u)→wpAny (model X.prog X.w) X.A (subscriptTail value slice v u) (EP X pins σ Q) X.xe s
noncomputable def MtR (X:Cx) (id:String) (r:V→List V→Hp→VK→Prop):Prop :=
 ∀ (pins:List (Addr×Obj)) (s:Shared) (σ:St) (H:Hp) (x:V) (xs:List V) (v:Value) (us:List Value) (Q:VK),Inv X pins σ H s→RelV x v→Vals xs us→r x xs H Q →
  wpAny (model X.prog X.w) X.A (call (.builtin id) (v :: us)) (EP X pins σ Q) X.xe s
section
variable {X:Cx} {a b:Expr} {ta tb:TE} {pos:Pos}
theorem Zaf {r:R2} (hr:IxR X r) (ha:PE X a ta) (hb:PE X b tb) (hs:PlainIx b):PE X (.Subscript a b pos) (tOp r ta tb):=by
 intro pins s σ H Q I h
 exact Subscript_ (binT ha hb I h fun v u s2 x y H2 I2 rx ry q=>hr a b pins s2 σ H2 x y v u Q I2 rx ry q (hs _ _))
noncomputable def rIxL (K:PySem.W.Frag):R2:=fun x y H Q=>∃ p xs i v,x=.ref p∧y=.int i∧SqL K H p xs∧atI xs i=some v∧Q v H
noncomputable def rIxT (K:PySem.W.Frag):R2:=fun x y H Q=>∃ p xs i v,x=.ref p∧y=.int i∧SqT K H p xs∧atI xs i=some v∧Q v H
noncomputable def rIxS:R2:=fun x y H Q=>∃ z i c,x=.str z∧y=.int i∧z.length≤sizeLine∧atI z.cps.toList i=some c∧Q (.str ⟨#[c]⟩) H
theorem zaq:IxR X (rIxL X.K):=by
 intro value slice pins s σ H x y v u Q I rx ry h hs
 obtain ⟨p,xs,i,z,rfl,rfl,hq,he,q⟩:=h
 cases rx
 obtain ⟨t,rfl⟩:=ry
 obtain ⟨its,r,pl,hz⟩:=I.list hq
 obtain ⟨j,h1,h2,h3,h4,h5⟩:=ZaM he
 obtain ⟨w,ew,rw'⟩:=r.get h2
 have hl:=r.length
 have hn:=line63
 have fin:EP X pins σ Q w s:=⟨z,H,I,rw',q⟩
 by_cases h0:0≤i
 ·have hj:i.toNat=j:=by
   rw [seqIndex_of h0 h5] at h1
   exact Option.some.inj h1
  exact item_listR pl.isList h0 (by omega) (by rw [hj];simpa using ew) fin hs
 ·have hj:(i + (its.toArray.size:Int)).toNat=j:=by
   rw [seqIndex_neg (by omega) h4] at h1
   rw [List.size_toArray,← hl]
   exact Option.some.inj h1
  exact subscriptTail_builtinR (x:=w) pl.isList.typeIs slot_list_getitem.lookup
   (wpAny_getItem_list_neg (Q:=fun r s'=>r=w∧EP X pins σ Q r s') pl.isList (by omega) (by rw [List.size_toArray] <;> omega) (by omega) (by rw [hj];simpa using ew) ⟨rfl,fin⟩) hs
theorem xad:IxR X (rIxT X.K):=by
 intro value slice pins s σ H x y v u Q I rx ry h hs
 obtain ⟨p,xs,i,z,rfl,rfl,hq,he,q⟩:=h
 cases rx
 obtain ⟨t,rfl⟩:=ry
 obtain ⟨its,r,pl,hz⟩:=I.tuple hq
 obtain ⟨j,h1,h2,h3,h4,h5⟩:=ZaM he
 obtain ⟨w,ew,rw'⟩:=r.get h2
 have hl:=r.length
 have hn:=line63
 have fin:EP X pins σ Q w s:=⟨z,H,I,rw',q⟩
 exact subscriptTail_builtinR (x:=w) pl.typeIs slot_tuple_getitem.lookup
  (getItem_tuple (j:=j) (Q:=fun r s'=>r=w∧EP X pins σ Q r s') pl (by omega) (by omega) (by rw [List.size_toArray,← hl];exact h1) (by simpa using ew) ⟨rfl,fin⟩) hs
theorem ix_str:IxR X rIxS:=by
 intro value slice pins s σ H x y v u Q I rx ry h hs
 obtain ⟨z,i,c,rfl,rfl,hz,he,q⟩:=h
 obtain ⟨t,rfl⟩:=rx
 obtain ⟨t',rfl⟩:=ry
 obtain ⟨j,h1,h2,h3,h4,h5⟩:=ZaM he
 have hl:z.cps.toList.length=z.length:=by simp [Str.length]
 rw [hl] at h1 h4 h5
 have hn:=line63
 exact tail_any (typeIs_str s z t) slot_str_getitem.lookup (getItem_str (c:=c) (by
  have e1:decide (i < -(2 ^ 63:Int))=false:=decide_eq_false (by omega)
  have e2:decide (i ≥ 2 ^ 63)=false:=decide_eq_false (by omega)
  rw [e1,e2,Bool.or_false]) (by rw [h1];simpa using h2) ⟨.str ⟨#[c]⟩,H,I.tok _,⟨_,rfl⟩,q⟩) hs
theorem XaS (its:List Value) (n j:Nat) (u:Value):Obj.mapSeq (·.setIfInBounds j u) { cls:=.type "list",data:=.seq its.toArray n }={ cls:=.type "list",data:=.seq (its.set j u).toArray n }:=by
 simp [Obj.mapSeq]
theorem Inv.lst {pins:List (Addr×Obj)} {σ:St} {H:Hp} {s:Shared} {p:Addr} {xs:List V} (I:Inv X pins σ H s) (h:H p=some (.lst xs)) :
  ∃ (its:List Value) (n:Nat),Vals xs its∧s.heap.get? p=some { cls:=.type "list",data:=.seq its.toArray n }∧xs.length≤sizeLine:=by
 obtain ⟨z,its,n,r,e⟩:=I.hok p _ h
 exact ⟨its,n,r,e,z⟩
theorem Inv.lstUpd {pins:List (Addr×Obj)} {σ:St} {H:Hp} {s:Shared} {p:Addr} {xs ys:List V} {its its':List Value} {n n':Nat} {f:Obj→Obj} (I:Inv X pins σ H s) (h:H p=some (.lst xs))
  (ho:s.heap.get? p=some { cls:=.type "list",data:=.seq its.toArray n }) (hf:f { cls:=.type "list",data:=.seq its.toArray n }={ cls:=.type "list",data:=.seq its'.toArray n' }) (r:Vals ys its') (hz:ys.length≤sizeLine) (t:Nat) :
  Inv X pins σ (upd H p (.lst ys)) { s with heap:=s.heap.update p f,toks:=t }:=by
 have e:(s.heap.update p f).get? p=some { cls:=.type "list",data:=.seq its'.toArray n' }:=by
  rw [Heap.get?_update_self f ho (by rw [hf] <;> rfl),hf]
 refine I.write (x:=p) (e:=p) (by rw [h];trivial) (.inl rfl) (fun b u hb q=>(Heap.get?_update_other _ _ (Ne.symm hb)).trans q) ⟨_,e⟩ ?_
 exact ⟨hz,its',n',r,e⟩
noncomputable def rSetL:V→V→V→Hp→(Hp→Prop)→Prop:=fun o i v H Q=>∃ p xs k j,o=.ref p∧i=.int k∧H p=some (.lst xs)∧ixN xs.length k=some j∧Q (upd H p (.lst (xs.set j v)))
theorem XaP:PSet X rSetL:=by
 intro pins s σ H o i v ov iv u Q I ro ri rv h
 obtain ⟨p,xs,k,j,rfl,rfl,hp,hj,q⟩:=h
 cases ro
 obtain ⟨t,rfl⟩:=ri
 obtain ⟨its,n,r,ho,hz⟩:=I.lst hp
 obtain ⟨h1,h2,h3,h4⟩:=YaY hj
 have hl:=r.length
 have hn:=line63
 have I':Inv X pins σ (upd H p (.lst (xs.set j v))) { s with heap:=s.heap.update p (Obj.mapSeq (·.setIfInBounds j u)) } :=
  I.lstUpd hp ho (XaS its n j u) (r.set rv j) (by rw [List.length_set];exact hz) s.toks
 by_cases h0:0≤k
 ·have hk:k.toNat=j:=by
   rw [seqIndex_of h0 h4] at h1
   exact Option.some.inj h1
  exact PySem.W.ki_setAt ho h0 (by omega) (by rw [List.size_toArray,← hl];exact h4) (by rw [hk];exact ⟨_,I',q⟩)
 ·have hk:(k + (its.toArray.size:Int)).toNat=j:=by
   rw [seqIndex_neg (by omega) h3] at h1
   rw [List.size_toArray,← hl]
   exact Option.some.inj h1
  exact PySem.W.ki_setBack ho (by omega) (by rw [List.size_toArray,← hl];exact h3) (by omega) (by rw [hk];exact ⟨_,I',q⟩)
theorem zan:CallR X (.builtin "len") (fun xs H Q=>∃ p ys,xs=[.ref p]∧(SqL X.K H p ys∨SqT X.K H p ys)∧Q (.int ys.length) H):=by
 intro pins s σ H xs us Q I r h
 obtain ⟨p,ys,rfl,hq,q⟩:=h
 obtain ⟨u,rfl,rx⟩:=vals1 r
 cases rx
 have hn:=line63
 rcases hq with hq | hq
 ·obtain ⟨its,r',pl,hz⟩:=I.list hq
  have hlen:=r'.length
  exact Calls.call_len_list pl.isList (by simp only [List.size_toArray] <;> omega) ⟨.int ys.length,H,I.tok _,⟨s.toks + 1,by rw [List.size_toArray,hlen]⟩,q⟩
 ·obtain ⟨its,r',pl,hz⟩:=I.tuple hq
  have hlen:=r'.length
  exact len_tuple pl (by simp only [List.size_toArray] <;> omega) ⟨.int ys.length,H,I.tok _,⟨s.toks + 1,by rw [List.size_toArray,hlen]⟩,q⟩
theorem xaJ:CallR X (.builtin "len") (fun xs H Q=>∃ z,xs=[.str z]∧z.length≤sizeLine∧Q (.int z.length) H):=by
 intro pins s σ H xs us Q I r h
 obtain ⟨z,rfl,hz,q⟩:=h
 obtain ⟨u,rfl,t,rfl⟩:=vals1 r
 have hn:=line63
 exact len_str (by omega) ⟨.int z.length,H,I.tok _,⟨_,rfl⟩,q⟩
noncomputable def tyV (K:PySem.W.Frag) (T:String) (x:V) (H:Hp):Prop:=match x with
 | .str _=>T="str"
 | .int _=>T="int"
 | .ref p=>(T="list" ∧ ∃ xs,SqL K H p xs)∨(T="tuple" ∧ ∃ xs,SqT K H p xs) ∨
   (T="dict" ∧ ((∃ kvs,H p=some (.dK kvs))∨∃ kvs,H p=some (.dT kvs)))∨(T="set" ∧ ∃ S n,H p=some (.set S n))
 | _=>False
theorem tyV_is {pins:List (Addr×Obj)} {σ:St} {H:Hp} {s:Shared} {T:String} {x:V} {v:Value} (I:Inv X pins σ H s) (r:RelV x v) (ty:tyV X.K T x H) :
  s.TypeIs v T∧∀ a,v=.ref a→∃ ob,s.heap.get? a=some ob∧ob.dict=none:=by
 cases x with
 | str z =>
  obtain ⟨t,rfl⟩:=r
  cases (show T="str" from ty)
  exact ⟨typeIs_str s z t,fun _ e=>nomatch e⟩
 | int i =>
  obtain ⟨t,rfl⟩:=r
  cases (show T="int" from ty)
  exact ⟨typeIs_int s i t,fun _ e=>nomatch e⟩
 | ref p =>
  cases r
  rcases ty with ⟨rfl,xs,hq⟩ | ⟨rfl,xs,hq⟩ | ⟨rfl,hk⟩ | ⟨rfl,S,n,hk⟩
  ·obtain ⟨its,_,pl,_⟩:=I.list hq
   refine ⟨pl.isList.typeIs,fun a e=>?_⟩
   cases e
   obtain ⟨o,n,e,c,hd,_⟩:=pl
   exact ⟨o,e,hd⟩
  ·obtain ⟨its,_,⟨o,e,c,d,_⟩,_⟩:=I.tupleP hq
   refine ⟨⟨o,e,c⟩,fun a e2=>?_⟩
   cases e2
   exact ⟨o,e,d⟩
  ·have z:∃ o,s.heap.get? p=some o∧o.ExactDict:=by
    rcases hk with ⟨kvs,hk⟩ | ⟨kvs,hk⟩
    ·obtain ⟨_,_,_,_,o,_,_,e,ex,_⟩:=I.hok p _ hk
     exact ⟨o,e,ex⟩
    ·obtain ⟨_,_,_,_,o,_,_,e,ex,_⟩:=I.hok p _ hk
     exact ⟨o,e,ex⟩
   obtain ⟨o,e,ex⟩:=z
   refine ⟨⟨o,e,ex.1⟩,fun a e2=>?_⟩
   cases e2
   exact ⟨o,e,ex.2.1⟩
  ·obtain ⟨o,_,_,_,e,ex,_⟩:=I.hok p _ hk
   refine ⟨⟨o,e,ex.1⟩,fun a e2=>?_⟩
   cases e2
   exact ⟨o,e,ex.2.1⟩
 | _=>exact False.elim ty
noncomputable def tBM (K:PySem.W.Frag) (T:String) (r:V→List V→Hp→VK→Prop) (to:TE) (t:TA):TE:=fun σ H Q=>to σ H fun x H1=>tyV K T x H1∧t σ H1 fun xs H2=>r x xs H2 Q
variable {o e:Expr} {es:List Expr} {to:TE} {t:TA} {name:Str} {apos cpos:Pos} {T id:String} {r:V→List V→Hp→VK→Prop}
theorem XaY (pa:PlainAttrs T) (slot:Slot T name id) (hty:typeOf (.builtin id)=pure (.type "method_descriptor")) (hm:MtR X id r) (ho:PE X o to) (ha:PA X (e :: es) t)
  (hbase:attributeBase o name X.env (eval o X.env)=eval o X.env:=by rfl)
  (hfew:((backTo cpos (starEach (e :: es) X.env)).all (fun x=>!x.1) && (backToKw cpos (keywordEach [] X.env)).all (fun x=>x.1.isSome)
   && decide ((e :: es).length + ([]:List Keyword).length + (if ([]:List Keyword).isEmpty then 0 else 1) < 30))=true:=by rfl)
  (hline:(apos.endLine == cpos.line)=true:=by rfl) (hs:starEach (e :: es) X.env=(false,eval e X.env) :: starEach es X.env:=by rfl) (hplain:(backTo cpos (starEach es X.env)).any (·.1)=false:=by rfl) :
  PE X (.Call (.Attribute o name apos) (e :: es) [] cpos) (tBM X.K T r to t):=by
 intro pins s σ H Q I h
 refine wpAny_Call_method_late hbase hfew hline rfl (thn (ho pins s σ H _ I h) fun v s1 ⟨x,H1,I1,r1,ty,q1⟩=>?_)
 obtain ⟨h1,h2⟩:=tyV_is I1 r1 ty
 refine ⟨T,id,pa,slot,hty,h1,h2,?_⟩
 have hA:=ha cpos pins s1 σ H1 _ I1 q1
 rw [hs] at hA ⊢
 refine Calls.callWith_builtin (by show (false || (backTo cpos (starEach es X.env)).any (·.1))=false;rw [hplain] <;> rfl) (Calls.evalArgs_plain ?_)
 exact thn hA fun us s2 ⟨vs,H2,I2,r2,q2⟩=>hm pins s2 σ H2 x vs v us Q I2 r1 r2 q2
end
end L2
namespace L2
open PySem PySem.Spec PyProof.Rows
noncomputable def MtM (X:Cx) (id:String) (r:V→List V→Hp→VK→Prop):Prop :=
 ∀ (pins:List (Addr×Obj)) (s:Shared) (σ:St) (H:Hp) (x:V) (xs:List V) (v:Value) (us:List Value) (Q:VK),Inv X pins σ H s→RelV x v→Vals xs us→r x xs H Q →
  wpAny (model X.prog X.w) X.A (call (.builtin id) (v :: us)) (EP X pins σ Q) X.xe s
theorem Vals.one:∀ {x:V} {us:List Value},Vals [x] us→∃ u,us=[u]∧RelV x u
 | _,_,.cons r .nil=>⟨_,rfl,r⟩
theorem Vals.reverse {xs:List V} {us:List Value} (h:Vals xs us):Vals xs.reverse us.reverse:=by
 induction h with
 | nil=>exact .nil
 | cons r t ih=>rw [List.reverse_cons,List.reverse_cons];exact Vals.append ih (.cons r .nil)
section
variable {X:Cx} {pins:List (Addr×Obj)} {σ:St} {H:Hp} {s:Shared} {l b:Addr} {xs ys zs:List V}
theorem Inv.lset {its its':List Value} {n:Nat} {f:Array Value→Array Value} {t':Nat} (I:Inv X pins σ H s) (hH:H l=some (.lst xs))
  (e:s.heap.get? l=some { cls:=.type "list",data:=.seq its.toArray n }) (hf:f its.toArray=its'.toArray) (hv:Vals ys its') (hz:ys.length≤sizeLine) :
  Inv X pins σ (upd H l (.lst ys)) { s with heap:=s.heap.update l (Obj.mapSeq f),toks:=t' }:=by
 have q:=PySem.IsL.update e f
 rw [hf] at q
 refine I.write (x:=l) (e:=l) (by rw [hH];exact trivial) (.inl rfl) (fun b' u hb hu=>(Heap.get?_update_other s.heap (Obj.mapSeq f) (Ne.symm hb)).trans hu) ⟨_,q⟩ ?_
 exact ⟨hz,its',_,hv,q⟩
theorem Inv.lnew {its:List Value} {t':Nat} (I:Inv X pins σ H s) (hv:Vals ys its) (hz:ys.length≤sizeLine) :
  Inv X pins σ (upd H s.heap.objs.size (.lst ys)) { s with heap:=s.heap.push { cls:=.type "list",data:=.seq its.toArray },toks:=t' } :=
 I.laid (fun _ _ q=>Heap.get?_push_of_some _ q) (Nat.le_refl _) ⟨hz,its,0,hv,Heap.get?_push_size _ rfl⟩
theorem Inv.fresh (I:Inv X pins σ H s):H s.heap.objs.size=none:=I.hok.fresh (Nat.le_refl _)
theorem Inv.lstM (I:Inv X pins σ H s) (hH:H l=some (.lst xs)):xs.length≤sizeLine∧∃ (its:List Value) (n:Nat),Vals xs its∧xs.length=its.length∧s.heap.get? l=some { cls:=.type "list",data:=.seq its.toArray n }:=by
 obtain ⟨z,its,n,r,e⟩:=I.hok l _ hH
 exact ⟨z,its,n,r,r.length,e⟩
end
section
variable {X:Cx}
noncomputable def rAppend:V→List V→Hp→VK→Prop:=fun x vs H Q=>∃ l xs y,x=.ref l∧vs=[y]∧H l=some (.lst xs)∧xs.length < sizeLine∧Q .non (upd H l (.lst (xs ++ [y])))
theorem XaJ:MtM X "list.append" rAppend:=by
 intro pins s σ H x vs v us Q I rx rv h
 obtain ⟨l,xs,y,rfl,rfl,hH,hz,q⟩:=h
 cases rx
 obtain ⟨u,rfl,ru⟩:=rv.one
 obtain ⟨z,its,n,r,hl,e⟩:=I.lstM hH
 refine call_meets F.slot_list_append ⟨_,e,rfl⟩ F.entry_list_append (F.args_list_append_2 _ _) (PySem.list_append l its.toArray n u (by rw [List.size_toArray];omega)) ⟨e,?_⟩
 refine ⟨.non,_,I.lset (its':=its ++ [u]) hH e (by simp) (r.append (.cons ru .nil)) ?_,rfl,q⟩
 rw [List.length_append,List.length_singleton]
 omega
noncomputable def rCat:R2:=fun x y H Q=>∃ l b xs zs,x=.ref l∧y=.ref b∧H l=some (.lst xs)∧H b=some (.lst zs)∧xs.length + zs.length≤sizeLine∧∀ p,H p=none→Q (.ref p) (upd H p (.lst (xs ++ zs)))
theorem op_cat:OpR X (binaryOp .Add) rCat:=by
 intro pins s σ H x y v u Q I rx ry h
 obtain ⟨l,b,xs,zs,rfl,rfl,hH,hB,hz,q⟩:=h
 cases rx
 cases ry
 obtain ⟨z,its,n,r,hl,e⟩:=I.lstM hH
 obtain ⟨z2,its2,n2,r2,hl2,e2⟩:=I.lstM hB
 refine PySem.P.add_list e e2 ?_ (by rw [List.size_toArray,List.size_toArray];omega)
 have ea:its.toArray ++ its2.toArray=(its ++ its2).toArray:=by simp
 rw [ea]
 exact ⟨.ref _,_,I.lnew (t':=s.toks) (r.append r2) (by rw [List.length_append];omega),rfl,q _ I.fresh⟩
end
section
variable {prog:Program} {w:World} {A:Around} {E:Value→Shared→Prop} {s:Shared}
end
section
variable {X:Cx}
end
end L2
namespace L2
open PySem PySem.Spec PyProof.Rows
section
variable {κ:Type} [DecidableEq κ]
end
section
variable {P:Program} {w:World} {H:Hp} {h:Heap} {a:Addr}
end
section
variable {X:Cx} {pins:List (Addr×Obj)} {σ:St} {H:Hp} {s:Shared} {a:Addr} {y v:V} {u r:Value} {o:Option V} {A:Around} {E:Value→Shared→Prop}
end
section
variable {X:Cx} {pins:List (Addr×Obj)} {σ:St} {H:Hp} {s:Shared} {a:Addr} {kvs:List (Key×V)} {k:Key} {u:Value} {A:Around} {E:Value→Shared→Prop}
end
section
variable {X:Cx} {o i e value:Expr} {pos pos' tpos:Pos} {td ty tv:TE}
end
section
variable {X:Cx} {pos:Pos}
end
section
variable {X:Cx} {pins:List (Addr×Obj)} {σ:St} {H:Hp} {s:Shared} {a:Addr} {y d:V} {u r:Value} {o:Option V} {A:Around} {E:Value→Shared→Prop}
end
section
variable {X:Cx} {o e f:Expr} {apos cpos:Pos} {td ty tx:TE}
end
section
variable {X:Cx} {pins:List (Addr×Obj)} {σ:St} {H:Hp} {s:Shared} {a:Addr} {kvs:List (Key×V)} {A:Around} {E:Value→Shared→Prop}
end
section
variable {X:Cx} {pins:List (Addr×Obj)} {σ:St} {H:Hp} {s:Shared} {a:Addr} {y:V} {u:Value} {A:Around} {E:Value→Shared→Prop}
end
end L2
namespace Att
open PySem PySem.W PySem.Calls PyProof.Rows
theorem xaA {P:Params} {h:Heap}:∀ (ns:List Int) (vs:List Value),WellAll P h vs (ns.map WData.int)→IntsAre vs ns:=by
 intro ns
 induction ns with
 | nil =>
  intro vs w
  rw [List.map_nil] at w
  cases w
  exact .nil
 | cons n ns ih =>
  intro vs w
  rw [List.map_cons] at w
  cases w with
  | cons a b =>
   cases a
   exact .cons _ _ (ih _ b)
theorem zaZ {l:OpenLaw} {n:Nat} (hn:l.most=some n) {P:Params} {h:Heap} {args:List WData} {vals:List Value}
  (hpre:l.row.toRowW.claim.pre args=true) (hwl:WellAll P h vals args) :
  ∃ a vs ns,vals=[Value.ref a]∧args=[WData.list (ns.map WData.int)]∧h.get? a=some { cls:=.type "list",data:=.seq vs.toArray }∧IntsAre vs ns∧ns.length≤n:=by
 have hsh:WShape.hasAll [] args [.list .int]=true:=(pre_splitW hpre).1
 have hc:l.pre.holds [] { args:=args }=true:=(pre_splitW hpre).2
 obtain ⟨d,r,rfl,h1,h2⟩:=hasAllW_cons hsh
 obtain rfl:=hasAllW_nil h2
 obtain ⟨xs,rfl,h3⟩:=hasW_list h1
 obtain ⟨ns,rfl⟩:=items_int h3
 have hlen:ns.length≤n:=by
  unfold OpenLaw.pre at hc
  have h4:(WTm.not (.lt (.lit (.int (n:Int))) (.len (.arg 0)))).holds [] { args:=[.list (ns.map .int)] }=true:=by
   have h4:=(holds_andW hc).1
   rw [hn] at h4
   exact h4
  have h5:=condW_of h4 (w_not (w_lt w_lit (w_len_list (w_arg rfl))))
  rw [List.length_map] at h5
  refine Nat.le_of_not_lt fun q=>?_
  have q':(n:Int) < ((ns.length:Nat):Int):=by omega
  first
   | (rw [decide_eq_true q'] at h5;exact absurd h5 (by decide))
   | (simp at h5;omega)
 cases hwl with
 | cons w1 w2 =>
  cases w2
  cases w1 with
  | list ho hall=>exact ⟨_,_,ns,rfl,rfl,ho,xaA ns _ hall,hlen⟩
theorem yaZ (l:OpenLaw) (args:List WData):l.row.toRowW.claim.post args (.bool true) args=true :=
 postW_of (r:=l.row.toRowW) (X:=(true == true))
  (show WShape.has [] (.bool true) .bool=true by first | rfl | decide | simp [WShape.has,WShape.arms,WShape.armsAll])
  (show (WTm.eq .res (.lit (.bool true))).value [] { args:=args,res:=some (.bool true),after:=args }=some (.bool (true == true)) from w_eq_bool (w_res rfl) w_lit) rfl
theorem YaM {l:OpenLaw} {n:Nat} {q:Program} {loose:List Str} {XP:(Str→Option Value)→Heap→Prop} {YP:World→Heap→Prop} {d:DefRec}
  (hn:l.most=some n) (hdf:d.params.defaults=[])
  (call:∀ (w:World) (s₀ s₁:Shared) (mg mb:Str→Option Value) (fa:Addr) (o:Obj) (pm cd doc:Value) (a:Addr) (vs:List Value) (ns:List Int),
   Ground q loose [] XP w s₀ mg mb s₁.heap→YP w s₁.heap →
   s₁.heap.get? fa=some o→o.data=.func (docDef d.name d.params d.body d.scope pm cd doc)→s₁.heap.CodeRec cd d.name→mg d.name=some (.ref fa) →
   s₁.heap.get? a=some { cls:=.type "list",data:=.seq vs.toArray }→IntsAre vs ns→ns.length≤n→s₁.gens=#[] →
   codeAny (model l.prog w) callerA (.call (.ref fa) ⟨[.ref a],[]⟩) (fun r s'=>r=.ok (.ret (.bool true))∧OldK s₁.heap s'.heap∧s'.os=s₁.os∧AllBare s'.gens) s₁) :
  WalkO q loose XP YP l.row.toRowW d [] (fun f vs=>PySem.call f vs):=by
 intro w s₀ s₁ mg mb G Y fa o pm cd doc dV kV ho hd hcd hD hmg hg args vals as hpre hlay hrd hwl hlo
 obtain rfl:dV=.none:=Dflts.none hD hdf
 obtain rfl:kV=.none:=Dflts.noKw hD
 obtain ⟨a,vs,ns,rfl,rfl,hobj,hints,hlen⟩:=zaZ hn hpre hwl
 refine enter_call (codeAny_mono (call w s₀ s₁ mg mb fa o pm cd doc a vs ns G Y ho (fd_plain hd) hcd hmg hobj hints hlen hg) fun r s' hq=>?_)
 obtain ⟨rfl,h2,h3,h4⟩:=hq
 exact ⟨.inl ⟨.bool true,.bool true,[],rfl,fun _=>rfl,.bool true,yaZ l _,fun _=>⟨List.Pairwise.nil,fun _ hm=>(nomatch hm)⟩⟩,h2,h3,h4⟩
section
variable {prog:Program} {w:World} {A:Around} {E:Value→Shared→Prop} {s:Shared} {K:Frag}
end
end Att
namespace L2
open PySem PySem.Spec PyProof.Rows
theorem zaK:∀ {vs:List Value} {ns:List Int},IntsAre vs ns→Vals (ns.map V.int) vs
 | _,_,.nil=>.nil
 | _,_,.cons n t h=>.cons ⟨t,rfl⟩ (zaK h)
noncomputable def Only (H:Hp):Prop:=∀ b,H b=none∨∃ o xs,H b=some (.frz o (.lst xs))
theorem xa8 {P:Program} {w:World} {K:PySem.W.Frag} {mg mb:Str→Option Value} {CX:CXT} {k:Nat} {fa a:Addr} {fd:FuncData} {x:Str} {sp:Sp} {s₁:Shared} {vs:List Value} {ns:List Int}
  (KX:K.In s₁.heap) (hns:s₁.heap.Ns mainGlobals mg) (hb:s₁.heap.Ns builtinsNs mb) (hbb:∀ x:Str,x≠"__name__" → mb x=bootBuiltins x) (hlim:s₁.heap.NoLimit) (hg:s₁.gens=#[])
  (ha:s₁.heap.get? a=some { cls:=.type "list",data:=.seq vs.toArray }) (hi:IntsAre vs ns) (hl:ns.length≤sizeLine) (hr:Room k callerA)
  (F:∀ base:Heap,K.In base→base.Ns mainGlobals mg→FnOk P w K mg base CX k fa fd [x] sp) (hbind:∀ (s:Shared) (u:Value),BindsTo s fd ⟨[u],[]⟩ [(x,u)])
  (hsp:∀ H:Hp,Only H→SqL K H a (ns.map V.int)→sp [.ref a] H (fun v _=>v=.bl true) fun _ _ _=>False)
  (hCX:∀ H e s',CX [] H s₁ (fun _ _ _=>False) e s'→False) :
  codeAny (model P w) callerA (.call (.ref fa) ⟨[.ref a],[]⟩) (fun r s'=>r=.ok (.ret (.bool true))∧OldK s₁.heap s'.heap∧s'.os=s₁.os∧AllBare s'.gens) s₁:=by
 have rv:=zaK hi
 have lenV:=hi.length
 have core:∀ H:Hp,Only H→SqL K H a (ns.map V.int)→HOk P w H s₁.heap→(∀ b,H b≠none→b=a)→(H a≠none→K.lookup a=none) →
   codeAny (model P w) callerA (.call (.ref fa) ⟨[.ref a],[]⟩) (fun r s'=>r=.ok (.ret (.bool true))∧OldK s₁.heap s'.heap∧s'.os=s₁.os∧AllBare s'.gens) s₁:=by
  intro H hO hS hok hA hK
  have base_of:∀ {b:Addr} {o:Obj},s₁.heap.get? b=some o→H b=none→(hidT s₁.heap H).get? b=some o:=fun e n=>Xa7 e n
  have noA:∀ {b:Addr} {o:Obj} {es:Array DictEntry} {ep:Nat},s₁.heap.get? b=some o→o.data=.dict es ep→H b=none:=fun {b o es ep} e d=>by
   cases q:H b with
   | none=>rfl
   | some u =>
    have e':b=a:=hA b (by rw [q];simp)
    subst e'
    rw [ha] at e;cases e
    have d':Data.seq vs.toArray _=Data.dict es ep:=d
    cases d'
  have nsK:∀ {b:Addr} {m:Str→Option Value},s₁.heap.Ns b m→(hidT s₁.heap H).Ns b m:=fun {b m} ⟨o,es,ep,e,d,r⟩=>⟨o,es,ep,base_of e (noA e d),d,r⟩
  have hKb:K.In (hidT s₁.heap H):=fun b o e=>base_of (KX b o e) (by
   cases q:H b with
   | none=>rfl
   | some u =>
    have e':b=a:=hA b (by rw [q];simp)
    subst e'
    rw [hK (by rw [q];simp)] at e;cases e)
  have hM:Mod K mg (hidT s₁.heap H):=⟨hKb,nsK hns,⟨mb,nsK hb,hbb⟩,let ⟨mc,h1,h2⟩:=hlim;⟨mc,nsK h1,h2⟩⟩
  have e0:Env0 P w K mg (hidT s₁.heap H) callerA [] s₁ H:=⟨rfl,hM,fun b o e=>xbj e,Nat.le_of_eq (zaW _ _),trivial,fun b hb=>absurd (show b∈([]:List Addr) from hb) (by simp),hok,.of_eq hg⟩
  refine codeAny_mono ((F _ hKb (nsK hns)).run callerA [] s₁ H ⟨[.ref a],[]⟩ [.ref a] [.ref a] _ _ hr e0 (hbind s₁ (.ref a)) (.cons rfl .nil) (hsp H hO hS)) fun r s' h=>?_
  cases r with
  | error e=>exact (hCX H e s' h).elim
  | ok fl =>
   cases fl with
   | next=>exact False.elim h
   | brk=>exact False.elim h
   | cont=>exact False.elim h
   | ret u =>
    obtain ⟨v,H',os,bare,un,hok',r',q⟩:=h
    have q':v=.bl true:=q
    subst q'
    obtain rfl:u=Value.bool true:=r'
    refine ⟨rfl,OldK.of_keep fun b o e=>?_,os,bare⟩
    cases q:H b with
    | none=>exact un.keep b o e q (by intro z;exact absurd (show b∈([]:List Addr) from z) (by simp)) (by simp)
    | some u =>
     rcases hO b with z | ⟨ob,xs,z⟩
     ·rw [q] at z;cases z
     ·have z2:=un.frzs b ob _ z
      obtain ⟨e1,_⟩:=hok b _ z
      obtain ⟨e2,_⟩:=hok' b _ z2
      rw [e] at e1;cases e1
      exact e2
 cases hk:K.lookup a with
 | some o =>
  have e:=KX a o hk
  rw [ha] at e
  cases e
  refine core (fun _=>none) (fun _=>.inl rfl) (.inr ⟨_,vs.toArray,_,hk,rfl,rfl,rfl,by rw [List.size_toArray,lenV];exact hl,by simpa using rv⟩) (fun b u z=>by have z':(none:Option HO)=some u:=z;cases z') (fun b z=>absurd rfl z) fun z=>absurd rfl z
 | none =>
  refine core (fun b=>if b=a then some (.frz { cls:=.type "list",data:=.seq vs.toArray } (.lst (ns.map V.int))) else none) (fun b=>?_) (.inl (.inr ⟨{ cls:=.type "list",data:=.seq vs.toArray },if_pos rfl⟩)) (fun b u z=>?_) (fun b z=>?_) fun _=>hk
  ·by_cases hb:b=a
   ·exact .inr ⟨_,_,if_pos hb⟩
   ·exact .inl (if_neg hb)
  ·by_cases hb:b=a
   ·have z':=(if_pos hb).symm.trans z
    cases z'
    subst hb
    exact ⟨ha,by rw [List.length_map];exact hl,vs,_,rv,ha⟩
   ·have z':=(if_neg hb).symm.trans z
    cases z'
  ·by_cases hb:b=a
   ·exact hb
   ·exact absurd (if_neg hb) z
end L2
namespace L2
open PySem PySem.Spec PyProof.Rows
abbrev KOf {K:PySem.W.Frag} {h:Heap} (_:K.In h):PySem.W.Frag:=K
theorem Ybk {l:PySem.W.OpenLaw} {n k:Nat} {q:Program} {loose:List Str} {XP:(Str→Option Value)→Heap→Prop} {YP:World→Heap→Prop} {d:DefRec} {K:Params→PySem.W.Frag} {CX:World→CXT} {sp:World→Sp} {x:Str}
  (hn:l.most=some n) (hn2:n≤sizeLine) (hdf:d.params.defaults=[]) (hr:Room k callerA)
  (hY:∀ (w:World) (h:Heap),YP w h→(K w.params).In h)
  (F:∀ (w:World) (mg:Str→Option Value) (fa:Addr) (h:Heap),(K w.params).In h→h.Ns mainGlobals mg→mg d.name=some (.ref fa) →
   ∃ fd:FuncData,(∀ (s:Shared) (u:Value),BindsTo s fd ⟨[u],[]⟩ [(x,u)]) ∧
    ∀ base:Heap,(K w.params).In base→base.Ns mainGlobals mg→FnOk l.prog w (K w.params) mg base (CX w) k fa fd [x] (sp w))
  (hsp:∀ (w:World) (H:Hp) (a:Addr) (ns:List Int),ns.length≤n→Only H→SqL (K w.params) H a (ns.map V.int)→sp w [.ref a] H (fun v _=>v=.bl true) fun _ _ _=>False)
  (hCX:∀ (w:World) (H:Hp) (s:Shared) (e:Value) (s':Shared),CX w [] H s (fun _ _ _=>False) e s'→False) :
  PySem.W.WalkO q loose XP YP l.row.toRowW d [] (fun f vs=>PySem.call f vs):=by
 refine Att.YaM hn hdf fun w s₀ s₁ mg mb fa o pm cd doc a vs ns G Y ho hd hcd hmg hobj hints hlen hg=>?_
 have KX:=hY w _ Y
 obtain ⟨fd,hb,hF⟩:=F w mg fa _ KX G.T.g hmg
 exact xa8 KX G.T.g G.T.b G.T.builtins G.T.nolimit hg hobj hints (Nat.le_trans hlen hn2) hr hF hb (fun H hO hS=>hsp w H a ns hlen hO hS) fun H e s'=>hCX w H s₁ e s'
theorem Xa8 {l:PySem.W.OpenLaw} {n k:Nat} {q:Program} {loose:List Str} {XP:(Str→Option Value)→Heap→Prop} {YP:World→Heap→Prop} {d:DefRec} {K:Params→PySem.W.Frag} {CX:CXT} {sp:PySem.W.Frag→Sp} {x:Str}
  (hn:l.most=some n) (hn2:n≤sizeLine) (hdf:d.params.defaults=[]) (hr:Room k callerA)
  (hY:∀ (w:World) (h:Heap),YP w h→(K w.params).In h)
  (F:∀ (w:World) (mg:Str→Option Value) (fa:Addr) (h:Heap),(K w.params).In h→h.Ns mainGlobals mg→mg d.name=some (.ref fa) →
   ∃ fd:FuncData,(∀ (s:Shared) (u:Value),BindsTo s fd ⟨[u],[]⟩ [(x,u)]) ∧
    ∀ base:Heap,(K w.params).In base→base.Ns mainGlobals mg→FnOk l.prog w (K w.params) mg base CX k fa fd [x] (sp (K w.params)))
  (hsp:∀ (K:PySem.W.Frag) (H:Hp) (a:Addr) (ns:List Int),ns.length≤n→Only H→SqL K H a (ns.map V.int)→sp K [.ref a] H (fun v _=>v=.bl true) fun _ _ _=>False)
  (hCX:∀ (H:Hp) (s:Shared) (e:Value) (s':Shared),CX [] H s (fun _ _ _=>False) e s'→False) :
  PySem.W.WalkO q loose XP YP l.row.toRowW d [] (fun f vs=>PySem.call f vs) :=
 Ybk (K:=K) (CX:=fun _=>CX) (sp:=fun w=>sp (K w.params)) hn hn2 hdf hr hY F (fun w H a ns h1 h2 h3=>hsp (K w.params) H a ns h1 h2 h3) fun _ H s e s'=>hCX H s e s'
end L2
namespace L2
open PySem PySem.Spec PyProof.Rows
noncomputable def defArgs (s:Stmt):Arguments:=match s with
 | .FunctionDef _ a _ _ _ _ _ _ _ _=>a
 | _=>{ posonlyargs:=[],args:=[],vararg:=none,kwonlyargs:=[],kw_defaults:=[],kwarg:=none,defaults:=[] }
noncomputable def defBody (s:Stmt):List Stmt:=match s with
 | .FunctionDef _ _ b _ _ _ _ _ _ _=>b
 | _=>[]
noncomputable def defScope (s:Stmt):Scope:=match s with
 | .FunctionDef _ _ _ _ _ _ sc _ _ _=>sc
 | _=>{ kind:=.function,names:=[],isGenerator:=false,isCoroutine:=false }
abbrev CX0:CXT:=fun _ _ _ _ _ _=>False
abbrev E0:XK:=fun _ _ _=>False
theorem pass0 {X:Cx}:Passes CX0 X E0:=fun _ _ _ _ _ _ _ h=>h.elim
structure Fun (K:PySem.W.Frag) (x qual:Str) (st:Stmt) (f:Addr) (fd:FuncData):Prop where
 ex:∃ (oc:Value) (od:Option Addr) (kV doc pm:Value) (an:Option Addr) (cdv ct:Value) (osl:Array (Option Value)),
  fd=PySem.W.fnOf x qual (defArgs st) (defBody st) (defScope st) .none kV doc pm an cdv ct∧K.lookup f=some ⟨oc,od,.func fd,osl⟩∧PySem.W.codeIn K cdv qual=true
 kp:PySem.W.keepIn K (.ref f)=true
section
variable {P:Program} {w:World} {K:PySem.W.Frag} {mg:Str→Option Value} {base:Heap}
theorem Fun.ok {x qual:Str} {st:Stmt} {f:Addr} {fd:FuncData} {N ps:List Str} {k:Nat} {sp:Sp} (F:Fun K x qual st f fd) (S:FnScope N ps (defScope st)) (len:∀ vs H Q E,sp vs H Q E→vs.length=ps.length)
  (hbody:∀ (cdv:Value) (A:Around) (outer:List Env) (s:Shared) (H:Hp) (vs:List V) (Q:VK) (E:XK),Room k (A.deeper (envOfC qual (defScope st) s.heap.objs.size f cdv))→sp vs H Q E →
   ∃ t,PSs (cxOf CX0 P w K mg base N qual (defScope st) f cdv A outer s H E).nox (defBody st) t∧t { nx:=fun _ H'=>Q .non H',rt:=Q } (start N vs) H):FnOk P w K mg base CX0 (k + 1) f fd ps sp:=by
 obtain ⟨oc,od,kV,doc,pm,an,cdv,ct,osl,rfl,lk,hcd⟩:=F.ex
 refine fn_of lk hcd S len fun A outer s H vs Q E hr hsp=>?_
 obtain ⟨t,h,q⟩:=hbody cdv A outer s H vs Q E hr hsp
 exact ⟨t,h.nox,q⟩
theorem fun_mk {x qual:Str} {st:Stmt} {f:Addr} {oc:Value} {od an:Option Addr} {osl:Array (Option Value)} {kV doc pm cdv ct:Value} (l:K.lookup f=some ⟨oc,od,.func (PySem.W.fnOf x qual (defArgs st) (defBody st) (defScope st) .none kV doc pm an cdv ct),osl⟩)
  (c:PySem.W.codeIn K cdv qual=true) (k:PySem.W.keepIn K (.ref f)=true):Fun K x qual st f (PySem.W.fnOf x qual (defArgs st) (defBody st) (defScope st) .none kV doc pm an cdv ct):=⟨⟨oc,od,kV,doc,pm,an,cdv,ct,osl,rfl,l,c⟩,k⟩
end
theorem Yaw {A:Around} {k:Nat} (hr:Room k A):A.units + 1 < cLine:=Nat.lt_of_le_of_lt (Nat.add_le_add_left (by decide:1≤64) _) hr.units
section
variable {X:Cx}
theorem pv (i:Nat) {x:Str} {pos:Pos} (hN:X.N[i]?=some x:=by rfl) (hv:Vis X.env.scope x:=by first | exact Or.inl rfl | exact Or.inr (Or.inl rfl) | exact Or.inr (Or.inr rfl)) (hd:(x == ("__debug__" : Str))=false:=by decide)
  (hcd:(x == ("__classdict__" : Str))=false:=by decide):PE X (.Name x pos) (tVar i):=pe_var hN hv hd hcd
end
theorem iteF {A B:Prop} (h:B):if false=true then A else B:=by
 rw [if_neg Bool.false_ne_true]
 exact h
theorem iteT {A B:Prop} (h:A):if true=true then A else B:=by
 rw [if_pos rfl]
 exact h
noncomputable def Same (H H':Hp):Prop:=∀ b o,H b=some o→H' b=some o
theorem Same.refl (H:Hp):Same H H:=fun _ _ h=>h
section
variable {X:Cx}
end
section
variable {κ:Type} [DecidableEq κ]
end
end L2
namespace L2
open PySem PySem.Spec PyProof.Rows
theorem ZaD:bootBuiltins "len" = some (.builtin "len"):=by decide +kernel
theorem Xbf:bootBuiltins "int" = some (.type "int"):=by decide +kernel
theorem xbk:bootBuiltins "bool" = some (.type "bool"):=by decide +kernel
theorem za9:bootBuiltins "tuple" = some (.type "tuple"):=by decide +kernel
theorem yai:bootBuiltins "isinstance" = some (.builtin "isinstance"):=by decide +kernel
theorem Xay:bootBuiltins "max" = some (.builtin "max"):=by decide +kernel
theorem bt_min:bootBuiltins "min" = some (.builtin "min"):=by decide +kernel
theorem bt_all:bootBuiltins "all" = some (.builtin "all"):=by decide +kernel
structure Kp (ch:List Addr) (H H':Hp):Prop where
 keep:∀ b o,H b=some o→b ∉ ch→H' b=some o
 tup:∀ b xs,H b=some (.tup xs)→H' b=some (.tup xs)
 frz:∀ b o u,H b=some (.frz o u)→H' b=some (.frz o u)
section
variable {ch:List Addr} {H H1 H2:Hp} {a l p:Addr} {o:HO} {xs ys:List V} {K:PySem.W.Frag}
theorem Kp.refl:Kp ch H H:=⟨fun _ _ h _=>h,fun _ _ h=>h,fun _ _ _ h=>h⟩
theorem Kp.of_same (h:Same H H1):Kp ch H H1:=⟨fun b o e _=>h b o e,fun b xs e=>h b _ e,fun b o u e=>h b _ e⟩
theorem Kp.put (h:Kp ch H H1) (ha:a∈ch) (e:H1 a=some (.lst xs)):Kp ch H (upd H1 a o) :=
 ⟨fun b u q n=>by rw [xae (fun z=>n (by rw [z];exact ha))];exact h.keep b u q n,
   fun b u q=>by
  have r:=h.tup b u q
  rw [xae (ne_of r e (by intro z;cases z))];exact r,
   fun b u v q=>by
  have r:=h.frz b u v q
  rw [xae (ne_of r e (by intro z;cases z))];exact r⟩
theorem Kp.sqT (h:Kp ch H H1) (q:SqT K H a xs):SqT K H1 a xs:=by
 rcases q with (q | ⟨o,q⟩) | q
 ·exact .inl (.inl (h.tup a xs q))
 ·exact .inl (.inr ⟨o,h.frz a o _ q⟩)
 ·exact .inr q
noncomputable def SqF (K:PySem.W.Frag) (H:Hp) (a:Addr) (xs:List V):Prop :=
 (∃ o,H a=some (.frz o (.lst xs))) ∨
  ∃ (o:Obj) (its:Array Value) (n:Nat),K.lookup a=some o∧o.cls=.type "list" ∧ o.dict=none∧o.data=.seq its n∧its.size≤sizeLine∧Vals xs its.toList
theorem SqF.sq (h:SqF K H a xs):SqL K H a xs:=h.elim (fun ⟨o,e⟩=>.inl (.inr ⟨o,e⟩)) .inr
theorem SqL.script (hO:Only H) (q:SqL K H a xs):SqF K H a xs:=by
 rcases q with (q | ⟨o,q⟩) | q
 ·rcases hO a with e | ⟨o,ys,e⟩
  ·rw [e] at q;cases q
  ·rw [e] at q;cases q
 ·exact .inl ⟨o,q⟩
 ·exact .inr q
theorem Same.up (h:H p=none):Same H (upd H p o):=fun b u e=>by rw [xae (Zam e h)];exact e
end
noncomputable def GotT (K:PySem.W.Frag) (H:Hp) (xs:List V) (Q:VK):Prop:=∀ p H',SqT K H' p xs→Same H H'→Q (.ref p) H'
section
variable {X:Cx}
theorem GotT.new {K:PySem.W.Frag} {H:Hp} {xs:List V} {Q:VK} (h:GotT K H xs Q):∀ p,H p=none→Q (.ref p) (upd H p (.tup xs)):=fun p hp=>h p _ (SqT.of xah) (Same.up hp)
theorem GotT.it {K:PySem.W.Frag} {H:Hp} {xs:List V} {Q:VK} {a:Addr} (h:GotT K H xs Q) (q:SqT K H a xs):Q (.ref a) H:=h a H q (Same.refl H)
noncomputable def rCatTA (K:PySem.W.Frag):R2:=fun x y H Q=>∃ a b xs ys,x=.ref a∧y=.ref b∧SqT K H a xs∧SqT K H b ys∧xs.length + ys.length≤sizeLine∧GotT K H (xs ++ ys) Q
theorem XaF:OpR X (binaryOp .Add) (rCatTA X.K):=by
 intro pins s σ H x y v u Q I rx ry h
 obtain ⟨a,b,xs,ys,rfl,rfl,ha,hb,hz,q⟩:=h
 by_cases hx:xs=[]
 ·subst hx
  cases rx
  cases ry
  obtain ⟨its,r1,p1,_⟩:=I.tuple ha
  obtain ⟨its2,r2,p2,_⟩:=I.tuple hb
  have e:its=[]:=r1.nil_iff.mpr rfl
  subst e
  obtain ⟨⟨cls,dd,data,sl⟩,ho,hc,n,hd⟩:=id p1
  obtain ⟨⟨cls2,dd2,data2,sl2⟩,ho2,hc2,n2,hd2⟩:=id p2
  simp only at hc hd hc2 hd2
  subst hc hd hc2 hd2
  exact concat_meets ⟨_,ho,rfl⟩ ⟨_,ho2,rfl⟩ noFill_tuple_add seq_tuple_add PySem.F.slot_tuple_add PySem.F.entry_tuple_add (PySem.F.args_tuple_add_2 _ _)
   (tuple_addW0 a b #[] its2.toArray n n2 dd dd2 sl sl2 (by simp)) ⟨ho,ho2,⟨.ref b,H,I,rfl,q.it (by simpa using hb)⟩⟩
 ·exact Zbk pins s σ H _ _ v u Q I rx ry ⟨a,b,xs,ys,rfl,rfl,ha,hb,hx,hz,fun e=>q.it (by subst e;simpa using ha),fun _=>q.new⟩
end
mutual
inductive Rep (K:PySem.W.Frag) (H:Hp):V→PyData→Prop
 | non:Rep K H .non .none
 | bl (b:Bool):Rep K H (.bl b) (.bool b)
 | int (i:Int):Rep K H (.int i) (.int i)
 | str (x:Str):Rep K H (.str x) (.str x)
 | tup {a:Addr} {xs:List V} {ds:List PyData}:SqT K H a xs→Reps K H xs ds→Rep K H (.ref a) (.tuple ds)
 | lst {a:Addr} {xs:List V} {ds:List PyData}:SqL K H a xs→Reps K H xs ds→Rep K H (.ref a) (.list ds)
inductive Reps (K:PySem.W.Frag) (H:Hp):List V→List PyData→Prop
 | nil:Reps K H [] []
 | cons {v:V} {vs:List V} {d:PyData} {ds:List PyData}:Rep K H v d→Reps K H vs ds→Reps K H (v :: vs) (d :: ds)
end
section
variable {X:Cx} {pins:List (Addr×Obj)} {σ:St} {H:Hp} {s:Shared}
mutual
theorem Rep.reads (I:Inv X pins σ H s):∀ {v:V} {d:PyData} {u:Value},Rep X.K H v d→RelV v u→∃ as,Reads s.heap u d as
 | _,_,_,.non,r=>by cases r;exact ⟨_,.none⟩
 | _,_,_,.bl b,r=>by cases r;exact ⟨_,.bool b⟩
 | _,_,_,.int i,r=>by obtain ⟨t,rfl⟩:=r;exact ⟨_,.int i t⟩
 | _,_,_,.str x,r=>by obtain ⟨t,rfl⟩:=r;exact ⟨_,.str x t⟩
 | _,_,_,.tup q rs,r=>by
  cases r
  obtain ⟨its,rv,⟨o,e,c,n,hd⟩,_⟩:=I.tuple q
  obtain ⟨as,ra⟩:=Reps.reads I rs rv
  exact ⟨_,.tuple e c hd (by simpa using ra)⟩
 | _,_,_,.lst q rs,r=>by
  cases r
  obtain ⟨its,rv,pl,_⟩:=I.list q
  obtain ⟨o,e,c,n,hd⟩:=pl.isList
  obtain ⟨as,ra⟩:=Reps.reads I rs rv
  exact ⟨_,.list e c hd (by simpa using ra)⟩
theorem Reps.reads (I:Inv X pins σ H s):∀ {vs:List V} {ds:List PyData} {us:List Value},Reps X.K H vs ds→Vals vs us→∃ as,ReadsAll s.heap us ds as
 | _,_,_,.nil,r=>by cases r;exact ⟨_,.nil⟩
 | _,_,_,.cons h t,r=>by
  cases r with
  | cons r1 r2 =>
   obtain ⟨as,h1⟩:=Rep.reads I h r1
   obtain ⟨bs,h2⟩:=Reps.reads I t r2
   exact ⟨_,.cons h1 h2⟩
end
noncomputable def rEqD (K:PySem.W.Frag) (neg:Bool):R2:=fun x y H Q=>∃ d e,Rep K H x d∧Rep K H y e∧PyData.canLay0 d=true∧PyData.canLay0 e=true∧min d.depth e.depth≤60∧Q (.bl (if neg then !PyData.eqv d e else PyData.eqv d e)) H
theorem zbg (hu:X.A.units + 64 < cLine):OpR X (compareOp .Eq) (rEqD X.K false):=by
 intro pins s σ H x y v u Q I rx ry h
 obtain ⟨d,e,hd,he,c1,c2,dp,q⟩:=h
 obtain ⟨as,ra⟩:=hd.reads I rx
 obtain ⟨bs,rb⟩:=he.reads I ry
 exact SeqAt.eqOverData X.prog X.w X.A X.xe s v u d e as bs _ ra rb c1 c2 (by omega) ⟨.bl _,H,I,rfl,q⟩
end
section
variable {K:PySem.W.Frag} {H:Hp}
noncomputable def intsD (ns:List Int):List PyData:=ns.map PyData.int
theorem Reps.ints:∀ (ns:List Int),Reps K H (ns.map V.int) (intsD ns)
 | []=>.nil
 | n :: r=>.cons (.int n) (Reps.ints r)
theorem xaw:∀ (ns:List Int),PyData.canLayAll0 (intsD ns)=true
 | []=>rfl
 | n :: r=>by show (true && PyData.canLayAll0 (intsD r))=true;rw [xaw r];rfl
theorem YaD:∀ (ns:List Int),PyData.depthAll (intsD ns)=0
 | []=>rfl
 | n :: r=>by show max 0 (PyData.depthAll (intsD r))=0;rw [YaD r];rfl
theorem zaG:∀ (ns ms:List Int),PyData.eqvAll (intsD ns) (intsD ms)=decide (ns=ms)
 | [],[]=>rfl
 | [],_ :: _=>rfl
 | _ :: _,[]=>rfl
 | n :: ns,m :: ms=>by
  show ((n == m) && PyData.eqvAll (intsD ns) (intsD ms))=decide (n :: ns=m :: ms)
  rw [zaG ns ms]
  by_cases h:n=m
  ·subst h;simp
  ·simp [h]
end
end L2
namespace L2
open PySem PySem.Spec PyProof.Rows
structure Def (K:PySem.W.Frag) (mg:Str→Option Value) (x:Str) (st:Stmt) (ps:List Str) (f:Addr) (fd:FuncData):Prop where
 F:Fun K x x st f fd
 be:∀ us:List Value,us.length=ps.length→bindArgs fd ⟨us,[]⟩=pure (ps.zip us)
 m:mg x=some (.ref f)
theorem Def.b {K:PySem.W.Frag} {mg:Str→Option Value} {x:Str} {st:Stmt} {ps:List Str} {f:Addr} {fd:FuncData} (D:Def K mg x st ps f fd):Binds K fd ps []:=.all D.be
theorem Yao {K:PySem.W.Frag} {h:Heap} {mg:Str→Option Value} (X:K.In h) (G:h.Ns mainGlobals mg) {x:Str} {st:Stmt} {ps:List Str} {f:Addr} {oc:Value} {od an:Option Addr} {osl:Array (Option Value)} {kV doc pm cdv ct:Value}
  (hb:∀ (kV doc pm:Value) (an:Option Addr) (cdv ct:Value) (us:List Value),us.length=ps.length→bindArgs (PySem.W.fnOf x x (defArgs st) (defBody st) (defScope st) .none kV doc pm an cdv ct) ⟨us,[]⟩=pure (ps.zip us))
  (a:PySem.W.nsIn K mainGlobals x=some (some (.ref f))) (l:K.lookup f=some ⟨oc,od,.func (PySem.W.fnOf x x (defArgs st) (defBody st) (defScope st) .none kV doc pm an cdv ct),osl⟩)
  (c:PySem.W.codeIn K cdv x=true) (k:PySem.W.keepIn K (.ref f)=true):∃ f fd,Def K mg x st ps f fd :=
 ⟨f,_,fun_mk l c k,hb kV doc pm an cdv ct,PySem.W.mg_of X G a⟩
theorem Def.bindsTo {K:PySem.W.Frag} {mg:Str→Option Value} {x p:Str} {st:Stmt} {f:Addr} {fd:FuncData} (D:Def K mg x st [p] f fd) (s:Shared) (u:Value):BindsTo s fd ⟨[u],[]⟩ [(p,u)]:=.of_eq (D.be [u] rfl)
theorem yaq {K:PySem.W.Frag} {h:Heap} {mg:Str→Option Value} (X:K.In h) (G:h.Ns mainGlobals mg) {x:Str} (z:PySem.W.nsIn K mainGlobals x=some none):mg x=none:=PySem.W.mg_none_of X G z
theorem atI_lt {α:Type} {xs:List α} {i:Int} (h0:0≤i) (h1:i < xs.length):∃ v,atI xs i=some v∧v∈xs:=by
 have hi:i.toNat < xs.length:=by omega
 refine ⟨xs[i.toNat],?_,List.getElem_mem hi⟩
 have:=xaY (xs:=xs) (j:=i.toNat) (v:=xs[i.toNat]) (by simp [hi])
 rwa [Int.toNat_of_nonneg h0] at this
theorem dT {c:Prop} [Decidable c] (h:decide c=true):c:=of_decide_eq_true h
end L2
namespace L2
open PySem PySem.Spec PyProof.Rows
section
variable {prog:Program} {w:World} {A:Around} {E:Value→Shared→Prop} {s:Shared}
end
section
variable {X:Cx} {e:Expr} {te:TE} {pos p0 p1 p2:Pos} {j:Nat}
noncomputable def RvR (X:Cx) (r:V→Hp→VK→Prop):Prop :=
 ∀ (pins:List (Addr×Obj)) (s:Shared) (σ:St) (H:Hp) (x:V) (v:Value) (sl:Addr) (u:Tok) (Q:VK),Inv X pins σ H s→RelV x v→s.heap.IsSliceOf sl .none .none (.int (-1) u)→r x H Q →
  ∃ T id,typeLookup (.type T) "__getitem__" = pure (some (.builtin id))∧s.TypeIs v T∧wpAny (model X.prog X.w) X.A (getItem v (.ref sl)) (EP X pins σ Q) X.xe s
theorem pe_rev {r:V→Hp→VK→Prop} (hr:RvR X r) (he:PE X e te):PE X (.Subscript e (.Slice none none (some (.UnaryOp .USub (.Constant (.int 1) j p1) p0)) p2) pos) (fun σ H Q=>te σ H fun x H1=>r x H1 Q):=by
 intro pins s σ H Q I h
 refine Subscript_ (thn (he pins s σ H _ I h) fun v s1 ⟨x,H1,I1,r1,q1⟩=>?_)
 refine wpAny_Slice ?_
 rw [evalPart_none]
 refine wpAny_pure (wpAny_pure ?_)
 rw [evalPart_some]
 refine thn ((xaS (X:=X) zaD (xaa (i:=1) (j:=j) (pos:=p1)) (pos:=p0)) pins s1 σ H1 (fun y H2=>y=.int (-1)∧H2=H1) I1 ⟨1,rfl,rfl,rfl⟩) fun w2 s3 ⟨y,H3,I3,r3,e3,e4⟩=>?_
 subst e3 e4
 obtain ⟨u,rfl⟩:=r3
 have I4:Inv X pins σ H3 { s3 with heap:=s3.heap.push { cls:=.type "slice",data:=.fields #[.none,.none,.int (-1) u] } }:=I3.kept (t':=s3.toks) fun b ob q=>Heap.get?_push_of_some _ q
 obtain ⟨T,id,hT,ht,hg⟩:=hr pins { s3 with heap:=s3.heap.push { cls:=.type "slice",data:=.fields #[.none,.none,.int (-1) u] } } σ H3 x v s3.heap.objs.size u Q I4 r1 (Heap.IsSliceOf.new ..) q1
 show wpAny (model X.prog X.w) X.A (subscriptTail e (.Slice none none (some (.UnaryOp .USub (.Constant (.int 1) j p1) p0)) p2) v (.ref s3.heap.objs.size)) (EP X pins σ Q) X.xe { s3 with heap:=s3.heap.push { cls:=.type "slice",data:=.fields #[.none,.none,.int (-1) u] } }
 exact tail_any (ops:=[v,.ref s3.heap.objs.size]) ht hT hg (by with_unfolding_all rfl)
theorem Xbk:RvR X (fun x H Q=>∃ a xs,x=.ref a∧SqL X.K H a xs∧∀ p,H p=none→Q (.ref p) (upd H p (.lst xs.reverse))):=by
 intro pins s σ H x v sl u Q I rx hs h
 obtain ⟨a,xs,rfl,hx,q⟩:=h
 cases rx
 obtain ⟨its,r,ht,hz⟩:=I.list hx
 have hlen:=r.length
 refine ⟨"list",_,slot_list_getitem.lookup,ht.isList.typeIs,?_⟩
 refine wpAny_getItem_list_slice ht.isList hs .none .none (.int (-1) u) (by simp) ?_ (by rw [List.size_toArray];omega)
 rw [PySem.W.krv_pick]
 refine ⟨.ref s.heap.objs.size,_,I.laid (t':=s.toks) (o:=.lst xs.reverse) (fun b ob q=>Heap.get?_push_of_some _ q) (Nat.le_refl _) ?_,rfl,q _ (I.hok.fresh (Nat.le_refl _))⟩
 exact ⟨by rw [List.length_reverse];exact hz,_,0,r.reverse,Heap.get?_push_size _ rfl⟩
end
end L2
namespace L2
open PySem PySem.Spec PyProof.Rows
section
variable {K:PySem.W.Frag} {f:Addr} {H0:Hp} {σ:St} {i:Nat} {t u ta tb:TE} {R R':V→Hp→Prop} {P P' P2:Int→Prop} {L M:Nat}
end
end L2
namespace L2
open PySem PySem.Spec PyProof.Rows
theorem xak:∀ (names:List (Str×NameKind)) (n:Nat) (acc:List (Str×Addr)),cellsFrom n names acc=cellsFrom n names [] ++ acc
 | [],_,_=>rfl
 | (x,k) :: r,n,acc=>by
  show (if k == .cell then cellsFrom (n + 1) r ((x,n) :: acc) else cellsFrom n r acc)=(if k == .cell then cellsFrom (n + 1) r [(x,n)] else cellsFrom n r []) ++ acc
  by_cases hk:(k == NameKind.cell)=true
  ·rw [if_pos hk,if_pos hk,xak r (n + 1) ((x,n) :: acc),xak r (n + 1) [(x,n)],List.append_assoc];rfl
  ·rw [if_neg hk,if_neg hk];exact xak r n acc
theorem Xas {x:Str} {c:Addr}:∀ (names:List (Str×NameKind)) (n:Nat),(x,c)∈cellsFrom n names []→(x,NameKind.cell)∈names∧n≤c
 | [],_,h=>nomatch h
 | (y,k) :: r,n,h=>by
  have h':(x,c)∈(if k == .cell then cellsFrom (n + 1) r [(y,n)] else cellsFrom n r []):=h
  by_cases hk:(k == NameKind.cell)=true
  ·rw [if_pos hk,xak] at h'
   rcases List.mem_append.mp h' with h' | h'
   ·obtain ⟨h1,h2⟩:=Xas r (n + 1) h'
    exact ⟨List.mem_cons_of_mem _ h1,by omega⟩
   ·have e:(x,c)=(y,n):=by simpa using h'
    cases e
    have e2:k=NameKind.cell:=by simpa using hk
    subst e2
    exact ⟨List.mem_cons_self,Nat.le_refl _⟩
  ·rw [if_neg hk] at h'
   obtain ⟨h1,h2⟩:=Xas r n h'
   exact ⟨List.mem_cons_of_mem _ h1,h2⟩
theorem Xat {env:Env} (f:Str×NameKind→List (Str×Addr)→Sem (ForInStep (List (Str×Addr))))
  (hf:∀ name kind cs,f (name,kind) cs=if kind == .free then (do let c ← cellOf env name;pure (.yield ((name,c) :: cs))) else pure (.yield cs)) :
  ∀ (names:List (Str×NameKind)) (acc:List (Str×Addr)),(∀ y∈names,y.2=NameKind.free→∃ c,env.cells.lookup y.1=some c) →
   ∃ cl,(forIn names acc f:Sem (List (Str×Addr)))=pure cl∧(∀ n c,(n,c)∈cl→(n,c)∈acc∨(env.cells.lookup n=some c∧(n,NameKind.free)∈names))∧(∀ p∈acc,p∈cl)∧∀ n,(n,NameKind.free)∈names→∃ c,(n,c)∈cl
 | [],acc,_=>⟨acc,by rw [List.forIn_nil],fun n c h=>.inl h,fun p h=>h,fun n h=>nomatch h⟩
 | (x,k) :: r,acc,h=>by
  have hr:∀ y∈r,y.2=NameKind.free→∃ c,env.cells.lookup y.1=some c:=fun y hy=>h y (List.mem_cons_of_mem _ hy)
  by_cases hk:k=NameKind.free
  ·subst hk
   obtain ⟨c,hc⟩:=h (x,.free) List.mem_cons_self rfl
   have e:cellOf env x=pure c:=by unfold cellOf;rw [hc]
   obtain ⟨cl,e1,h1,h2,h3⟩:=Xat f hf r ((x,c) :: acc) hr
   refine ⟨cl,?_,fun n d hd=>?_,fun p hp=>h2 p (List.mem_cons_of_mem _ hp),fun n hn=>?_⟩
   ·rw [List.forIn_cons,hf,if_pos (by rfl),e]
    exact e1
   ·rcases h1 n d hd with q | ⟨q,q'⟩
    ·rcases List.mem_cons.mp q with q | q
     ·cases q;exact .inr ⟨hc,List.mem_cons_self⟩
     ·exact .inl q
    ·exact .inr ⟨q,List.mem_cons_of_mem _ q'⟩
   ·rcases List.mem_cons.mp hn with q | q
    ·cases q;exact ⟨c,h2 _ List.mem_cons_self⟩
    ·exact h3 n q
  ·obtain ⟨cl,e1,h1,h2,h3⟩:=Xat f hf r acc hr
   have hb:¬ ((k == NameKind.free)=true):=by simpa using hk
   refine ⟨cl,?_,fun n d hd=>?_,h2,fun n hn=>?_⟩
   ·rw [List.forIn_cons,hf,if_neg hb]
    exact e1
   ·rcases h1 n d hd with q | ⟨q,q'⟩
    ·exact .inl q
    ·exact .inr ⟨q,List.mem_cons_of_mem _ q'⟩
   ·rcases List.mem_cons.mp hn with q | q
    ·cases q;exact absurd rfl hk
    ·exact h3 n q
theorem xaD {scope:Scope} {env:Env} (h:∀ y∈scope.names,y.2=NameKind.free→∃ c,env.cells.lookup y.1=some c) :
  ∃ cl,closureFor scope env=pure cl∧(∀ n c,(n,c)∈cl→env.cells.lookup n=some c∧(n,NameKind.free)∈scope.names)∧∀ n,(n,NameKind.free)∈scope.names→∃ c,(n,c)∈cl:=by
 have key:∀ (f:Str×NameKind→List (Str×Addr)→Sem (ForInStep (List (Str×Addr)))),(∀ name kind cs,f (name,kind) cs=if kind == .free then (do let c ← cellOf env name;pure (.yield ((name,c) :: cs))) else pure (.yield cs)) →
   ∃ cl,((forIn scope.names [] f:Sem (List (Str×Addr))) >>= fun r=>pure r)=pure cl∧(∀ n c,(n,c)∈cl→env.cells.lookup n=some c∧(n,NameKind.free)∈scope.names)∧∀ n,(n,NameKind.free)∈scope.names→∃ c,(n,c)∈cl:=fun f hf=>by
  obtain ⟨cl,e,h1,_,h3⟩:=Xat f hf scope.names [] h
  refine ⟨cl,?_,fun n c hc=>(h1 n c hc).elim (fun z=>nomatch z) id,h3⟩
  rw [e]
  rfl
 simp only [closureFor]
 exact key _ fun name kind cs=>by cases hk:kind == NameKind.free <;> simp [hk]
theorem ltN {a b:Addr} (h:a < b):@LT.lt Nat _ a b:=h
theorem neL {a b:Addr} (h:@LT.lt Nat _ a b):a≠b:=Nat.ne_of_lt h
theorem neG {a b:Addr} (h:@LT.lt Nat _ b a):a≠b:=Nat.ne_of_gt h
theorem xaM {M:Model} {A:Around} {E:Value→Shared→Prop} {s:Shared} {scope:Scope} {g:Addr} {cl:List (Str×Addr)} {q:Str} {env:Env} {Q:Env→Shared→Prop}
  (h:∀ h',h'.Ns s.heap.objs.size (fun _=>none)→(∀ b o,s.heap.get? b=some o→h'.get? b=some o)→CellsOk h' (s.heap.objs.size + 1) (cellsFrom (s.heap.objs.size + 1) scope.names []) →
   Q { scope:=scope,locals:=s.heap.objs.size,globals:=g,cells:=cellsFrom (s.heap.objs.size + 1) scope.names cl,qual:=q,func:=none,code:=env.code,frame:=env.frame,builtins:=env.builtins } { s with heap:=h' }) :
  wpAny M A (newFunctionEnv scope g cl [] q none .none (some env)) Q E s:=by
 simp only [newFunctionEnv,Option.isSome_some,if_true]
 refine wpAny_bind (wpAny_alloc ?_)
 refine wpAny_bind (wpAny_layCells _ (fun name kind cells=>by cases hkc:kind == NameKind.cell <;> simp [hkc]) _ _ _ _ ?_)
 have ok:=cellsFrom_ok scope.names (s.heap.push { cls:=.type "dict",data:=.dict #[] }) (s.heap.objs.size + 1) [] ⟨fun _ _ hm=>(nomatch hm),List.Pairwise.nil⟩ (by rw [Heap.size_push];exact Nat.le_refl _)
 rw [Heap.size_push] at ok
 rw [show ({ s with heap:=s.heap.push { cls:=.type "dict",data:=.dict #[] } }:Shared).heap.objs.size=s.heap.objs.size + 1 from Heap.size_push ..]
 refine wpAny_bind ?_
 rw [List.forIn_nil]
 refine wpAny_pure (wpAny_pure ?_)
 exact h _ ((Heap.Ns.new s.heap (.type "dict")).keeps (pushCells_keeps _ _)) (fun b o e=>pushCells_keeps _ _ b o (Heap.get?_push_of_some _ e)) ok
noncomputable def cxComp (X:Cx) (N:List Str) (scope:Scope) (cells:List (Str×Addr)) (C:Addr) (fp:List Addr) (s:Shared) (H:Hp):Cx where
 prog:=X.prog
 w:=X.w
 K:=X.K
 mg:=X.mg
 base:=X.base
 A:=X.A
 N:=N
 s₀:=s
 H₀:=H
 env:=compEnvC scope cells C X.env
 outer:=X.stack
 stack:=X.stack
 ex:=fp
 fn:=fun x=>decide (scope.names.lookup x=some .cell)
 calm:=X.calm
 pn:=[]
 xe:=fun _ _=>False
noncomputable def relabelS (scope sc:Scope):Scope :=
 { scope with names:=scope.names.map fun (n,k)=>if (k == .free && sc.kind == .function && sc.names.lookup n == some .cell) then (n,.cell) else (n,k) }
structure CompS (sc scope:Scope) (own fr:List Str):Prop where
 kind:scope.kind=.function
 nd:(own ++ fr).Nodup
 ndn:(scope.names.map (·.1)).Nodup
 free:∀ y∈scope.names,y.2=.free→sc.names.lookup y.1=some .cell∨sc.names.lookup y.1=some .free
 frl:∀ x∈fr,scope.names.lookup x=some .free
structure CompSc (X:Cx) (scope:Scope) (own fr:List Str) (js:List Nat):Prop where
 c:CompS X.env.scope scope own fr
 ix:js.map (fun j=>X.N[j]?)=fr.map some
theorem CompSc.kind {X:Cx} {scope:Scope} {own fr:List Str} {js:List Nat} (S:CompSc X scope own fr js):scope.kind=.function:=S.c.kind
theorem CompSc.ndn {X:Cx} {scope:Scope} {own fr:List Str} {js:List Nat} (S:CompSc X scope own fr js):(scope.names.map (·.1)).Nodup:=S.c.ndn
theorem CompSc.frl {X:Cx} {scope:Scope} {own fr:List Str} {js:List Nat} (S:CompSc X scope own fr js):∀ x∈fr,scope.names.lookup x=some .free:=S.c.frl
theorem CompSc.free {X:Cx} {scope:Scope} {own fr:List Str} {js:List Nat} (S:CompSc X scope own fr js):∀ y∈scope.names,y.2=.free→X.env.kindOf y.1=some .cell∨X.env.kindOf y.1=some .free:=S.c.free
theorem Xak {α:Type}:∀ {l:List (Str×α)} {n:Str} {c:α},(l.map (·.1)).Nodup→(n,c)∈l→l.lookup n=some c
 | (k,v) :: r,n,c,nd,h=>by
  obtain ⟨h1,h2⟩:=List.nodup_cons.mp nd
  rw [List.lookup_cons]
  rcases List.mem_cons.mp h with e | h
  ·cases e;simp
  ·have:(n == k)=false:=beq_eq_false_iff_ne.mpr fun e=>h1 (by rw [← e];exact List.mem_map.mpr ⟨(n,c),h,rfl⟩)
   rw [this]
   exact Xak h2 h
theorem zaz (scope:Scope) (env:Env) (x:Str):(relabel scope env).names.lookup x=none∧scope.names.lookup x=none ∨
  ∃ k,scope.names.lookup x=some k∧(relabel scope env).names.lookup x=some (if (k == .free && env.scope.kind == .function && env.kindOf x == some .cell) then .cell else k):=by
 have key:∀ names:List (Str×NameKind),(names.map fun (n,k)=>if (k == NameKind.free && env.scope.kind == .function && env.kindOf n == some .cell) then (n,NameKind.cell) else (n,k)).lookup x=none∧names.lookup x=none ∨
   ∃ k,names.lookup x=some k∧(names.map fun (n,k)=>if (k == NameKind.free && env.scope.kind == .function && env.kindOf n == some .cell) then (n,NameKind.cell) else (n,k)).lookup x=some (if (k == .free && env.scope.kind == .function && env.kindOf x == some .cell) then .cell else k):=by
  intro names
  induction names with
  | nil=>exact .inl ⟨rfl,rfl⟩
  | cons p r ih =>
   obtain ⟨n,k⟩:=p
   rw [List.map_cons]
   cases hx:x == n with
   | true =>
    have e:x=n:=by simpa using hx
    subst e
    refine .inr ⟨k,by simp [List.lookup_cons],?_⟩
    by_cases hc:(k == NameKind.free && env.scope.kind == .function && env.kindOf x == some .cell)=true
    ·simp only [if_pos hc];simp [List.lookup_cons]
    ·simp only [if_neg hc];simp [List.lookup_cons]
   | false =>
    have e1:∀ q:NameKind,(((n,q) :: (r.map fun (n,k)=>if (k == NameKind.free && env.scope.kind == .function && env.kindOf n == some .cell) then (n,NameKind.cell) else (n,k))).lookup x)=((r.map fun (n,k)=>if (k == NameKind.free && env.scope.kind == .function && env.kindOf n == some .cell) then (n,NameKind.cell) else (n,k)).lookup x):=fun q=>by rw [List.lookup_cons,hx]
    have e2:((n,k) :: r).lookup x=r.lookup x:=by rw [List.lookup_cons,hx]
    rw [e2]
    by_cases hc:(k == NameKind.free && env.scope.kind == .function && env.kindOf n == some .cell)=true
    ·simp only [if_pos hc];rw [e1];exact ih
    ·simp only [if_neg hc];rw [e1];exact ih
 exact key scope.names
noncomputable def compSt (n:Nat) (js:List Nat) (σ:St):St:=List.replicate n none ++ js.map fun j=>σ.getD j none
theorem Inv.track {X:Cx} {pins:List (Addr×Obj)} {σ:St} {H:Hp} {s:Shared} {a:Addr} {o:HO} (I:Inv X pins σ H s) (f:FpOk X pins H a) (new:ObjOk X.prog X.w (upd H a o) s.heap a o):Inv X pins σ (upd H a o) s:=by
 obtain ⟨f0,f1,f2,f3,f4,f5⟩:=f
 have ne:∀ b u,H b=some u→b≠a:=fun b u e z=>by rw [z,f0] at e;cases e
 refine I.step (h':=s.heap) (H':=upd H a o) (g':=s.gens) (d':=s.drawn) (t':=s.toks) (ch:=[a]) (fun b hb=>?_) (fun b u _ _ _ e _=>e) (fun b u _ _ _ e _=>⟨u.slots,e⟩) (fun b u hb e n=>?_) (fun b u _ e=>⟨u,e⟩)
  (fun b xs e=>by rw [xae (ne b _ e)];exact e) (fun b u xs e=>by rw [xae (ne b _ e)];exact e) (fun b ps e=>⟨#[],by rw [xae (ne b _ e),e];simp⟩) (fun m hm=>hm) (fun b u e=>?_) I.bare
 ·have e:b=a:=by simpa using hb
  subst e
  exact ⟨f3,f1,f4,f5⟩
 ·rw [xae (fun z=>hb (by simp [z]))];exact n
 ·by_cases hb:b=a
  ·subst hb;rw [xah] at e;cases e;exact new
  ·rw [xae hb] at e
   exact (I.hok b u e).stay (fun c v _ q=>q) (fun c q=>by rw [xae (ne c _ q)];exact q) fun c xs q=>by rw [xae (ne c _ q)];exact q
noncomputable def PF (X:Cx) (ifs:List Expr) (t:TT):Prop :=
 ∀ (pins:List (Addr×Obj)) (s:Shared) (σ:St) (H:Hp) (Q:Bool→Hp→Prop),Inv X pins σ H s→t σ H Q →
  wpAny (model X.prog X.w) X.A (forIn ifs true fun c r=>if r=true then do let ok ← isTrue c X.env (eval c X.env);pure (ForInStep.yield ok) else pure (ForInStep.yield r)) (TP X pins σ Q) X.xe s
theorem ybg {X:Cx}:PF X [] (fun _ H Q=>Q true H):=fun _ _ _ H _ I h=>wpAny_tests_nil ⟨H,I,h⟩
theorem XaM {prog:Program} {w:World} {A:Around} {R:Result→Shared→Prop} {s:Shared} {elt target iter:Expr} {ifs:List Expr} {scope:Scope} {pos:Pos} {it acc:Value} {env:Env} (I:Nat→Shared→Prop)
  (turn:∀ n s,I n s→wpAny (model prog w) A (pyNext it) (fun r s₁=>match r with
   | none=>R (.ok .next) s₁
   | some v=>wpAny (model prog w) A (letOwnedTupleGo target it v) (fun _ s₁'=>wpAny (model prog w) A (assign target env v) (fun _ s₂ =>
     wpAny (model prog w) A (forIn ifs true fun c r=>if r=true then do let ok ← isTrue c env (eval c env);pure (ForInStep.yield ok) else pure (ForInStep.yield r)) (fun ok s₃ =>
      if ok=true then wpAny (model prog w) A (eval elt env) (fun x s₄ =>
       wpAny (model prog w) A (call (.builtin "list.append") [acc,x]) (fun _ s₅=>∃ m,m < n∧I m s₅) (fun _ _=>False) s₄) (fun _ _=>False) s₃
      else ∃ m,m < n∧I m s₃) (fun _ _=>False) s₂) (fun _ _=>False) s₁') (fun _ _=>False) s₁) (fun _ _=>False) s)
  (n:Nat) (h:I n s) :
  codeAny (model prog w) A (.compLoop (.ListComp elt [⟨target,iter,ifs,0⟩] scope pos) 0 it acc env) R s:=by
 refine codeAny_loop rfl I (fun n s hI=>?_) n h
 show wpAny _ A ((compTurn (.ListComp elt [⟨target,iter,ifs,0⟩] scope pos) 0 it acc env).onRaise (fun x=>do noteFrame x env;theTreesLotGoes x)) _ _ s
 refine wpAny_noted ?_
 rw [compTurn_list]
 refine wpAny_bind (wpAny_standAt (wpAny_bind (wpAny_mono (turn n s hI) (fun r s₁ h₁=>?_) fun _ _ h'=>h'.elim)))
 cases r with
 | none=>exact wpAny_pure h₁
 | some v =>
  refine wpAny_bind (wpAny_mono h₁ (fun _ s₁' h₁'=>?_) fun _ _ h'=>h'.elim)
  refine wpAny_bind (wpAny_mono h₁' (fun _ s₂ h₂=>wpAny_bind (wpAny_mono h₂ (fun ok s₃ h₃=>?_) fun _ _ h'=>h'.elim)) fun _ _ h'=>h'.elim)
  cases ok with
  | false=>exact wpAny_pure ⟨rfl,h₃⟩
  | true =>
   exact wpAny_bind (wpAny_bind (wpAny_mono h₃ (fun x s₄ h₄=>wpAny_bind (wpAny_mono h₄ (fun _ s₅ h₅=>wpAny_pure (wpAny_pure ⟨rfl,h₅⟩)) fun _ _ h'=>h'.elim)) fun _ _ h'=>h'.elim))
noncomputable def CompGo (J:It) (n:Nat) (js:List Nat) (g:TG) (tc:TT) (te:TE) (σ:St) (H1:Hp) (Q:VK):Prop :=
 ∃ W:Nat→Nat→List V→St→Hp→Prop,(∃ m,W 0 m [] (compSt n js σ) H1)∧∀ i m ys σ' H',W i m ys σ' H' →
  ys.length < sizeLine∧((J.stop i H'∧∀ p,H' p=none→Q (.ref p) (upd H' p (.lst ys))) ∨
   (J.go i H'∧∀ x H2,J.yld i H' x H2→g x σ' H2 fun σ2 H3=>tc σ2 H3 fun b H4=>if b=true then te σ2 H4 fun y H5=>∃ m',m' < m∧W (i + 1) m' (ys ++ [y]) σ2 H5 else ∃ m',m' < m∧W (i + 1) m' ys σ2 H4))
noncomputable def tComp (wi:TI) (n:Nat) (js:List Nat) (g:TG) (tc:TT) (te:TE):TE:=fun σ H Q=>wi σ H fun J H1=>CompGo J n js g tc te σ H1 Q
section
variable {X:Cx} {pins:List (Addr×Obj)} {σ:St} {tg iter elt:Expr} {ifs:List Expr} {scope:Scope} {pos:Pos} {own fr:List Str} {js:List Nat} {g:TG} {tc:TT} {te:TE} {wi:TI}
theorem XaD {H2:Hp} {s2:Shared} {it:Addr} {fp:List Addr} {tn:Nat→Heap→Prop} {J:It} {Q:VK} {E:Value→Shared→Prop} {cl:List (Str×Addr)} {RR:Value→Addr→Result→Shared→Prop}
  (hc:X.calm=true) (S:CompSc X scope own fr js) (hg:∀ cells C fp s H,PG (cxComp X (own ++ fr) scope cells C fp s H) tg g) (hf:∀ cells C fp s H,PF (cxComp X (own ++ fr) scope cells C fp s H) ifs tc) (he:∀ cells C fp s H,PE (cxComp X (own ++ fr) scope cells C fp s H) elt te)
  (I2:Inv X pins σ H2 s2) (T:Turn X.prog X.w X.K tg J fp it tn) (st2:tn 0 s2.heap) (f2:∀ b∈fp,FpOk X pins H2 b)
  (hcl1:∀ n c,(n,c)∈cl→X.env.cells.lookup n=some c∧(n,NameKind.free)∈scope.names) (hcl2:∀ n,(n,NameKind.free)∈scope.names→∃ c,(n,c)∈cl)
  (W:Nat→Nat→List V→St→Hp→Prop) (m0:Nat) (w0:W 0 m0 [] (compSt own.length js σ) H2)
  (turn:∀ i m ys σ' H',W i m ys σ' H'→ys.length < sizeLine∧((J.stop i H'∧∀ p,H' p=none→Q (.ref p) (upd H' p (.lst ys))) ∨
   (J.go i H'∧∀ x H2,J.yld i H' x H2→g x σ' H2 fun σ2 H3=>tc σ2 H3 fun b H4=>if b=true then te σ2 H4 fun y H5=>∃ m',m' < m∧W (i + 1) m' (ys ++ [y]) σ2 H5 else ∃ m',m' < m∧W (i + 1) m' ys σ2 H4)))
  (fin:∀ (acc C:Addr) (H':Hp) (s':Shared) (v:V),v=.ref acc→Inv X pins σ H' s'→FpOk X pins H' C→(∃ m,s'.heap.Ns C m)→Q v H'→RR (.ref acc) C (.ok .next) s') :
  wpAny (model X.prog X.w) X.A (newList []) (fun acc s3=>wpAny (model X.prog X.w) X.A (newFunctionEnv scope X.env.globals cl [] X.env.qual none .none (some X.env)) (fun cenv s4 =>
   codeAny (model X.prog X.w) X.A (.compStart (.ListComp elt [⟨tg,iter,ifs,0⟩] scope pos) 0 (.ref it) acc { cenv with scope:=relabel scope X.env }) (RR acc cenv.locals) s4) E s3) E s2:=by
 refine wpAny_newObj_type ?_
 refine xaM fun h4 hns hk4 hcells=>?_
 have hA:s2.heap.objs.size < (s2.heap.push { cls:=.type "list",data:=.seq ([]:List Value).toArray }).objs.size:=by rw [Heap.size_push];exact Nat.lt_succ_self _
 generalize hC:(s2.heap.push { cls:=.type "list",data:=.seq ([]:List Value).toArray }).objs.size=C at hns hcells hA ⊢
 generalize hac:s2.heap.objs.size=acc at hA ⊢
 have hAC:acc≠C:=Nat.ne_of_lt hA
 have old:∀ b o,s2.heap.get? b=some o→h4.get? b=some o:=fun b o e=>hk4 b o (Heap.get?_push_of_some _ e)
 have hacc:h4.get? acc=some { cls:=.type "list",data:=.seq ([]:List Value).toArray }:=hk4 _ _ (by rw [← hac];exact Heap.get?_push_size _ rfl)
 have inA:∀ x c,(x,c)∈cellsFrom (C + 1) scope.names []→h4.IsCell c none∧C + 1≤c∧scope.names.lookup x=some .cell:=fun x c h=>⟨(hcells.empty x c h).1,(hcells.empty x c h).2,Xak S.ndn (Xas _ _ h).1⟩
 have lk:∀ x c,(cellsFrom (C + 1) scope.names cl).lookup x=some c→(h4.IsCell c none∧C + 1≤c∧(x,c)∈cellsFrom (C + 1) scope.names [])∨(X.env.cells.lookup x=some c∧scope.names.lookup x=some .free):=fun x c h=>by
  rw [xak] at h
  rcases List.mem_append.mp (PySem.mem_of_lookup h) with q | q
  ·exact .inl ⟨(inA x c q).1,(inA x c q).2.1,q⟩
  ·exact .inr ⟨(hcl1 x c q).1,Xak S.ndn (hcl1 x c q).2⟩
 have lt2:∀ x c,X.env.cells.lookup x=some c→c < s2.heap.objs.size:=fun x c h=>by
  obtain ⟨v,z⟩:=I2.cell x c h
  exact z.lt
 have cellC:∀ x c,(cellsFrom (C + 1) scope.names cl).lookup x=some c→c≠C∧c≠acc∧H2 c=none∧∀ b∈fp,c≠b:=fun x c h=>by
  rcases lk x c h with ⟨_,h1,_⟩ | ⟨h1,_⟩
  ·refine ⟨neG (by omega),neG (by omega),I2.hok.fresh (by omega),fun b hb z=>?_⟩
   obtain ⟨o,e,_⟩:=T.obj 0 _ st2 b hb
   have:=ltN (Heap.lt_size e)
   rw [← z] at this
   omega
  ·have:=ltN (lt2 x c h1)
   exact ⟨neL (by omega),neL (by omega),I2.freeC x c h1,fun b hb=>(f2 b hb).2.2.2.2.1 x c h1⟩
 have frlk:∀ x,scope.names.lookup x=some .free→∃ c,X.env.cells.lookup x=some c∧(cellsFrom (C + 1) scope.names cl).lookup x=some c:=fun x h=>by
  obtain ⟨c,hcm⟩:=hcl2 x (PySem.mem_of_lookup h)
  have hc1:=(hcl1 x c hcm).1
  have hs:((cellsFrom (C + 1) scope.names cl).lookup x).isSome=true:=by
   refine PySem.W.cellsFrom_some scope.names (C + 1) cl (.inr ?_)
   cases q:cl.lookup x with
   | some d=>rfl
   | none =>
    exfalso
    have:∀ {l:List (Str×Addr)},(x,c)∈l→l.lookup x≠none:=by
     intro l
     induction l with
     | nil=>intro h;exact nomatch h
     | cons p r ih =>
      intro h z
      obtain ⟨k,v⟩:=p
      rw [List.lookup_cons] at z
      cases hb:x == k with
      | true=>rw [hb] at z;cases z
      | false =>
       rw [hb] at z
       rcases List.mem_cons.mp h with e | h
       ·cases e;simp at hb
       ·exact ih h z
    exact this hcm q
  obtain ⟨d,hd⟩:=Option.isSome_iff_exists.mp hs
  rcases lk x d hd with ⟨_,_,h2⟩ | ⟨h1,_⟩
  ·have:=(inA x d h2).2.2
   rw [h] at this;cases this
  ·rw [hc1] at h1;cases h1
   exact ⟨c,hc1,hd⟩
 have fpd:∀ b∈fp,b≠C∧b≠acc:=fun b hb=>by
  obtain ⟨o,e,_⟩:=T.obj 0 _ st2 b hb
  have:=ltN (Heap.lt_size e)
  exact ⟨neL (by omega),neL (by omega)⟩
 have kfn:(relabel scope X.env).kind=.function:=S.kind
 have ok:(cxComp X (own ++ fr) scope (cellsFrom (C + 1) scope.names cl) C fp s2 H2).Ok:=by
  refine ⟨I2.ok.mod,kfn,I2.ok.glob,I2.ok.blt,?_,fun x y c h1 h2=>?_,fun x hx=>?_,fun x c hx h=>?_,I2.ok.hd,I2.ok.frames,.inl rfl,fun b hb=>⟨(fpd b hb).1,fun x c h=>(cellC x c h).2.2.2 b hb⟩,I2.bs,Nat.le_trans I2.ok.bsz I2.sz,fun b o e hb=>?_,fun b hb z=>?_,I2.stack,I2.stkFree⟩
  ·show s2.heap.objs.size≤C
   omega
  ·rcases lk x c h1 with ⟨_,q1,q2⟩ | ⟨q1,_⟩
   ·rcases lk y c h2 with ⟨_,r1,r2⟩ | ⟨r1,_⟩
    ·exact name_of_addr hcells.apart q2 r2
    ·have:=ltN (lt2 y c r1);omega
   ·rcases lk y c h2 with ⟨_,r1,r2⟩ | ⟨r1,_⟩
    ·have:=ltN (lt2 x c q1);omega
    ·exact I2.ok.inj x y c q1 r1
  ·have hx':(relabel scope X.env).names.lookup x=some .cell∨(relabel scope X.env).names.lookup x=some .free:=hx
   rcases zaz scope X.env x with ⟨e,_⟩ | ⟨k,e1,e2⟩
   ·rcases hx' with z | z <;> (rw [e] at z;cases z)
   ·by_cases hk:k=.free
    ·subst hk
     obtain ⟨c,_,h⟩:=frlk x e1
     exact ⟨c,h⟩
    ·have hk':k=.cell:=by
      have hb:(k == NameKind.free)=false:=beq_eq_false_iff_ne.mpr hk
      rw [hb] at e2
      simp only [Bool.false_and,Bool.false_eq_true,if_false] at e2
      rcases hx' with z | z
      ·rw [e2] at z;exact Option.some.inj z
      ·rw [e2] at z;exact absurd (Option.some.inj z) hk
     subst hk'
     exact Option.isSome_iff_exists.mp (PySem.W.cellsFrom_some scope.names (C + 1) cl (.inl e1))
  ·have hx':scope.names.lookup x=some .cell:=of_decide_eq_true hx
   show s2.heap.objs.size≤c
   rcases lk x c h with ⟨_,q,_⟩ | ⟨_,q⟩
   ·omega
   ·rw [hx'] at q;cases q
  ·rcases (f2 b hb).2.2.2.1 with z | z
   ·exact I2.ok.noex b o e z
   ·have h1:@LT.lt Nat _ b X.base.objs.size:=Heap.lt_size e
    have h2:=I2.ok.bsz
    omega
  ·rcases List.mem_cons.mp (I2.stkSub b z) with e | e
   ·exact (f2 b hb).2.1 e
   ·exact (f2 b hb).2.2.1 e
 have I4:Inv (cxComp X (own ++ fr) scope (cellsFrom (C + 1) scope.names cl) C fp s2 H2) [(acc,{ cls:=.type "list",data:=.seq ([]:List Value).toArray })] (compSt own.length js σ) H2 { s2 with heap:=h4 }:=by
  refine ⟨ok,rfl,I2.bare,Un.kept old,⟨_,hns,fun i x v e1 e2 e3=>?_⟩,fun x c h=>?_,I2.hok.fresh (by show s2.heap.objs.size≤C;omega),fun x c h=>(cellC x c h).2.2.1,fun p hp=>?_,I2.hok.kept old,?_⟩
  ·have e1':(own ++ fr)[i]?=some x:=e1
   unfold compSt at e2
   by_cases hi:i < own.length
   ·rw [List.getElem?_append_left (by simpa using hi),List.getElem?_replicate] at e2
    split at e2 <;> cases e2
   ·rw [List.getElem?_append_right (by simpa using hi),List.length_replicate,List.getElem?_map] at e2
    rw [List.getElem?_append_right (by omega)] at e1'
    cases hj:js[i - own.length]? with
    | none=>rw [hj] at e2;cases e2
    | some j =>
     rw [hj] at e2
     have e2':σ.getD j none=some v:=Option.some.inj e2
     have hN:X.N[j]?=some x:=by
      have q:=congrArg (fun l=>l[i - own.length]?) S.ix
      simp only [List.getElem?_map,hj,e1',Option.map_some] at q
      exact Option.some.inj q
     have hσ:σ[j]?=some (some v):=by
      rw [List.getD_eq_getElem?_getD] at e2'
      cases q:σ[j]? with
      | none=>rw [q] at e2';cases e2'
      | some o=>rw [q] at e2';exact congrArg some e2'
     have hfr:scope.names.lookup x=some .free:=S.frl x (List.mem_of_getElem? e1')
     have hk:=S.free _ (PySem.mem_of_lookup hfr) rfl
     obtain ⟨m,_,hl⟩:=I2.loc
     obtain ⟨u,ru,lo⟩:=hl j x v hN hσ (by rcases hk with k | k;exact .inr (.inl k);exact .inr (.inr k))
     refine ⟨u,ru,.inr ⟨?_,?_⟩⟩
     ·rcases zaz scope X.env x with ⟨_,e⟩ | ⟨k,q1,q2⟩
      ·rw [hfr] at e;cases e
      ·rw [hfr] at q1;cases q1
       have q2':(compEnvC scope (cellsFrom (C + 1) scope.names cl) C X.env).kindOf x=some (if (NameKind.free == .free && X.env.scope.kind == .function && X.env.kindOf x == some .cell)=true then .cell else .free):=q2
       rw [show (cxComp X (own ++ fr) scope (cellsFrom (C + 1) scope.names cl) C fp s2 H2).env.kindOf x=_ from q2']
       split
       ·exact .inl rfl
       ·exact .inr rfl
     ·rcases lo with ⟨k,_⟩ | ⟨_,c,hc1,hc2⟩
      ·rcases hk with k' | k' <;> (rw [k] at k';cases k')
      ·obtain ⟨d,hd1,hd2⟩:=frlk x hfr
       rw [hc1] at hd1;cases hd1
       exact ⟨c,hd2,hc2.keeps old⟩
  ·rcases lk x c h with ⟨q,_,_⟩ | ⟨q,_⟩
   ·exact ⟨_,q⟩
   ·obtain ⟨v,z⟩:=I2.cell x c q
    exact ⟨v,z.keeps old⟩
  ·have e:p=(acc,{ cls:=.type "list",data:=.seq ([]:List Value).toArray }):=by simpa [cxComp] using hp
   subst e
   refine ⟨hacc,I2.hok.fresh (by omega),hAC,fun z=>?_,fun v z=>nomatch z⟩
   rcases List.mem_cons.mp (I2.stkSub acc z) with e | e
   ·have:=ltN I2.lt
    rw [← e] at this
    omega
   ·exact I2.nofs (by omega) e
  ·show (compSt own.length js σ).length=(own ++ fr).length
   have q:=congrArg List.length S.ix
   simp only [List.length_map] at q
   unfold compSt
   rw [List.length_append,List.length_replicate,List.length_map,List.length_append,q]
 have fpC:∀ {H':Hp} {ob:Obj},(∀ b∈fp,H' b=none)→∀ b∈fp,FpOk (cxComp X (own ++ fr) scope (cellsFrom (C + 1) scope.names cl) C fp s2 H2) [(acc,ob)] H' b:=fun {H' ob} hn b hb =>
  ⟨hn b hb,(fpd b hb).1,fun z=>by
   rcases List.mem_cons.mp (I2.stkSub b z) with e | e
   ·exact (f2 b hb).2.1 e
   ·exact (f2 b hb).2.2.1 e,.inl hb,fun x c h=>(cellC x c h).2.2.2 b hb,fun p hp=>by
   have e:p=(acc,ob):=by simpa [cxComp] using hp
   subst e
   exact fun z=>(fpd b hb).2 z.symm⟩
 have loop:codeAny (model X.prog X.w) X.A (.compLoop (.ListComp elt [⟨tg,iter,ifs,0⟩] scope pos) 0 (.ref it) (.ref acc) (compEnvC scope (cellsFrom (C + 1) scope.names cl) C X.env)) (RR (.ref acc) C) { s2 with heap:=h4 }:=by
  refine XaM (fun m s'=>∃ (i:Nat) (ys:List V) (its:List Value) (n:Nat) (σ':St) (H':Hp),Inv (cxComp X (own ++ fr) scope (cellsFrom (C + 1) scope.names cl) C fp s2 H2) [(acc,{ cls:=.type "list",data:=.seq its.toArray n })] σ' H' s'∧Vals ys its∧tn i s'.heap∧(∀ b∈fp,H' b=none)∧W i m ys σ' H') ?_ m0
   ⟨0,[],[],0,_,H2,I4,.nil,T.keep _ _ _ st2 fun b _ o e=>old b o e,fun b hb=>(f2 b hb).1,w0⟩
  rintro n s5 ⟨i,ys,its,en,σ5,H5,I5,rv,st5,fr5,w5⟩
  obtain ⟨hz,alt⟩:=turn i n ys σ5 H5 w5
  rcases alt with ⟨stop,qn⟩ | ⟨go,step⟩
  ·refine thn (T.done (cxComp X (own ++ fr) scope (cellsFrom (C + 1) scope.names cl) C fp s2 H2) rfl rfl rfl hc i _ s5 σ5 H5 _ I5 (fpC fr5) st5 stop) fun r s6 ⟨hr,I6⟩=>?_
   subst hr
   show RR (.ref acc) C (.ok .next) s6
   have u:Un (frs X.stack) fp H2 H5 s2.heap s6.heap:=I6.base
   have J6:Inv X pins σ H5 s6:=I2.call' I6.os u I6.hok I6.bare fun b hb=>⟨(f2 b hb).2.2.2.1,(f2 b hb).2.1,(f2 b hb).2.2.2.2.1,(f2 b hb).2.2.2.2.2⟩
   have pacc:=I6.pin (acc,_) (List.mem_append_right _ List.mem_cons_self)
   have facc:FpOk X pins H5 acc:=I2.fpOk (by omega) pacc.2.1
   have fC:FpOk X pins H5 C:=I2.fpOk (by omega) I6.free
   have K6:Inv X pins σ (upd H5 acc (.lst ys)) s6:=J6.track facc ⟨Nat.le_of_lt hz,its,en,rv,pacc.1⟩
   obtain ⟨m,hm,_⟩:=I6.loc
   exact fin acc C _ s6 (.ref acc) rfl K6 ⟨by rw [xae hAC.symm];exact fC.1,fC.2⟩ ⟨m,hm⟩ (qn acc pacc.2.1)
  ·refine thn (T.item (cxComp X (own ++ fr) scope (cellsFrom (C + 1) scope.names cl) C fp s2 H2) rfl rfl rfl hc i _ s5 σ5 H5 _ I5 (fpC fr5) st5 go) fun r s6 ⟨u,hr,h6⟩=>?_
   subst hr
   refine thn h6 fun _ s7 ⟨x,H7,I7,r7,y7,st7,fr7⟩=>?_
   have I7':=I7.pinned (fpC fr7) (T.obj _ _ st7)
   refine thn (hg _ _ _ _ _ _ s7 σ5 H7 x u _ I7' r7 (step x H7 y7)) fun _ s8 ⟨σ8,H8,I8,q8⟩=>?_
   refine thn (hf _ _ _ _ _ _ s8 σ8 H8 _ I8 q8) fun b s9 ⟨H9,I9,q9⟩=>?_
   have tnk:∀ {s':Shared} {σ':St} {H':Hp},Inv (cxComp X (own ++ fr) scope (cellsFrom (C + 1) scope.names cl) C fp s2 H2) ([(acc,{ cls:=.type "list",data:=.seq its.toArray en })] ++ pinsAt fp s7.heap) σ' H' s'→tn (i + 1) s'.heap∧∀ b∈fp,H' b=none:=fun {s' σ' H'} I' =>
    ⟨T.keep _ _ _ st7 fun b hb o e=>(I'.pin (b,o) (List.mem_append_right _ (List.mem_append_right _ (xav hb e)))).1,fun b hb=>by
     obtain ⟨o,e,d⟩:=T.obj _ _ st7 b hb
     exact (I'.pin (b,o) (List.mem_append_right _ (List.mem_append_right _ (xav hb e)))).2.1⟩
   cases b with
   | false =>
    obtain ⟨m',hm,w9⟩:=q9
    exact ⟨m',hm,i + 1,ys,its,en,σ8,H9,I9.unpinned,rv,(tnk I9).1,(tnk I9).2,w9⟩
   | true =>
    refine thn (he _ _ _ _ _ _ s9 σ8 H9 _ I9 q9) fun y s10 ⟨yv,H10,I10,r10,m',hm,w10⟩=>?_
    have pacc:=I10.pin (acc,_) (List.mem_append_right _ (List.mem_append_left _ List.mem_cons_self))
    have hlen:=rv.length
    refine wpAny_list_append_plain (items:=its.toArray) ⟨en,pacc.1⟩ (fun h11 ⟨en',hl11⟩ hs11=>?_) (by simp only [List.size_toArray];omega)
    have cA:∀ x c,(cellsFrom (C + 1) scope.names cl).lookup x=some c→c≠acc:=fun x c h=>(cellC x c h).2.1
    have Ia:Inv (cxComp X (own ++ fr) scope (cellsFrom (C + 1) scope.names cl) C fp s2 H2) [] σ8 H10 s10:=I10.pins_of fun p hp=>nomatch hp
    have Ib:Inv (cxComp X (own ++ fr) scope (cellsFrom (C + 1) scope.names cl) C fp s2 H2) [] σ8 H10 { s10 with heap:=h11 }:=Ia.turned (it:=acc) (t':=s10.toks) (fun b o hb e=>(hs11.2 b hb).trans e) pacc.2.1 hAC (.inr (by show s2.heap.objs.size≤acc;omega)) cA fun p hp=>nomatch (show p∈([]:List (Addr×Obj)) from by simpa [cxComp] using hp)
    refine ⟨m',hm,i + 1,ys ++ [yv],its ++ [y],en',σ8,H10,Ib.pins_of fun p hp=>?_,rv.append (.cons r10 .nil),T.keep _ _ _ (tnk I10).1 fun b hb o e=>(hs11.2 b (fpd b hb).2).trans e,(tnk I10).2,w10⟩
    have e:p=(acc,{ cls:=.type "list",data:=.seq (its ++ [y]).toArray en' }):=by simpa using hp
    subst e
    exact ⟨by simpa using hl11,pacc.2.1,pacc.2.2.1,pacc.2.2.2.1,fun v z=>nomatch z⟩
 exact codeAny_compStart_list loop (T.self X.A 0 _ _ _ (T.keep _ _ _ st2 fun b _ o e=>old b o e) loop)
theorem zbl (hc:X.calm=true) (S:CompSc X scope own fr js) (hi:PI X tg iter wi) (hg:∀ cells C fp s H,PG (cxComp X (own ++ fr) scope cells C fp s H) tg g) (hf:∀ cells C fp s H,PF (cxComp X (own ++ fr) scope cells C fp s H) ifs tc) (he:∀ cells C fp s H,PE (cxComp X (own ++ fr) scope cells C fp s H) elt te)
  (hs:∀ x,foldedSetIterable iter X.env x=pure x:=by intro _;rfl):PE X (.ListComp elt [⟨tg,iter,ifs,0⟩] scope pos) (tComp wi own.length js g tc te):=by
 intro pins s σ H Q I h
 obtain ⟨cl,hcl,hcl1,hcl2⟩:=xaD (scope:=scope) (env:=X.env) fun y hy hk=>I.ok.has y.1 (S.free y hy hk)
 rw [eval_ListComp]
 refine wpAny_comprehension_free (use:=none) rfl hs hcl S.kind (fun y hy hk=>by rw [← hk];exact Xak S.ndn hy) (thn (hi pins s σ H _ I h) fun v s1 h1=>thn h1 fun itv s2 h2=>?_)
 obtain ⟨it,fp,tn,J,H2,e,I2,T,st2,f2,W,⟨m0,w0⟩,turn⟩:=h2
 subst e
 refine XaD (RR:=fun acc C=>compPost (model X.prog X.w) X.A X.xe none (EP X pins σ Q) acc C) hc S hg hf he I2 T st2 f2 hcl1 hcl2 W m0 w0 turn ?_
 intro acc C H' s' v hv I' fC ⟨m,hm⟩ q
 subst hv
 obtain ⟨f0,f1,f2',f3,f4,f5⟩:=fC
 exact ⟨m,hm,fun h'' hs''=>⟨.ref acc,H',I'.turned (it:=C) (t':=s'.toks) (fun b o hb e=>(hs''.2 b hb).trans e) f0 f1 f3 f4 f5,rfl,q⟩⟩
theorem ybl {i:Nat} {x:Str} {pos' spos:Pos} (hc:X.calm=true) (hN:X.N.Nodup) (hx:X.N[i]?=some x) (hl:X.env.scope.names.lookup x=some .local) (S:CompSc X scope own fr js) (hi:PI X tg iter wi) (hg:∀ cells C fp s H,PG (cxComp X (own ++ fr) scope cells C fp s H) tg g) (hf:∀ cells C fp s H,PF (cxComp X (own ++ fr) scope cells C fp s H) ifs tc) (he:∀ cells C fp s H,PE (cxComp X (own ++ fr) scope cells C fp s H) elt te)
  (hsw:swapsWith (.ListComp elt [⟨tg,iter,ifs,0⟩] scope pos) (some (.Name x pos')) spos.line X.env=pure true:=by rfl)
  (hs:∀ x,foldedSetIterable iter X.env x=pure x:=by intro _;rfl):PS X (.Assign [.Name x pos'] (.ListComp elt [⟨tg,iter,ifs,0⟩] scope pos) spos) (tAsg (tComp wi own.length js g tc te) (gName i)):=by
 intro pins s σ H D I h
 obtain ⟨cl,hcl,hcl1,hcl2⟩:=xaD (scope:=scope) (env:=X.env) fun y hy hk=>I.ok.has y.1 (S.free y hy hk)
 rw [exec_Assign_Name_used _ _ _ _ hsw]
 refine wpAny_bind (wpAny_standAt (wpAny_bind ?_))
 show wpAny _ X.A (do let _ ← comprehension (.ListComp elt [⟨tg,iter,ifs,0⟩] scope pos) scope X.env _ (newList []) false (eval iter X.env) (some (assign (.Name x pos') X.env))) _ _ s
 refine wpAny_bind (wpAny_mono (wpAny_comprehension_free (use:=some (assign (.Name x pos') X.env)) (Q:=fun _ s'=>SP X pins D .next s') rfl hs hcl S.kind (fun y hy hk=>by rw [← hk];exact Xak S.ndn hy)
  (thn (hi pins s σ H _ I h) fun v s1 h1=>thn h1 fun itv s2 h2=>?_)) (fun _ s' hq=>wpAny_pure (wpAny_pure hq)) fun _ _ e=>e)
 obtain ⟨it,fp,tn,J,H2,e,I2,T,st2,f2,W,⟨m0,w0⟩,turn⟩:=h2
 subst e
 refine XaD (Q:=fun v H'=>gName i v σ H' D.nx) (RR:=fun acc C=>compPost (model X.prog X.w) X.A X.xe (some (assign (.Name x pos') X.env)) (fun _ s'=>SP X pins D .next s') acc C) hc S hg hf he I2 T st2 f2 hcl1 hcl2 W m0 w0 turn ?_
 intro acc C H' s' v hv I' fC ⟨m,hm⟩ q
 subst hv
 obtain ⟨f0,f1,f2',f3,f4,f5⟩:=fC
 show wpAny _ X.A (assign (.Name x pos') X.env (.ref acc)) _ _ _
 refine wpAny_assign_Name (xaI I' hN hx (.inl hl) (show RelV (.ref acc) (.ref acc) from rfl) (fun s'' I'' ⟨a,hs1,ha⟩=>?_) (.inr hl))
 have haC:a≠C:=by
  rcases ha with e | e
  ·rw [e];exact f1.symm
  ·exact f4 _ _ e
 exact ⟨m,hm.sameBut hs1 haC.symm,fun h'' hs''=>⟨_,H',I''.turned (it:=C) (t':=s''.toks) (fun b o hb e=>(hs''.2 b hb).trans e) f0 f1 f3 f4 f5,q⟩⟩
end
end L2
namespace L2
open PySem PySem.Spec PyProof.Rows
section
variable {X:Cx}
theorem zaQ:∀ {bs:List Bool} {us:List Value} {i:Nat} {v:Value},Vals (bs.map V.bl) us→us[i]?=some v→∃ b,bs[i]?=some b∧v=.bool b
 | [],_,i,v,r,h=>by cases r;simp at h
 | b :: bs,_,0,v,r,h=>by
  cases r with
  | cons r1 r2 =>
   cases (show _=Value.bool b from r1)
   simp at h
   exact ⟨b,rfl,h.symm⟩
 | b :: bs,_,i + 1,v,r,h=>by
  cases r with
  | cons r1 r2 =>
   obtain ⟨c,e1,e2⟩:=zaQ (i:=i) r2 (by simpa using h)
   exact ⟨c,by simpa using e1,e2⟩
theorem ZaZ (hc:X.calm=true):CallR X (.builtin "all") (fun xs H Q=>∃ (p:Addr) (bs:List Bool),xs=[.ref p]∧SqL X.K H p (bs.map V.bl)∧Q (.bl (bs.all id)) H):=by
 intro pins s σ H xs us Q I r h
 obtain ⟨p,bs,rfl,hq,q⟩:=h
 obtain ⟨u,rfl,ru⟩:=vals1 r
 cases ru
 obtain ⟨its,rv,pl,_⟩:=I.list hq
 have hl:=pl.isList
 have hlt:p < s.heap.objs.size:=by obtain ⟨_,e,_⟩:=hl;exact Heap.lt_size e
 have hlen:=rv.length
 rw [List.length_map] at hlen
 have hh:X.A.in1.handled=none:=I.ok.hd hc
 refine call_all_walk (wpAny_pyIter_list hl ?_)
 refine ⟨s.heap.objs.size,[s.heap.objs.size,p],[s.heap.objs.size],its.toArray.size,_,_,fun i=>(bs[i]?).getD true,rfl,Walks.list (A:=X.A.in1) hh _ p (Nat.ne_of_lt hlt) its.toArray,
  ⟨⟨_,Heap.get?_push_size _ rfl,rfl,rfl⟩,hl.push _⟩,fun i v s' Q' E' hP hQ=>?_,fun h' tk hk=>?_⟩
 ·obtain ⟨b,e,rfl⟩:=zaQ rv (by simpa using hP)
  simp only [e,Option.getD_some] at hQ
  exact wpAny_truthy_bool hQ
 ·have e:((List.range its.toArray.size).all fun i=>(bs[i]?).getD true)=bs.all id:=by
   rw [List.size_toArray,← hlen];exact PyProof.Rows.LSm.range_all bs
  rw [e]
  exact ⟨.bl _,H,I.kept (PyProof.Rows.LSm.kept_iter hk),rfl,q⟩
end
section
variable {prog:Program} {w:World} {A:Around} {E:Value→Shared→Prop} {s:Shared}
end
section
variable {X:Cx}
end
section
variable {K:PySem.W.Frag} {ch:List Addr} {H H':Hp}
end
end L2
namespace L2
open PySem PySem.Spec PyProof.Rows
section
variable {X:Cx} {K:PySem.W.Frag}
end
end L2
namespace L2
open PySem PySem.Spec PyProof.Rows
section
variable {prog:Program} {w:World} {A:Around} {E:Value→Shared→Prop} {s:Shared}
end
section
variable {prog:Program} {w:World} {A:Around} {E:Value→Shared→Prop} {s:Shared}
end
section
variable {X:Cx} {pins:List (Addr×Obj)} {σ:St} {H:Hp} {s:Shared} {h':Heap}
end
end L2
namespace L2
open PySem PySem.Spec PyProof.Rows
section
open Sem (wp)
open PySem.AutoSeq1 (wpAny_loadPart')
open PySem.MeetsSeq PySem.MeetsSeq2 PySem.MeetsSeq3
end
section
variable {X:Cx} {K:PySem.W.Frag}
end
end L2
namespace L2
open PySem PySem.Spec PyProof.Rows
open Builtin.Str
section
variable {X:Cx} {K:PySem.W.Frag}
theorem Zbg:bootBuiltins "abs" = some (.builtin "abs"):=by decide +kernel
theorem YaZ:∀ {xs:List Str} {us:List Value},Vals (xs.map V.str) us→∃ l:List (Str×Tok),us=strValues l∧l.map (·.1)=xs
 | [],us,h=>by
  cases us with
  | nil=>exact ⟨[],rfl,rfl⟩
  | cons a b=>cases h
 | x :: xs,us,h=>by
  cases us with
  | nil=>cases h
  | cons u us =>
   cases h with
   | cons r t =>
    obtain ⟨l,e1,e2⟩:=YaZ t
    obtain ⟨tk,rfl⟩:=r
    exact ⟨(x,tk) :: l,by rw [e1];rfl,by rw [List.map_cons,e2]⟩
theorem yaQ (sep:Str) (hs:sep.length≤10):∀ (ts:List Str),(∀ y∈ts,y.length≤100)→(Str.join sep ts).length≤110 * ts.length
 | [],_=>Nat.zero_le _
 | [x],h=>by have:=h x (by simp);show x.length≤_;simp only [List.length_cons,List.length_nil];omega
 | x :: y :: r,h=>by
  have h1:=h x (by simp)
  have h2:=yaQ sep hs (y :: r) fun z hz=>h z (List.mem_cons_of_mem _ hz)
  have e:(Str.join sep (x :: y :: r)).length=x.length + sep.length + (Str.join sep (y :: r)).length:=by
   show (x ++ sep ++ Str.join sep (y :: r)).length=_
   show (Str.append (Str.append x sep) (Str.join sep (y :: r))).cps.size=_
   simp only [Str.append,Array.size_append,Str.length]
  rw [e]
  simp only [List.length_cons] at h2 ⊢
  omega
noncomputable def rJoin (K:PySem.W.Frag):V→List V→Hp→VK→Prop:=fun x vs H Q=>∃ (sep:Str) (a:Addr) (xs:List Str),x=.str sep∧vs=[.ref a]∧SqL K H a (xs.map V.str)∧xs.length≤100000∧sep.length≤10∧(∀ y∈xs,y.length≤100)∧Q (.str (Str.join sep xs)) H
theorem Zbl:MtR X "str.join" (rJoin X.K):=by
 intro pins s σ H x xs v us Q I rx rv h
 obtain ⟨sep,a,ts,rfl,rfl,hq,h1,h2,h3,q⟩:=h
 obtain ⟨t,rfl⟩:=rx
 obtain ⟨u,rfl,ru⟩:=vals1 rv
 cases ru
 obtain ⟨its,r,pl,hz⟩:=I.list hq
 obtain ⟨l,rfl,e2⟩:=YaZ r
 have hfit:tooLong ((l.map (·.1)).toArray.foldl (· + ·.length + sep.length) 0)=false:=by
  rw [e2]
  have a1:ts.length * sep.length≤100000 * 10:=Nat.mul_le_mul h1 h2
  exact StrLaws.joinFits (B:=100) h3 (by omega)
 refine call_meets F.slot_str_join (typeIs_str s sep t) F.entry_str_join (F.args_str_join_2 _ _) (meets_str_join_list sep t a l hfit) ⟨pl.isList,?_⟩
 have fin:∀ tk k,EP X pins σ Q (.str (Str.join sep ts) tk) { s with toks:=k }:=fun tk k=>⟨.str _,H,I.tok _,⟨_,rfl⟩,q⟩
 have hlen:=yaQ sep h2 ts h3
 have hz2:(Str.join sep ts).length≤sizeLine:=by
  have e:sizeLine=16777216:=rfl
  omega
 match l,e2 with
 | [],e2 =>
  cases e2
  exact ⟨hz2,fin _ _⟩
 | [p],e2 =>
  cases e2
  exact fin p.2 s.toks
 | p :: p2 :: r,e2 =>
  show (glued sep ((p :: p2 :: r).map (·.1))).length≤sizeLine∧_
  rw [StrLaws.glued_eq_join,e2]
  exact ⟨hz2,fin _ _⟩
end
section
variable {X:Cx} {tg:Expr}
end
end L2
namespace L2
open PySem PySem.Spec PyProof.Rows
open Builtin.Str
section
variable {prog:Program} {w:World} {A:Around} {E:Value→Shared→Prop} {s:Shared}
end
section
variable {X:Cx} {pins:List (Addr×Obj)} {σ:St} {H:Hp} {s:Shared}
end
end L2
namespace L2
open PySem PySem.Spec PyProof.Rows
section
variable {X:Cx} {K:PySem.W.Frag}
end
end L2
namespace L2
open PySem PySem.Spec PyProof.Rows
open Builtin.Str
section
variable {prog:Program} {w:World} {A:Around} {E:Value→Shared→Prop} {s:Shared}
end
end L2
namespace L2
open PySem PySem.Spec PyProof.Rows
open Builtin
noncomputable def bigN:Nat:=2 ^ 1000
noncomputable def CMulW (i j:Int):Prop:=CMul i j∨(i.natAbs < bigN∧j.natAbs < bigN)
theorem CMulW.ok {i j:Int} (h:CMulW i j):IntMulOk i j:=by
 rcases h with h | ⟨h1,h2⟩
 ·exact h.ok
 ·exact PyProof.Rows.mulOk_of_bits (m:=1000) (n:=1000) (PyProof.Rows.intBits_le h1) (PyProof.Rows.intBits_le h2) (by decide)
section
variable {X:Cx}
theorem zao:OpR X (binaryOp .Mult) (rI CMulW fun i j=>.int (i * j)):=opI fun _ _ _ _ _ _ _ hc q=>mul_int q hc.ok
end
end L2
namespace L2
open PySem PySem.Spec PyProof.Rows
section
variable {prog:Program} {w:World} {A:Around} {E:Value→Shared→Prop} {s:Shared}
end
section
variable {X:Cx} {pos:Pos}
end
end L2
namespace L2
open PySem PySem.Spec PyProof.Rows
section
variable {prog:Program} {w:World} {A:Around} {E:Value→Shared→Prop} {s:Shared}
end
end L2
namespace L2
open PySem PySem.Spec PyProof.Rows
section
variable {prog:Program} {w:World} {A:Around} {E:Value→Shared→Prop} {s:Shared}
end
end L2
namespace L2
open PySem PySem.Spec PyProof.Rows
end L2
namespace L2
open PySem PySem.Spec PyProof.Rows
section
variable {X:Cx} {pos:Pos}
end
end L2
namespace L2
open PySem PySem.Spec PyProof.Rows
noncomputable def DU (a:Addr) (xs:List (List Int×Addr×Value)):HO:=.ext fun h=>(a == sysModules)=false∧xs.length≤sizeLine∧∃ o es ep,h.get? a=some o∧o.ExactDict∧o.data=.dict es ep ∧
 (∃ (P:Program) (w:World),es.toList=xs.map (entryOfKey (tupleKind (intKind P w))))∧(xs.map (·.1)).Nodup
section
variable {X:Cx} {pins:List (Addr×Obj)} {σ:St} {H:Hp} {s:Shared} {a b:Addr} {k:List Int} {xs:List (List Int×Addr×Value)}
end
section
variable {X:Cx} {o i e value:Expr} {pos pos' tpos:Pos} {td ty tv:TE}
end
end L2
namespace L2
open PySem PySem.Spec PyProof.Rows PySem.SeqAt PySem.MeetsSeq
section
variable {prog:Program} {w:World} {A:Around} {R:Result→Shared→Prop} {I:Addr} {fp wr:List Addr} {n:Nat} {P:Nat→Value→Prop} {St:Nat→Heap→Prop}
end
section
variable {prog:Program} {w:World} {A:Around} {E:Value→Shared→Prop} {s:Shared}
end
section
variable {X:Cx}
end
end L2
namespace L2
open PySem PySem.Spec PyProof.Rows PySem.W
section
variable {lt:Nat→Nat→Bool} {n0:Nat} {cmp:Nat→Nat→(Bool→Shared→Prop)→Shared→Prop} {s:Shared}
structure Ord (lt:Nat→Nat→Bool):Prop where
 tr:∀ a b c,lt b a=false→lt c b=false→lt c a=false
 as:∀ a b,lt a b=true→lt b a=false
noncomputable def P (p:Array Nat) (i:Nat):Nat:=p.getD i 0
variable (o:Ord lt) (hn:0 < n0) (hc:∀ i j (C:Bool→Shared→Prop),i < n0→j < n0→C (lt i j) s→cmp i j C s)
include o hn hc
end
section
variable {prog:Program} {w:World} {A:Around} {E:Value→Shared→Prop} {s:Shared}
end
section
variable {prog:Program} {w:World} {A:Around} {E:Value→Shared→Prop} {s:Shared} {lt:Nat→Nat→Bool}
end
section
variable {X:Cx}
end
end L2
namespace L2
open PySem PySem.Spec PyProof.Rows
section
variable {X:Cx} {o e f:Expr} {apos cpos:Pos} {td ty tx:TE}
end
end L2
namespace L2
open PySem PySem.Spec PyProof.Rows PySem.W
section
variable {X:Cx} {o e:Expr} {t t' td:TE} {apos cpos pos p:Pos}
end
end L2
namespace L2
open PySem PySem.Spec PyProof.Rows
section
variable {X:Cx} {body:List Stmt} {h₀:ExceptHandler} {hs:List ExceptHandler} {pos:Pos} {t:TS}
end
end L2
namespace L2
open PySem PySem.Spec PyProof.Rows
section
variable {X:Cx} {K:PySem.W.Frag}
end
end L2
namespace L2
open PySem PySem.Spec PyProof.Rows
open Builtin
end L2
namespace L2
open PySem PySem.Spec PyProof.Rows
section
variable {X:Cx} {K:PySem.W.Frag}
end
end L2
namespace L2
open PySem PySem.Spec PyProof.Rows PySem.W
section
variable {prog:Program} {w:World} {A:Around} {E:Value→Shared→Prop} {s:Shared}
end
end L2
namespace L2
open PySem PySem.Spec PyProof.Rows PySem.W
end L2
namespace L2
open PySem PySem.Spec PyProof.Rows
structure Noted (fs:List Addr) (e:Addr) (oe:Obj) (vs:Array Value) (T:Addr) (h h':Heap):Prop where
 exc:∃ o ws,h'.get? e=some o∧o.cls=oe.cls∧o.dict=oe.dict∧o.data=.fields ws∧ws.size=vs.size∧ws[1]?=some (.ref T)
 new:h.objs.size≤T
 head:∃ o ts,h'.get? T=some o∧o.data=.fields ts∧ts[3]?=some .none
 keep:∀ b o,h.get? b=some o→b≠e→vs[1]?≠some (.ref b)→b ∉ fs→h'.get? b=some o
 slot:∀ b o,h.get? b=some o→b≠e→vs[1]?≠some (.ref b)→∃ sl,h'.get? b=some { o with slots:=sl }
 old:∀ b,b≠e→vs[1]?=some (.ref b)→∃ o ts,h'.get? b=some o∧o.data=.fields ts∧ts[3]?=some .none
section
variable {M:Model} {A:Around} {E:Value→Shared→Prop} {s:Shared}
theorem yaK {base:Heap} {env:Env} {outer:List Env} {L e:Addr} {oe:Obj} {vs:Array Value} {hd0:Value} {hn:Bool} {Q:Unit→Shared→Prop} (hfr:A.frames=some (env :: outer)) (hl:s.heap.FunFrames base (env :: outer))
  (hf:env.frame=some L) (he:s.heap.get? e=some oe) (hd:oe.data=.fields vs) (hs:1 < vs.size)
  (h:∀ h' T,(∃ o ws,h'.get? e=some o∧o.cls=oe.cls∧o.dict=oe.dict∧o.data=.fields ws∧ws.size=vs.size∧ws[1]?=some (.ref T))→s.heap.objs.size≤T→(∃ o ts,h'.get? T=some o∧o.data=.fields ts∧ts[3]?=some .none) →
   (∀ b o,s.heap.get? b=some o→b≠e→b ∉ frs (env :: outer)→h'.get? b=some o)→(∀ b o,s.heap.get? b=some o→b≠e→∃ sl,h'.get? b=some { o with slots:=sl })→Q () { s with heap:=h' }) :
  wpAny M A (do let a ← frameOf env;let pl ← entryPlaceOf L hn;let b ← EntryCells.newEntry hd0 a .none (rawInt L) .none pl;setField (.ref e) 1 b) (fun _ s'=>wpAny M A (setFlight (.ref e) none) Q E s') E s:=by
 have ne:e ∉ frs (env :: outer):=fun z=>by
  obtain ⟨_,o,q,nf⟩:=hl.mem z
  rw [he] at q;cases q;exact nf vs hd
 refine wpAny_bind (wpAny_frameOf_fun hfr hl hf fun h1 so=>wpAny_bind (wpAny_entryPlaceOf fun pl ip=>?_))
 obtain ⟨sz1,kp1,sl1⟩:=so
 have e1:h1.get? e=some oe:=by rw [kp1 e ne];exact he
 unfold EntryCells.newEntry newFields
 refine wpAny_bind (wpAny_newObj_type ?_ (ip.sizeOk5 _ _ _ _ _))
 generalize htd:([hd0,Value.ref L,Value.none,rawInt L,Value.none] ++ (if pl.isEmpty then List.replicate 6 Value.none else pl)).toArray=td
 have t3:3 < td.size:=by
  rw [← htd]
  simp only [List.size_toArray,List.length_append,List.length_cons,List.length_nil]
  omega
 generalize hob:({ cls:=.type "traceback",dict:=none,data:=.fields td }:Obj)=ob
 have obd:ob.data=.fields td:=by rw [← hob]
 have obf:ob.isFreed=false:=by rw [← hob];rfl
 have e2:=Heap.get?_push_of_some ob e1
 refine wpAny_setField e2 hd hs ?_
 have nT:h1.objs.size≠e:=Nat.ne_of_gt (Heap.lt_size e1)
 have d3:=Obj.data_mapFields hd (·.setIfInBounds 1 (Value.ref h1.objs.size))
 have e3:=Heap.get?_update_self (Obj.mapFields (·.setIfInBounds 1 (Value.ref h1.objs.size))) e2 (Obj.isFreed_of_fields d3)
 have T3:((h1.push ob).update e (Obj.mapFields (·.setIfInBounds 1 (Value.ref h1.objs.size)))).get? h1.objs.size=some ob:=by
  rw [Heap.get?_update_other _ _ (Ne.symm nT)];exact Heap.get?_push_size h1 obf
 unfold setFlight
 refine wpAny_bind (wpAny_field e3 d3 (x:=.ref h1.objs.size) (by simp [hs]) ?_)
 rw [if_pos (by simp)]
 have d4:=Obj.data_mapFields obd (·.setIfInBounds 3 ((none:Option Addr).elim Value.none fun f=>rawInt f))
 refine wpAny_setField T3 obd t3 (h _ h1.objs.size ⟨_,_,?_,Obj.cls_mapFields _ _,?_,d3,by simp,by simp [hs]⟩ ?_ ⟨_,_,Heap.get?_update_self _ T3 (Obj.isFreed_of_fields d4),d4,?_⟩ (fun b o q n1 n2=>?_) fun b o q n1=>?_)
 ·rw [Heap.get?_update_other _ _ nT];exact e3
 ·obtain ⟨c0,d0,dt0,s0⟩:=oe
  cases dt0 <;> first | rfl | cases hd
 ·rw [sz1];exact Nat.le_refl _
 ·simp [t3]
 ·have q1:h1.get? b=some o:=by rw [kp1 b n2];exact q
  rw [Heap.get?_update_other _ _ (Nat.ne_of_gt (Heap.lt_size q1)),Heap.get?_update_other _ _ (Ne.symm n1)]
  exact Heap.get?_push_of_some _ q1
 ·obtain ⟨sl,q1⟩:=sl1 b o q
  refine ⟨sl,?_⟩
  rw [Heap.get?_update_other _ _ (Nat.ne_of_gt (Heap.lt_size q1)),Heap.get?_update_other _ _ (Ne.symm n1)]
  exact Heap.get?_push_of_some _ q1
theorem noted {base:Heap} {env:Env} {outer:List Env} {L e:Addr} {oe:Obj} {vs:Array Value} {Q:Unit→Shared→Prop} (hfr:A.frames=some (env :: outer)) (hl:s.heap.FunFrames base (env :: outer)) (hf:env.frame=some L)
  (he:s.heap.get? e=some oe) (hd:oe.data=.fields vs) (ht:vs[1]?=some .none∨∃ T oT ts,vs[1]?=some (.ref T)∧T≠e∧s.heap.get? T=some oT∧oT.data=.fields ts∧ts[3]?=some .none)
  (h:∀ h' T,Noted (frs (env :: outer)) e oe vs T s.heap h'→Q () { s with heap:=h' }):wpAny M A (noteFrame (.ref e) env) (fun _ s'=>wpAny M A (setFlight (.ref e) none) Q E s') E s:=by
 unfold noteFrame
 simp only [hf]
 rcases ht with h1 | ⟨T0,oT,ts,h1,nT,hT,dT,h3⟩
 ·refine wpAny_bind (wpAny_field he hd h1 ?_)
  rw [if_neg (by decide)]
  refine yaK hfr hl hf he hd (Array.getElem?_eq_some_iff.mp h1).1 fun h' T a1 a2 a3 a4 a5=>h h' T ⟨a1,a2,a3,fun b o q n1 _ n3=>a4 b o q n1 n3,fun b o q n1 _=>a5 b o q n1,fun b _ z=>by rw [h1] at z;cases z⟩
 ·refine wpAny_bind (wpAny_field he hd h1 ?_)
  rw [if_pos (by simp)]
  refine wpAny_bind (wpAny_field hT dT h3 ?_)
  rw [if_neg (by simp [rawInt])]
  refine wpAny_bind (wpAny_setField hT dT (Array.getElem?_eq_some_iff.mp h3).1 ?_)
  have d2:=Obj.data_mapFields dT (·.setIfInBounds 3 Value.none)
  have T2:=Heap.get?_update_self (Obj.mapFields (·.setIfInBounds 3 Value.none)) hT (Obj.isFreed_of_fields d2)
  have oth:∀ b,b≠T0→(s.heap.update T0 (Obj.mapFields (·.setIfInBounds 3 Value.none))).get? b=s.heap.get? b:=fun b n=>Heap.get?_update_other _ _ (Ne.symm n)
  have rec':∀ b o,s.heap.get? b=some o→(∀ ws,o.data≠.fields ws)→b≠T0:=fun b o q n z=>by rw [z,hT] at q;cases q;exact n ts dT
  have ts3:(ts.setIfInBounds 3 Value.none)[3]?=some .none:=by simp [(Array.getElem?_eq_some_iff.mp h3).1]
  have inT:T0 ∉ frs (env :: outer):=fun z=>by
   obtain ⟨_,o,q,nf⟩:=hl.mem z
   rw [hT] at q;cases q;exact nf ts dT
  refine yaK hfr (hl.of_keeps fun b o q n=>⟨o,by rw [oth b (rec' b o q n)];exact q,rfl⟩) hf (by rw [oth e (Ne.symm nT)];exact he) hd (Array.getElem?_eq_some_iff.mp h1).1 fun h' T a1 a2 a3 a4 a5=>h h' T ⟨a1,?_,a3,fun b o q n1 n2 n3=>?_,fun b o q n1 n2=>?_,fun b n1 z=>?_⟩
  ·have z:=a2
   dsimp only at z
   rw [Heap.size_after_update] at z
   exact z
  ·have nb:b≠T0:=fun z=>n2 (by rw [z];exact h1)
   exact a4 b o (by dsimp only;rw [oth b nb];exact q) n1 n3
  ·have nb:b≠T0:=fun z=>n2 (by rw [z];exact h1)
   exact a5 b o (by dsimp only;rw [oth b nb];exact q) n1
  ·rw [h1] at z;cases z
   exact ⟨_,_,a4 T0 _ T2 n1 inT,d2,ts3⟩
end
noncomputable def trV:Option Addr→Value
 | none=>.none
 | some T=>.ref T
noncomputable def XO (a C:Addr) (dx tr:Option Addr):HO:=.ext fun h=>∃ o vs,h.get? a=some o∧o.cls=.ref C∧o.dict=dx∧o.data=.fields vs∧vs[1]?=some (trV tr)
noncomputable def XT (T:Addr):HO:=.ext fun h=>∃ o ts,h.get? T=some o∧o.data=.fields ts∧ts[3]?=some .none
noncomputable def Exc (H:Hp) (a C:Addr) (dx:Option Addr):Prop:=∃ tr,H a=some (XO a C dx tr)∧∀ T,tr=some T→T≠a∧H T=some (XT T)
noncomputable def XS (a:Addr) (H H':Hp):Prop:=(∃ C dx tr tr',H a=some (XO a C dx tr)∧H' a=some (XO a C dx tr'))∧∀ b,b≠a→∀ o,H b=some o→H' b=some o
section
variable {P:Program} {w:World} {H H' H2:Hp} {h h':Heap} {a C T:Addr} {dx tr:Option Addr} {o:HO}
theorem XO.ok (e:∃ o vs,h.get? a=some o∧o.cls=.ref C∧o.dict=dx∧o.data=.fields vs∧vs[1]?=some (trV tr)):ObjOk P w H h a (XO a C dx tr) :=
 ⟨e,let ⟨o,_,q,_⟩:=e;⟨o,q⟩,fun h1 h2 ⟨o,vs,q,r⟩ k=>⟨o,vs,k o q,r⟩⟩
theorem XT.ok (e:∃ o ts,h.get? T=some o∧o.data=.fields ts∧ts[3]?=some .none):ObjOk P w H h T (XT T) :=
 ⟨e,let ⟨o,_,q,_⟩:=e;⟨o,q⟩,fun h1 h2 ⟨o,vs,q,r⟩ k=>⟨o,vs,k o q,r⟩⟩
theorem XO.of (ok:HOk P w H h) (e:H a=some (XO a C dx tr)):∃ o vs,h.get? a=some o∧o.cls=.ref C∧o.dict=dx∧o.data=.fields vs∧vs[1]?=some (trV tr):=(ok a _ e).1
theorem XT.of (ok:HOk P w H h) (e:H T=some (XT T)):∃ o ts,h.get? T=some o∧o.data=.fields ts∧ts[3]?=some .none:=(ok T _ e).1
theorem ObjOk.there (x:ObjOk P w H h a o):∃ ob,h.get? a=some ob:=by
 cases o with
 | lst xs=>obtain ⟨_,_,_,_,e⟩:=x;exact ⟨_,e⟩
 | tup xs=>obtain ⟨_,_,_,_,e,_⟩:=x;exact ⟨_,e⟩
 | dK kvs=>obtain ⟨_,_,_,_,o,_,_,e,_⟩:=x;exact ⟨_,e⟩
 | dT kvs=>obtain ⟨_,_,_,_,o,_,_,e,_⟩:=x;exact ⟨_,e⟩
 | set S n=>obtain ⟨o,_,_,_,e,_⟩:=x;exact ⟨_,e⟩
 | ins C dx fs=>obtain ⟨_,_,_,e,_⟩:=x;exact ⟨_,e⟩
 | own y=>obtain ⟨_,e⟩:=x;exact ⟨_,e⟩
 | xd fs=>obtain ⟨_,⟨_,_,_,e,_⟩,_⟩:=x;exact ⟨_,e⟩
 | rng lo hi=>obtain ⟨_,_,_,e⟩:=x;exact ⟨_,e⟩
 | frz ob u=>obtain ⟨e,_⟩:=x;exact ⟨_,e⟩
 | tbl ps=>exact ⟨_,(show h.get? a=some _ from x)⟩
 | met f y=>exact ⟨_,(show h.get? a=some _ from x)⟩
 | ext φ=>obtain ⟨_,e,_⟩:=x;exact e
theorem HOk.none_of (ok:HOk P w H h) (e:h.get? a=none):H a=none:=by
 cases q:H a with
 | none=>rfl
 | some o=>obtain ⟨ob,z⟩:=(ok a o q).there;rw [e] at z;cases z
theorem XO.inj {C':Addr} {dx' tr':Option Addr} (e:XO a C dx tr=XO a C' dx' tr'):C=C'∧dx=dx':=by
 have q:(fun h:Heap=>∃ o vs,h.get? a=some o∧o.cls=.ref C∧o.dict=dx∧o.data=.fields vs∧vs[1]?=some (trV tr))=(fun h:Heap=>∃ o vs,h.get? a=some o∧o.cls=.ref C'∧o.dict=dx'∧o.data=.fields vs∧vs[1]?=some (trV tr')):=by
  unfold XO at e;injection e
 let ob:Obj:={ cls:=.ref C,dict:=dx,data:=.fields #[.none,trV tr] }
 let h0:Heap:={ objs:=Array.replicate (a + 1) ob }
 have e0:h0.get? a=some ob:=by
  refine Heap.get?_some_iff.mpr ⟨?_,rfl⟩
  simp [h0]
 have z:=(congrFun q h0).mp ⟨ob,_,e0,rfl,rfl,rfl,rfl⟩
 obtain ⟨o',vs,e1,e2,e3,_⟩:=z
 rw [e0] at e1;cases e1
 exact ⟨Value.ref.inj e2,e3⟩
theorem XS.trans (x:XS a H H') (y:XS a H' H2):XS a H H2:=by
 obtain ⟨⟨C,dx,tr,tr1,e1,e2⟩,k⟩:=x
 obtain ⟨⟨C',dx',tr2,tr3,e3,e4⟩,k'⟩:=y
 rw [e2] at e3
 obtain ⟨rfl,rfl⟩:=XO.inj (Option.some.inj e3)
 exact ⟨⟨C,dx,tr,tr3,e1,e4⟩,fun b n o q=>k' b n o (k b n o q)⟩
end
section
variable {X:Cx} {pins:List (Addr×Obj)} {σ:St} {H:Hp} {s:Shared} {a C:Addr} {dx:Option Addr}
theorem Inv.noted {A:Around} {E:Value→Shared→Prop} {Q:Unit→Shared→Prop} (I:Inv X pins σ H s) (hst:X.stack=X.env :: X.outer) (hf:X.env.frame=some X.env.locals) (hA:A.frames=some X.stack) (x:Exc H a C dx)
  (h:∀ h' H',XS a H H'→Exc H' a C dx→Inv X pins σ H' { s with heap:=h' }→Q () { s with heap:=h' }) :
  wpAny (model X.prog X.w) A (noteFrame (.ref a) X.env) (fun _ s'=>wpAny (model X.prog X.w) A (setFlight (.ref a) none) Q E s') E s:=by
 obtain ⟨tr,ea,et⟩:=x
 obtain ⟨oe,vs,he,hc,hdx,hd,h1⟩:=XO.of I.hok ea
 have notT:∀ b,H b=none→vs[1]?≠some (.ref b):=fun b nb z=>by
  rw [h1] at z
  cases tr with
  | none=>cases z
  | some T=>cases z;rw [(et _ rfl).2] at nb;cases nb
 have notA:∀ b,H b=none→b≠a:=fun b nb z=>by rw [z,ea] at nb;cases nb
 refine L2.noted (by rw [hA,hst]) (hst ▸ I.stack) hf he hd ?_ fun h' T N=>?_
 ·cases tr with
  | none=>exact .inl h1
  | some T=>obtain ⟨oT,ts,q1,q2,q3⟩:=XT.of I.hok (et T rfl).2;exact .inr ⟨T,oT,ts,h1,(et T rfl).1,q1,q2,q3⟩
 have HT:H T=none:=I.hok.fresh N.new
 have Ta:T≠a:=notA T HT
 have gT:∀ b o,s.heap.get? b=some o→b≠T:=fun b o q=>Nat.ne_of_lt (Nat.lt_of_lt_of_le (Heap.lt_size q) N.new)
 let H':Hp:=upd (upd H a (XO a C dx (some T))) T (XT T)
 have Hb:∀ b,b≠a→∀ o,H b=some o→H' b=some o:=fun b n o q=>by
  show upd (upd H a _) T _ b=_
  rw [xae (fun z=>by rw [z,HT] at q;cases q),xae n];exact q
 have Ha:H' a=some (XO a C dx (some T)):=by
  show upd (upd H a _) T _ a=_
  rw [xae (Ne.symm Ta),xah]
 have HTT:H' T=some (XT T):=xah
 have Hn:∀ b o,s.heap.get? b=some o→H b=none→H' b=none:=fun b o q n=>by
  show upd (upd H a _) T _ b=_
  rw [xae (gT b o q),xae (notA b n)];exact n
 have xs:XS a H H':=⟨⟨C,dx,tr,some T,ea,Ha⟩,Hb⟩
 have tne:∀ b u,H b=some u→(∀ φ,u≠.ext φ)→b≠a:=fun b u q n z=>by rw [z,ea] at q;cases q;exact n _ rfl
 have un:Un (frs X.stack) [] H H' s.heap h':=by
  rw [hst]
  refine ⟨fun b o q n1 n2 _=>N.keep b o q (notA b n1) (notT b n1) n2,fun b o q n1 _ _=>N.slot b o q (notA b n1) (notT b n1),fun b o q n _=>Hn b o q n,fun b o q _=>?_,
   fun b xs q=>Hb b (tne b _ q fun φ z=>nomatch z) _ q,fun b o u q=>Hb b (tne b _ q fun φ z=>nomatch z) _ q,fun b ps q=>⟨#[],by rw [Array.append_empty];exact Hb b (tne b _ q fun φ z=>nomatch z) _ q⟩⟩
  by_cases n1:b=a
  ·subst n1;obtain ⟨o',_,q',_⟩:=N.exc;exact ⟨o',q'⟩
  ·by_cases n2:vs[1]?=some (.ref b)
   ·obtain ⟨o',_,q',_⟩:=N.old b n1 n2;exact ⟨o',q'⟩
   ·obtain ⟨sl,q'⟩:=N.slot b o q n1 n2;exact ⟨_,q'⟩
 have hok:HOk X.prog X.w H' h':=fun b u q=>by
  by_cases n0:b=T
  ·subst n0;rw [HTT] at q;cases q;exact XT.ok N.head
  by_cases n1:b=a
  ·subst n1;rw [Ha] at q;cases q
   obtain ⟨o',ws,p1,p2,p3,p4,p5,p6⟩:=N.exc
   exact XO.ok ⟨o',ws,p1,by rw [p2];exact hc,by rw [p3];exact hdx,p4,p6⟩
  have qb:H b=some u:=by
   have z:upd (upd H a (XO a C dx (some T))) T (XT T) b=some u:=q
   rw [xae n0,xae n1] at z;exact z
  by_cases n2:vs[1]?=some (.ref b)
  ·rw [h1] at n2
   cases tr with
   | none=>cases n2
   | some T0 =>
    cases n2
    rw [(et b rfl).2] at qb;cases qb
    exact XT.ok (N.old b n1 h1)
  ·have nfr:∀ c v,H c=some v→c ∉ frs X.stack:=fun c v z y=>by rw [I.stkFree c y] at z;cases z
   refine (I.hok b u qb).stay (fun c v hc' r=>?_) (fun c r=>Hb c (tne c _ r fun φ z=>nomatch z) _ r) fun c xs r=>Hb c (tne c _ r fun φ z=>nomatch z) _ r
   rcases hc' with rfl | hc'
   ·exact N.keep c v r n1 n2 (hst ▸ nfr c u qb)
   ·refine N.keep c v r (tne c _ hc' fun φ z=>nomatch z) (fun z=>?_) (hst ▸ nfr c _ hc')
    rw [h1] at z
    cases tr with
    | none=>cases z
    | some T0=>cases z;rw [(et c rfl).2] at hc';cases hc'
 exact h h' H' xs ⟨some T,Ha,fun T' e=>by cases e;exact ⟨Ta,HTT⟩⟩ (I.call (ch:=[]) un hok I.bare fun b z=>absurd z (by simp))
noncomputable def CXE (P:Program) (w:World):CXT:=fun outer H s E e s'=>∃ a C dx H',e=.ref a∧s'.os=s.os∧AllBare s'.gens∧Un (frs outer) [] H H' s.heap s'.heap∧HOk P w H' s'.heap∧Exc H' a C dx∧∀ H'',XS a H' H''→E (.ref a) none H''
end
section
variable {P:Program} {w:World} {K:PySem.W.Frag} {mg:Str→Option Value} {base:Heap} {N:List Str} {qual:Str} {scope:Scope} {f:Addr} {cd:Value} {A:Around} {outer:List Env} {s0:Shared} {H0:Hp} {E:XK}
theorem leave {pins:List (Addr×Obj)} {σ:St} {H:Hp} {s:Shared} {a C:Addr} {dx:Option Addr} (I:Inv (cxOf (CXE P w) P w K mg base N qual scope f cd A outer s0 H0 E) pins σ H s) (x:Exc H a C dx) (h:∀ H'',XS a H H''→E (.ref a) none H'') :
  (cxOf (CXE P w) P w K mg base N qual scope f cd A outer s0 H0 E).xe (.ref a) s:=by
 show wpAny _ _ («leaving» _ (.ref a)) _ _ s
 unfold «leaving»
 refine wpAny_bind (Inv.noted I rfl rfl I.ok.frames x fun h' H' xs x' I'=>?_)
 exact ⟨a,C,dx,H',rfl,I'.os,I'.bare,I'.base,I'.hok,x',fun H'' y=>h H'' (xs.trans y)⟩
end
structure ExC (K:PySem.W.Frag) (mg:Str→Option Value) (x:Str) (C:Addr) (bmB:List Value) (newId:String):Prop where
 m:mg x=some (.ref C)
 k:PySem.W.excIn K C bmB newId=true
section
open PySem.W
theorem xaZ {K:Frag} {h:Heap} {C:Addr} {bmB:List Value} {newId:String} (X:K.In h) (q:excIn K C bmB newId=true) :
  ∃ bm N nm qn bs hdct sn sub ab col dd k0 k1 k2 k3 k5 mN,h.get? C=some (excClassObj nm qn C N bs bm hdct sn sub ab col dd k0 k1 k2 k3 k5 newId)∧h.Ns N mN∧mN "__init__" = none∧OwnTail h bmB bm:=by
 unfold excIn at q
 split at q
 ·next dd cd sl ho =>
  split at q
  ·next C' bm k0 k1 k2 k3 n k5 hm hs =>
   simp only [Bool.and_eq_true,beq_iff_eq,Bool.not_eq_true'] at q
   obtain ⟨⟨⟨⟨⟨e1,e2⟩,e3⟩,e4⟩,e5⟩,e6⟩:=q
   subst e1 e2
   obtain ⟨nm,bs,mro,ns,qn,hd,sn,sub,ab,col,del⟩:=cd
   obtain ⟨l⟩:=sl
   dsimp only at hm hs e3 e5 e6
   subst hm e3 hs
   exact ⟨bm,ns,nm,qn,bs,hd,sn,sub,ab,col,dd,k0,k1,k2,k3,k5,_,X _ _ ho,.of_isNs (isNs_of_in X e5),nsMap_none_of_in X e5 e6,tail_of_in X e4⟩
  ·cases q
 ·cases q
end
noncomputable def tRaise (C:Addr) (E:XK):TS:=fun _ _ H=>∀ e H2,H e=none→XS e (upd H e (XO e C none none)) H2→E (.ref e) none H2
section
variable {X:Cx} {pins:List (Addr×Obj)} {σ:St} {H:Hp} {s:Shared} {a C:Addr} {dx:Option Addr}
theorem Inv.lay1 {h':Heap} {o:HO} (I:Inv X pins σ H s) (kp:∀ b u,s.heap.get? b=some u→h'.get? b=some u) (hn:s.heap.get? a=none) (new:ObjOk X.prog X.w (upd H a o) h' a o):Inv X pins σ (upd H a o) { s with heap:=h' }:=by
 have Ha:H a=none:=I.hok.none_of hn
 have ne:∀ b u,H b=some u→b≠a:=fun b u q=>Zam q Ha
 have up:∀ b u,H b=some u→upd H a o b=some u:=fun b u q=>by rw [xae (ne b u q)];exact q
 have hok:HOk X.prog X.w (upd H a o) h':=fun b u q=>by
  by_cases hb:b=a
  ·subst hb;rw [xah] at q;cases q;exact new
  ·rw [xae hb] at q
   exact (I.hok b u q).stay (fun c v _ r=>kp c v r) (fun c r=>up c _ r) fun c xs r=>up c _ r
 have un:Un (frs X.stack) [] H (upd H a o) s.heap h' :=
  ⟨fun b u q _ _ _=>kp b u q,fun b u q _ _ _=>⟨u.slots,kp b u q⟩,fun b u q n _=>by rw [xae (fun z=>by rw [z,hn] at q;cases q)];exact n,fun b u q _=>⟨u,kp b u q⟩,fun b xs q=>up b _ q,fun b x y q=>up b _ q,fun b ps q=>⟨#[],by rw [Array.append_empty];exact up b _ q⟩⟩
 exact I.call (ch:=[]) un hok I.bare fun b z=>absurd z (by simp)
theorem Inv.flight {M:Model} {A:Around} {E:Value→Shared→Prop} {Q:Unit→Shared→Prop} (I:Inv X pins σ H s) (x:Exc H a C dx) (h:∀ h',Inv X pins σ H { s with heap:=h' }→Q () { s with heap:=h' }):wpAny M A (setFlight (.ref a) none) Q E s:=by
 obtain ⟨tr,ea,et⟩:=x
 obtain ⟨oe,vs,he,hc,hdx,hd,h1⟩:=XO.of I.hok ea
 cases tr with
 | none =>
  unfold setFlight
  refine wpAny_bind (wpAny_field he hd h1 ?_)
  exact wpAny_pure (h s.heap I)
 | some T =>
  obtain ⟨Ta,eT⟩:=et T rfl
  obtain ⟨oT,ts,q1,q2,q3⟩:=XT.of I.hok eT
  have lt:3 < ts.size:=(Array.getElem?_eq_some_iff.mp q3).1
  have d2:=Obj.data_mapFields q2 (·.setIfInBounds 3 Value.none)
  have T2:=Heap.get?_update_self (Obj.mapFields (·.setIfInBounds 3 Value.none)) q1 (Obj.isFreed_of_fields d2)
  have oth:∀ b u,b≠T→s.heap.get? b=some u→(s.heap.update T (Obj.mapFields (·.setIfInBounds 3 Value.none))).get? b=some u:=fun b u n q=>by rw [Heap.get?_update_other _ _ (Ne.symm n)];exact q
  have nT:∀ b,H b=none→b≠T:=fun b n z=>by rw [z,eT] at n;cases n
  refine wpAny_setFlight_none he hd h1 q1 q2 lt (h _ (I.call (ch:=[]) ⟨fun b u q n _ _=>oth b u (nT b n) q,fun b u q n _ _=>⟨u.slots,oth b u (nT b n) q⟩,fun b u q n _=>n,fun b u q _=>?_,fun _ _ q=>q,fun _ _ _ q=>q,fun b ps q=>⟨#[],by rw [Array.append_empty];exact q⟩⟩ ?_ I.bare fun b z=>absurd z (by simp)))
  ·by_cases z:b=T
   ·subst z;exact ⟨_,T2⟩
   ·exact ⟨u,oth b u z q⟩
  ·intro b u q
   by_cases z:b=T
   ·subst z;rw [eT] at q;cases q;exact XT.ok ⟨_,_,T2,d2,by simp [lt]⟩
   ·refine (I.hok b u q).stay (fun c v hc' r=>oth c v ?_ r) (fun c r=>r) fun c xs r=>r
    rcases hc' with rfl | hc'
    ·exact z
    ·rintro rfl;rw [eT] at hc';cases hc'
end
section
variable {P:Program} {w:World} {K:PySem.W.Frag} {mg:Str→Option Value} {base:Heap} {N:List Str} {qual:Str} {scope:Scope} {f:Addr} {cd:Value} {A:Around} {outer:List Env} {s0:Shared} {H0:Hp} {E:XK}
theorem XaZ {x:Str} {C:Addr} {B newId initId:String} {bmB:List Value} {np cpos pos:Pos} (FB:ExcBaseFacts B newId initId bmB) (ec:ExC K mg x C bmB newId) (hg:Gl (cxOf (CXE P w) P w K mg base N qual scope f cd A outer s0 H0 E) x) (hdb:(x == ("__debug__" : Str))=false:=by decide) :
  PS (cxOf (CXE P w) P w K mg base N qual scope f cd A outer s0 H0 E) (.Raise (some (.Call (.Name x np) [] [] cpos)) none pos) (tRaise C E):=by
 intro pins s σ H D I h
 obtain ⟨bm,NN,nm,qn,bs,hdct,sn,sub,ab,col,dd,k0,k1,k2,k3,k5,mN,hC,hN,hni,T⟩:=xaZ I.kIn ec.k
 refine wpAny_Raise_call_subT (C:=C) (nm:=nm) (q:=qn) (N:=NN) (bs:=bs) (bm:=bm) (hdct:=hdct) (sn:=sn) (sub:=sub) (ab:=ab) (col:=col) (dd:=dd) (k0:=k0) (k1:=k1) (k2:=k2) (k3:=k3) (k5:=k5) FB (mN:=mN) (T.hasType FB.hasBase) (I.ok.hd rfl) rfl hni (zaA I hg ec.m ⟨rfl,?_⟩ hdb)
 refine evalArgs_empty ⟨rfl,Nat.zero_le _,hC,hN,T,fun h' e hm=>?_⟩
 obtain ⟨t,ht,_,_⟩:=hm.there
 exact leave (I.lay1 hm.keeps hm.new (XO.ok ⟨_,_,ht,rfl,rfl,rfl,rfl⟩)) ⟨none,xah,fun T z=>by cases z⟩ fun H2 y=>h e H2 (I.hok.none_of hm.new) y
end
end L2
namespace L2
open PySem PySem.Spec PyProof.Rows
theorem exm {M:Model} {A:Around} {E:Value→Shared→Prop} {s:Shared} {K:PySem.W.Frag} {a C F:Addr} {oe:Obj} {bmB:List Value} {newId:String} {Q:Bool→Shared→Prop} (X:K.In s.heap) (he:s.heap.get? a=some oe) (hc:oe.cls=.ref C)
  (hF:PySem.W.excIn K F bmB newId=true) (hb:bmB.contains (.type "BaseException")=true) (hm:PySem.W.mroIn K C (.ref F)=some true) (hq:Q true s):wpAny M A (excMatches (.ref a) (.ref F)) Q E s:=by
 obtain ⟨bm,NN,nm,qn,bs,hdct,sn,sub,ab,col,dd,k0,k1,k2,k3,k5,mN,hC,hN,hni,T⟩:=xaZ X hF
 have L:=PySem.W.looks_mroIn (M:=M) X hm
 obtain ⟨h,g,d,t,os⟩:=s
 have hcB:(Value.ref F :: bm).contains (.type "BaseException")=true:=by rw [List.contains_cons,T.hasType hb,Bool.or_true]
 have f:=tc_notTuple
 unfold excMatches
 repeat (first | (with_reducible refine wpAny_loadPart_at he ?_;rw [hc]) | with_reducible refine wpAny_loadPart_at hC ?_ | (with_reducible refine wpAny_isSubtype_exc hC ?_;rw [hcB]) | wp_step)
 refine L.at ?_
 rw [if_pos rfl]
 wp_walk
 exact hq
abbrev Cx.tr (X:Cx) (pins:List (Addr×Obj)) (W:St→Addr→Hp→Prop):Cx :=
 { X with pn:=X.pn ++ pins,xe:=fun e s=>∃ σ H a C dx,e=.ref a∧Inv X pins σ H s∧Exc H a C dx∧∀ H2,XS a H H2→W σ a H2 }
abbrev Cx.held (X:Cx) (a:Addr):Cx:={ X with A:=X.A.mark (some (.ref a)),calm:=false,xe:=fun _ _=>False }
section
variable {X:Cx} {pins:List (Addr×Obj)} {σ:St} {H:Hp} {s:Shared} {W:St→Addr→Hp→Prop} {a:Addr}
theorem Cx.Ok.tr (ok:X.Ok):(X.tr pins W).Ok:=⟨ok.mod,ok.kind,ok.glob,ok.blt,ok.above,ok.inj,ok.has,ok.cab,ok.hd,ok.frames,ok.stk,ok.exf,ok.bs,ok.bsz,ok.noex,ok.exfs,ok.funs,ok.frf⟩
theorem Cx.Ok.untr (ok:(X.tr pins W).Ok):X.Ok:=⟨ok.mod,ok.kind,ok.glob,ok.blt,ok.above,ok.inj,ok.has,ok.cab,ok.hd,ok.frames,ok.stk,ok.exf,ok.bs,ok.bsz,ok.noex,ok.exfs,ok.funs,ok.frf⟩
theorem Inv.tr (I:Inv X pins σ H s):Inv (X.tr pins W) [] σ H s:=⟨I.ok.tr,I.os,I.bare,I.base,I.loc,I.cell,I.free,I.freeC,fun p hp=>I.pin p (by rw [List.append_nil] at hp;exact hp),I.hok,I.len⟩
theorem Inv.untr {pins':List (Addr×Obj)} (I:Inv (X.tr pins W) pins' σ H s):Inv X pins σ H s:=⟨I.ok.untr,I.os,I.bare,I.base,I.loc,I.cell,I.free,I.freeC,fun p hp=>I.pin p (List.mem_append_left _ hp),I.hok,I.len⟩
theorem SP.untr {pins':List (Addr×Obj)} {D:Ends} {f:Flow} {s':Shared} (h:SP (X.tr pins W) pins' D f s'):SP X pins D f s':=by
 cases f with
 | next=>obtain ⟨σ',H',I,q⟩:=h;exact ⟨σ',H',I.untr,q⟩
 | brk=>obtain ⟨σ',H',I,q⟩:=h;exact ⟨σ',H',I.untr,q⟩
 | cont=>obtain ⟨σ',H',I,q⟩:=h;exact ⟨σ',H',I.untr,q⟩
 | ret u=>obtain ⟨v,σ',H',I,r,q⟩:=h;exact ⟨v,σ',H',I.untr,r,q⟩
theorem Cx.Ok.held (ok:X.Ok):(X.held a).Ok:=⟨ok.mod,ok.kind,ok.glob,ok.blt,ok.above,ok.inj,ok.has,ok.cab,fun z=>(by cases z),ok.frames,ok.stk,ok.exf,ok.bs,ok.bsz,ok.noex,ok.exfs,ok.funs,ok.frf⟩
theorem Inv.held (I:Inv X pins σ H s):Inv (X.held a) pins σ H s:=⟨I.ok.held,I.os,I.bare,I.base,I.loc,I.cell,I.free,I.freeC,I.pin,I.hok,I.len⟩
theorem Inv.unheld (ok:X.Ok) (I:Inv (X.held a) pins σ H s):Inv X pins σ H s:=⟨ok,I.os,I.bare,I.base,I.loc,I.cell,I.free,I.freeC,I.pin,I.hok,I.len⟩
theorem Inv.unbind {M:Model} {A:Around} {E:Value→Shared→Prop} {i:Nat} {n:Str} {pos:Pos} {Q:Unit→Shared→Prop} (I:Inv X pins σ H s) (hN:X.N.Nodup) (hi:X.N[i]?=some n) (hk:X.env.scope.names.lookup n=some .local)
  (h:∀ s',Inv X pins (σ.set i none) H s'→Q () s'):wpAny M A (do bindName X.env n .none;unbindBehindTheSuite X.env n pos) Q E s:=by
 obtain ⟨m,hn,hl⟩:=id I.loc
 have hcls:(X.env.scope.kind == .class || (X.env.scope.kind == .module && X.env.locals != X.env.globals))=false:=by rw [I.ok.kind];rfl
 have cne:=I.cne
 refine wpAny_nameGoes_keeps hk hn hcls fun h' v hn' hs=>h _ ?_
 have low:∀ b o,X.s₀.heap.get? b=some o→b≠X.env.locals:=fun b o e=>Nat.ne_of_lt (Nat.lt_of_lt_of_le (Heap.lt_size e) I.ok.above)
 have up:∀ b o,b≠X.env.locals→s.heap.get? b=some o→h'.get? b=some o:=fun b o n q=>(hs.2 b n).trans q
 refine ⟨I.ok,I.os,I.bare,⟨fun b o e n hb hx=>up b o (low b o e) (I.base.keep b o e n hb hx),fun b o e n hb hx=>?_,I.base.free,fun b o e hx=>?_,I.base.tups,I.base.frzs,I.base.tbls⟩,⟨_,hn',fun j y v' e1 e2 e3=>?_⟩,fun y c e=>?_,I.free,I.freeC,fun p hp=>?_,fun b ob e=>?_,by simpa using I.len⟩
 ·obtain ⟨sl,e1⟩:=I.base.slot b o e n hb hx
  exact ⟨sl,up b _ (low b o e) e1⟩
 ·obtain ⟨o',e1⟩:=I.base.there b o e hx
  exact ⟨o',up b _ (low b o e) e1⟩
 ·have hj:j≠i:=fun z=>by
   subst z
   by_cases hl':j < σ.length
   ·rw [List.getElem?_set_self hl'] at e2;cases e2
   ·rw [List.getElem?_eq_none (by rw [List.length_set];omega)] at e2;cases e2
  rw [List.getElem?_set_ne (Ne.symm hj)] at e2
  obtain ⟨u',r',q⟩:=hl j y v' e1 e2 e3
  refine ⟨u',r',?_⟩
  have yn:y≠n:=fun z=>hj (XaE hN e1 (z ▸ hi))
  rcases q with ⟨k,e⟩ | ⟨k,c,e,z⟩
  ·exact .inl ⟨k,by simp [yn,e]⟩
  ·exact .inr ⟨k,c,e,z.sameBut hs (cne y c e)⟩
 ·obtain ⟨w',z⟩:=I.cell y c e
  exact ⟨w',z.sameBut hs (cne y c e)⟩
 ·obtain ⟨e,n',ne,nf,d⟩:=I.pin p hp
  exact ⟨up _ _ ne e,n',ne,nf,d⟩
 ·refine (I.hok b ob e).stay (fun c w' hc q=>up c w' ?_ q) (fun _ q=>q) fun _ _ q=>q
  rintro rfl
  rcases hc with rfl | hc
  ·rw [I.free] at e;cases e
  ·rw [I.free] at hc;cases hc
end
noncomputable def tTry (K:PySem.W.Frag) (tb:(St→Addr→Hp→Prop)→TS) (F:Addr) (i:Nat) (ts:TS):TS:=fun D σ H =>
 tb (fun σ1 a H1=>∃ C dx tr,H1 a=some (XO a C dx tr)∧PySem.W.mroIn K C (.ref F)=some true ∧
  ts { nx:=fun σ2 H2=>D.nx (σ2.set i none) H2,bk:=fun σ2 H2=>D.bk (σ2.set i none) H2,ct:=fun σ2 H2=>D.ct (σ2.set i none) H2,rt:=D.rt } (σ1.set i (some (.ref a))) H1) D σ H
section
variable {X:Cx} {i:Nat} {x n:Str} {F:Addr} {bmB:List Value} {newId:String} {tb:(St→Addr→Hp→Prop)→TS} {ts:TS} {body suite:List Stmt} {b0:Stmt} {np hpos pos:Pos}
theorem ps_try (ec:ExC X.K X.mg x F bmB newId) (hbB:bmB.contains (.type "BaseException")=true) (hg:Gl X x) (hN:X.N.Nodup) (hi:X.N[i]?=some n) (hk:X.env.scope.names.lookup n=some .local) (hb:∀ pins W,PSs (X.tr pins W) body (tb W)) (hsu:∀ a,PSs (X.held a) (b0 :: suite) ts)
  (hst:X.stack=X.env :: X.outer:=by rfl) (hf:X.env.frame=some X.env.locals:=by rfl) (hdb:(x == ("__debug__" : Str))=false:=by decide) :
  PS X (.Try body [.ExceptHandler (some (.Name x np)) (some n) (b0 :: suite) hpos] [] [] pos) (tTry X.K tb F i ts):=by
 intro pins s σ H D I h
 refine wpAny_Try_except (wpAny_mono (hb pins _ [] s σ H D I.tr h) (fun f s1 q=>?_) fun e s1 q=>?_)
 ·cases f with
  | next=>exact wpAny_pure q.untr
  | brk=>exact q.untr
  | cont=>exact q.untr
  | ret u=>exact q.untr
 ·obtain ⟨σ1,H1,a,C,dx,rfl,I1,x1,w1⟩:=q
  refine Inv.noted I1 hst hf I1.ok.frames x1 fun h2 H2 xs x2 I2=>?_
  obtain ⟨C',dx',tr,e2,hm,q2⟩:=w1 H2 xs
  obtain ⟨oe,vs,he,hc,_⟩:=XO.of I2.hok e2
  refine wpAny_handleBy_cons (codeAny_handlers_test (zaA (X:=X.held a) I2.held hg ec.m ?_ hdb)) (by intro z;cases z)
  refine exm I2.kIn he hc ec.k hbB hm ?_
  refine codeAny_handlers_suite_as (Inv.flight I2 x2 fun h3 I3=>zax (X:=X.held a) (v:=.ref a) I3.held hN hi (.inl hk) rfl (fun s4 I4=>?_) (.inr hk))
  refine wpAny_mono (hsu a pins s4 _ H2 _ I4 q2) (fun f s5 q5=>?_) fun _ _ z=>z.elim
  cases f with
  | next=>obtain ⟨σ6,H6,I6,q6⟩:=q5;exact Inv.unbind (I6.unheld I.ok) hN hi hk fun s7 I7=>⟨_,H6,I7,q6⟩
  | brk=>obtain ⟨σ6,H6,I6,q6⟩:=q5;exact Inv.unbind (I6.unheld I.ok) hN hi hk fun s7 I7=>⟨_,H6,I7,q6⟩
  | cont=>obtain ⟨σ6,H6,I6,q6⟩:=q5;exact Inv.unbind (I6.unheld I.ok) hN hi hk fun s7 I7=>⟨_,H6,I7,q6⟩
  | ret u=>obtain ⟨v,σ6,H6,I6,r6,q6⟩:=q5;exact Inv.unbind (I6.unheld I.ok) hN hi hk fun s7 I7=>⟨v,_,H6,I7,r6,q6⟩
end
noncomputable def tCallX (sp:Sp) (W:St→Addr→Hp→Prop) (t:TA):TE:=fun σ H Q=>t σ H fun vs H1=>sp vs H1 Q fun u _ H2=>∃ a,u=.ref a∧W σ a H2
section
variable {X:Cx} {k:Nat} {f:Addr} {fd:FuncData} {ps:List Str} {sp:Sp} {x:Str} {p pos:Pos} {e:Expr} {es:List Expr} {t:TA} {pins:List (Addr×Obj)} {W:St→Addr→Hp→Prop}
theorem ya9 (F:FnOk X.prog X.w X.K X.mg X.base (CXE X.prog X.w) k f fd ps sp) (hr:Room k X.A) (hg:Gl X x) (hm:X.mg x=some (.ref f)) (hk:PySem.W.keepIn X.K (.ref f)=true) (hb:Binds X.K fd ps [])
  (ha:PA (X.tr pins W) (e :: es) t) (hdb:(x == ("__debug__" : Str))=false:=by decide) (he:starEach (e :: es) X.env=(false,eval e X.env) :: starEach es X.env:=by rfl) (hpl:(backTo pos (starEach es X.env)).any (·.1)=false:=by rfl) :
  PE (X.tr pins W) (.Call (.Name x p) (e :: es) [] pos) (tCallX sp W t):=by
 intro pins' s σ H Q I h
 refine wpAny_Call_Name_kw (zaA I hg hm ?_ hdb)
 refine PySem.W.callWith_K (h₀:=X.base) I.ok.mod.kin hk (thn (ha pos pins' s σ H _ I h) fun us s1 ⟨vs,H1,I1,r,q⟩=>⟨I1.kIn,?_⟩) he hpl
 have hl:us.length=ps.length:=by rw [← r.length];exact F.len _ _ _ _ q
 have hbd:=hb s1 us I1.kIn (by rw [List.append_nil];exact hl)
 rw [List.append_nil] at hbd
 refine wpAny_call (codeAny_mono (F.run X.A X.stack s1 H1 ⟨us,[]⟩ us vs Q _ hr I1.env0 hbd r q) fun r s' hq=>?_)
 cases r with
 | error e =>
  obtain ⟨a,C,dx,H',rfl,os,bare,un,hok,x,hw⟩:=hq
  refine ⟨σ,H',a,C,dx,rfl,(I1.call' os un hok bare fun b z=>absurd z (by simp)).untr,x,fun H2 y=>?_⟩
  obtain ⟨a',ea,w⟩:=hw H2 y
  cases ea
  exact w
 | ok fl =>
  cases fl with
  | ret u=>exact I1.after hq
  | next=>exact False.elim hq
  | brk=>exact False.elim hq
  | cont=>exact False.elim hq
end
end L2
namespace L2
open PySem PySem.Spec PyProof.Rows PySem.W
structure ExI (K:Frag) (C:Addr):Prop where
 ga:findIn K (.ref C) "__getattribute__" = some (some (.builtin "BaseException.__getattribute__"))
 gt:findIn K (.ref C) "__getattr__" = some none
 hd:hasDictIn K C=true
 bx:mroIn K C (.type "BaseException")=some true
 ob:mroIn K C (.type "object")=some true
 cl:findIn K (.ref C) "__class__" = some (some (.builtin "object.__class__"))
 gs:specialIn K (.builtin "object.__class__") "__get__" = some (some (.builtin "getset_descriptor.__get__"))
 tk:takesIn K (.builtin "object.__class__")=some true
section
variable {prog:Program} {w:World} {A:Around} {E:Value→Shared→Prop} {s:Shared} {K:Frag} {a C:Addr} {ox:Obj} {odo:Option Obj} {name:Str}
theorem za0 {M:Model} {nv:Value} {Q:Unit→Shared→Prop} (X:K.In s.heap) (I:InstAt s.heap a ox C odo) (e:ExI K C) (hq:Q () s):wpAny M A (checkBuiltinCall "BaseException.__getattribute__" ⟨[.ref a,nv],[]⟩) Q E s:=by
 have hk:builtinKind "BaseException.__getattribute__" = some .slot:=by decide +kernel
 have hsplit:splitId "BaseException.__getattribute__" = some ("BaseException","__getattribute__"):=by decide +kernel
 have ha:=F.args_bexc_ga (.ref a) nv
 have LT:=I.type (M:=M)
 have LB:=looks_mroIn (M:=M) X e.bx
 obtain ⟨h,g,d,t,os⟩:=s
 simp only [checkBuiltinCall,hk,hsplit]
 refine wpAny_bind ?_
 unfold isInstance
 refine wpAny_bind (LT.at (LB.at ?_))
 repeat (first | assumption | wp_step)
theorem exc_by {tk:Tok} {fill expr:Bool} {Q:Value→Shared→Prop} (X:K.In s.heap) (I:InstAt s.heap a ox C odo) (e:ExI K C)
  (h:∀ A' (R:Fin→Shared→Prop) E',(∀ v s',handedOut v=pure v→Q v s'→R (.done (.ret v)) s')→wpAny (model prog w) A' (Builtin.«object.__getattribute__» ⟨[.ref a,.str name tk],[]⟩) R E' s) :
  wpAny (model prog w) A (getAttrBy (.ref a) (.str name tk) fill expr) Q E s:=by
 have f3:=F.attrBase_ValueError.ga.bind (.ref a)
 have LT:=I.type (M:=model prog w)
 have L1:=looks_findIn (M:=model prog w) X e.ga
 have L2:=looks_findIn (M:=model prog w) X e.gt
 have hx0:(expr && onTheHeap (Value.builtin "BaseException.__getattribute__"))=false:=by cases expr <;> rfl
 have hx2:(Value.builtin "BaseException.__getattribute__" == Value.builtin "object.__getattribute__")=false:=by decide +kernel
 have hx1:(onTheHeap (Value.ref C) && Value.builtin "BaseException.__getattribute__" == Value.builtin "object.__getattribute__")=false:=by rw [hx2];rfl
 obtain ⟨hh,g,d,t,os⟩:=s
 unfold getAttrBy
 repeat (any_goals (first | assumption | with_reducible refine LT.at ?_ | with_reducible refine L1.at ?_ | with_reducible refine L2.at ?_ | wp_step))
 refine codeAny_call_builtin F.attrBase_ValueError.ga.plain F.entry_bexc_ga (za0 X I e ?_)
 refine h _ _ _ fun v s' hv q=>?_
 dsimp only
 rw [hv]
 exact wpAny_pure q
theorem zaT {tk:Tok} {R:Fin→Shared→Prop} (X:K.In s.heap) (I:InstAt s.heap a ox C odo) (e:ExI K C) (h:R (.done (.ret (.ref C))) s) :
  wpAny (model prog w) A (Builtin.«object.__getattribute__» ⟨[.ref a,.str "__class__" tk],[]⟩) R E s:=by
 have LT:=I.type (M:=model prog w)
 have hf:findObj K C odo "__class__" = some (.bind (.builtin "getset_descriptor.__get__") (.builtin "object.__class__")):=by
  obtain ⟨cd,hc,_⟩:=any_some e.hd
  unfold findObj
  rw [hc,Option.bind_some,e.cl,Option.bind_some]
  simp [e.gs,e.tk]
 have LF:=looks_find (M:=model prog w) X I hf
 obtain ⟨hh,g,d,t,os⟩:=s
 repeat (any_goals (first | assumption | with_reducible refine LT.at ?_ | with_reducible refine LF.at ?_ | wp_step))
 exact class_get (s:=⟨hh,g,d,t,os⟩) X I e.ob (wpAny_pure h)
theorem ya0 {Q:Option Value→Shared→Prop} (X:K.In s.heap) (I:InstAt s.heap a ox C odo) (e:ExI K C) (h:Q (some (.ref C)) { s with toks:=s.toks + 1 }):wpAny (model prog w) A (getAttr? (.ref a) "__class__") Q E s:=by
 obtain ⟨hh,g,d,t,os⟩:=s
 unfold getAttr? getAttrBy?
 repeat (any_goals (first | assumption | with_reducible refine exc_by (s:=⟨hh,g,d,t + 1,os⟩) X I e (fun A' R E' k=>zaT (s:=⟨hh,g,d,t + 1,os⟩) X I e (k _ _ rfl ?_)) | wp_step))
theorem Za0 (e:ExI K C):KitX K (.ref a) (.ref C) (fun h=>∃ ox odo,InstAt h a ox C odo) where
 ty:=fun _ _ _ ⟨_,_,I⟩=>I.type
 it:=fun _ _ X _=>by
  obtain ⟨cd,hc,_⟩:=any_some e.hd
  unfold clsIn at hc
  split at hc
  ·next c' d' cd' sl' ho =>
   intro A' Q' E' s' k q
   unfold isType loadHead
   exact wpAny_bind (wpAny_loadPart (k _ _ (X _ _ ho)) (wpAny_pure q))
  ·cases hc
 ne:=fun h tp dd its n sl X htp=>by
  obtain ⟨cd,hc,_⟩:=any_some e.hd
  refine Bool.eq_false_iff.mpr fun q=>?_
  have z:C=tp:=Value.ref.inj (beq_iff_eq.mp q)
  subst z
  unfold clsIn at hc
  split at hc
  ·next c' d' cd' sl' ho =>
   have z:=(X _ _ ho).symm.trans htp
   cases z
  ·cases hc
 ca:=fun X ⟨_,_,I⟩ k=>ya0 X I e k
end
theorem Za9 {P:Program} {w:World} {H:Hp} {h:Heap} {a C:Addr} {dx tr:Option Addr} (ok:HOk P w H h) (ea:H a=some (XO a C dx tr)) (hd:∀ d,dx=some d→∃ fs,H d=some (.xd fs)):∃ ox odo,InstAt h a ox C odo:=by
 obtain ⟨o,vs,he,hc,hdx,hdt,_⟩:=XO.of ok ea
 have nc:notCls o=true:=by unfold notCls;rw [hdt]
 cases dx with
 | none=>exact ⟨o,none,he,hc,nc,by rw [hdx];trivial⟩
 | some d =>
  obtain ⟨fs,ed⟩:=hd d rfl
  obtain ⟨mA,⟨od,es,ep,e1,_⟩,_⟩:=(show ObjOk P w H h d (.xd fs) from ok d _ ed)
  exact ⟨o,some od,he,hc,nc,by rw [hdx];exact e1⟩
inductive ClsN (K:Frag) (mg:Str→Option Value):Str→Value→V→Prop where
 | own {x:Str} {C:Addr}:mg x=some (.ref C)→ClsN K mg x (.ref C) (.ref C)
 | blt {x:Str} {n:String}:mg x=none→bootBuiltins x=some (.type n)→x≠"__name__" → ClsN K mg x (.type n) (.ty n)
section
variable {X:Cx} {x:Str} {c:Value} {v:V} {p pos:Pos} {e:Expr} {te:TE} {b:Bool}
theorem yaz (h:ClsN X.K X.mg x c v) (hg:Gl X x) (hdb:(x == ("__debug__" : Str))=false:=by decide):PE X (.Name x p) (tC v):=by
 cases h with
 | own m=>exact yaW hg m rfl hdb
 | blt m b n=>exact yaF hg m b rfl n hdb
end
noncomputable def clsV:V→Option Value
 | .ref a=>some (.ref a)
 | .ty n=>some (.type n)
 | _=>none
noncomputable def clsVs:List V→Option (List Value)
 | []=>some []
 | v :: r=>match clsV v,clsVs r with
  | some c,some cs=>some (c :: cs)
  | _,_=>none
theorem ZaQ {v:V} {c u:Value} (h:clsV v=some c) (r:RelV v u):u=c:=by
 cases v <;> first | (cases h;exact r) | cases h
theorem ZaK:∀ {vs:List V} {cs us:List Value},clsVs vs=some cs→Vals vs us→us=cs
 | _,_,_,h,.nil=>by cases h;rfl
 | v :: r,cs,_,h,.cons a b=>by
  unfold clsVs at h
  split at h
  ·next c cs' e1 e2=>cases h;rw [ZaQ e1 a,ZaK e2 b]
  ·cases h
noncomputable def rIsX (K:Frag):List V→Hp→VK→Prop:=fun xs H Q=>∃ a C dx tr v b,xs=[.ref a,v]∧H a=some (XO a C dx tr)∧(∀ d,dx=some d→∃ fs,H d=some (.xd fs))∧ExI K C ∧
 ((∃ c,clsV v=some c∧kitOne K (.ref C) c=some b)∨∃ p vs cs,v=.ref p∧H p=some (.tup vs)∧clsVs vs=some cs∧kitAny K (.ref C) cs=some b)∧Q (.bl b) H
theorem yaG {X:Cx}:CallR X (.builtin "isinstance") (rIsX X.K):=by
 intro pins s σ H xs us Q I r h
 obtain ⟨a,C,dx,tr,v,b,rfl,ea,hd,ei,hc,q⟩:=h
 obtain ⟨u,u',rfl,ru,ru'⟩:=vals2 r
 cases (show u=Value.ref a from ru)
 have J:=Za9 I.hok ea hd
 rcases hc with ⟨c,e1,e2⟩ | ⟨p,vs,cs,rfl,hp,e1,e2⟩
 ·rw [ZaQ e1 ru']
  exact kia_one (Za0 ei) I.kIn J e2 (fun z=>nomatch z) fun tk=>⟨.bl b,H,I.tok tk,rfl,q⟩
 ·cases (show u'=Value.ref p from ru')
  obtain ⟨_,its,rv,o,h1,h2,h3,n,h4⟩:=(show ObjOk X.prog X.w H s.heap p (.tup vs) from I.hok p _ hp)
  have ec:=ZaK e1 rv
  subst ec
  obtain ⟨oc,od,odt,osl⟩:=o
  cases h2
  cases h4
  exact kia_tup (Za0 ei) I.kIn J h1 e2 (fun z=>nomatch z) fun tk=>⟨.bl b,H,I.tok tk,rfl,q⟩
theorem Fun.okX {P:Program} {w:World} {K:Frag} {mg:Str→Option Value} {base:Heap} {x qual:Str} {st:Stmt} {f:Addr} {fd:FuncData} {N ps:List Str} {k:Nat} {sp:Sp} (F:Fun K x qual st f fd) (S:FnScope N ps (defScope st)) (len:∀ vs H Q E,sp vs H Q E→vs.length=ps.length)
  (hbody:∀ (cdv:Value) (A:Around) (outer:List Env) (s:Shared) (H:Hp) (vs:List V) (Q:VK) (E:XK),Room k (A.deeper (envOfC qual (defScope st) s.heap.objs.size f cdv))→sp vs H Q E →
   ∃ t,PSs (cxOf (CXE P w) P w K mg base N qual (defScope st) f cdv A outer s H E) (defBody st) t∧t { nx:=fun _ H'=>Q .non H',rt:=Q } (start N vs) H):FnOk P w K mg base (CXE P w) (k + 1) f fd ps sp:=by
 obtain ⟨oc,od,kV,doc,pm,an,cdv,ct,osl,rfl,lk,hcd⟩:=F.ex
 exact fn_of lk hcd S len fun A outer s H vs Q E hr hsp=>hbody cdv A outer s H vs Q E hr hsp
end L2
namespace L2
open PySem PySem.Spec PyProof.Rows
section
variable {X:Cx}
noncomputable def rCount:V→List V→Hp→VK→Prop:=fun x vs H Q=>∃ a b:Str,x=.str a∧vs=[.str b]∧Q (.int (Txt.count a b)) H
theorem YaQ:MtM X "str.count" rCount:=by
 intro pins s σ H x vs v us Q I rx rv h
 obtain ⟨a,b,rfl,rfl,q⟩:=h
 obtain ⟨t,rfl⟩:=rx
 obtain ⟨u,rfl,ru⟩:=rv.one
 obtain ⟨t2,rfl⟩:=ru
 exact SC.count ⟨.int _,H,I.tok _,⟨_,rfl⟩,q⟩
end
end L2
namespace Mth
end Mth
namespace Mth
noncomputable def app (xs:List Int) (i:Int):Int:=xs.getD i.toNat 0
noncomputable def itr (xs:List Int) (i:Int):Nat→Int
 | 0=>i
 | j + 1=>app xs (itr xs i j)
noncomputable def row (xs:List Int) (i:Int) (m:Nat):List Int:=(List.range (m + 1)).map (itr xs i)
end Mth
namespace Mth
end Mth
namespace Mth
end Mth
namespace Mth
end Mth
namespace Mth
section
variable {n:Nat} {xs ys:List Int} {s:Int}
end
end Mth
namespace Mth
section
variable {n:Nat} {xs:List Int} {i:Int}
end
end Mth
namespace Mth
noncomputable def tb (l:Int→Nat) (p:Int→Int) (a b:Int):Bool:=if l a=l b∨l (p a)=l (p b) then false else (decide (l a < l b)).xor (decide (l (p a) < l (p b)))
section
variable {n:Nat} {L:List Int} {l:Int→Nat}
end
end Mth
namespace Mth
end Mth
namespace Mth
abbrev Sp:=Bool×Int
noncomputable def prS (s:Sp):Prop:=(s.1=false→1≤s.2∧s.2≤3)∧s.2≠0
structure T4 where (a b c d:Int)
noncomputable def T4.one:T4:=⟨1,0,0,1⟩
noncomputable def T4.qt:T4:=⟨0,-1,1,0⟩
noncomputable def T4.mul (x y:T4):T4:=⟨x.a * y.a + x.b * y.c,x.a * y.b + x.b * y.d,x.c * y.a + x.d * y.c,x.c * y.b + x.d * y.d⟩
theorem T4.ext' {x y:T4} (h1:x.a=y.a) (h2:x.b=y.b) (h3:x.c=y.c) (h4:x.d=y.d):x=y:=by cases x;cases y;simp only at h1 h2 h3 h4;subst h1 h2 h3 h4;rfl
theorem T4.assoc (x y z:T4):(x.mul y).mul z=x.mul (y.mul z):=by
 apply T4.ext' <;> simp only [T4.mul,Int.add_mul,Int.mul_add,Int.mul_assoc] <;> omega
theorem T4.one_mul (x:T4):T4.one.mul x=x:=by apply T4.ext' <;> simp [T4.mul,T4.one]
theorem T4.mul_one (x:T4):x.mul T4.one=x:=by apply T4.ext' <;> simp [T4.mul,T4.one]
noncomputable def qp:Nat→T4
 | 0=>T4.one
 | n + 1=>T4.qt.mul (qp n)
noncomputable def stT (s:Sp):T4:=if s.1 then ⟨1,s.2,0,1⟩ else qp s.2.toNat
noncomputable def tabF (T:T4) (w:List Sp):T4:=w.foldl (fun T s=>(stT s).mul T) T
noncomputable def tabW (w:List Sp):T4:=tabF T4.one w
theorem Ybl (w:List Sp):∀ T:T4,tabF T w=(tabW w).mul T:=by
 induction w with
 | nil=>exact fun T=>(T4.one_mul T).symm
 | cons s w ih =>
  intro T
  show tabF ((stT s).mul T) w=(tabF ((stT s).mul T4.one) w).mul T
  rw [ih,ih,T4.mul_one,T4.assoc]
theorem xaQ (u v:List Sp):tabW (u ++ v)=(tabW v).mul (tabW u):=by
 show tabF T4.one (u ++ v)=_
 unfold tabF
 rw [List.foldl_append]
 exact Ybl v _
theorem XaA (u:List Sp) (s:Sp):tabW (u ++ [s])=(stT s).mul (tabW u):=by
 show tabF T4.one (u ++ [s])=_
 unfold tabF
 rw [List.foldl_append];rfl
theorem t3 {k:Int} (h:1≤k∧k≤3):k=1∨k=2∨k=3:=by omega
noncomputable def T4.le (x:T4) (M:Nat):Prop:=x.a.natAbs≤M∧x.b.natAbs≤M∧x.c.natAbs≤M∧x.d.natAbs≤M
theorem le1 {a c k:Int} {M B:Nat} (ha:a.natAbs≤M) (hc:c.natAbs≤M) (hk:k.natAbs≤B):(a + k * c).natAbs≤(B + 1) * M:=by
 have h1:(k * c).natAbs≤B * M:=by rw [Int.natAbs_mul];exact Nat.mul_le_mul hk hc
 rw [Nat.succ_mul]
 omega
theorem st_le {T:T4} {s:Sp} {M B:Nat} (h:T.le M) (hp:prS s) (hs:s.2.natAbs≤B):((stT s).mul T).le ((B + 1) * M):=by
 obtain ⟨b,k⟩:=s
 obtain ⟨ha,hb,hc,hd⟩:=h
 have hM:M≤(B + 1) * M:=by rw [Nat.succ_mul];omega
 cases b with
 | true =>
  refine ⟨?_,?_,?_,?_⟩ <;> simp only [T4.mul,stT,if_true,Int.one_mul,Int.zero_mul,Int.zero_add]
  ·exact le1 ha hc hs
  ·exact le1 hb hd hs
  ·omega
  ·omega
 | false =>
  have h1:=hp.1 rfl
  simp only at h1
  rcases t3 h1 with rfl | rfl | rfl <;> refine ⟨?_,?_,?_,?_⟩ <;> simp [T4.mul,stT,qp,T4.qt,T4.one] <;> omega
end Mth
namespace Mth
abbrev Flo:=List Int×List Int
end Mth
namespace Mth
section
variable {n:Nat} {a b c g x y:List Int}
end
section
variable {n:Nat} {p q r:Flo}
end
section
variable {n:Nat} {p q r:Flo}
end
section
variable {n:Nat} {p q:Flo}
end
end Mth
namespace Mth
noncomputable def nr (x y:Int):Int:=(2 * x + y).fdiv (2 * y)
theorem Ya0 (a b:Int) (hb:b≠0):(0 < b→0≤a - b * a.fdiv b∧a - b * a.fdiv b < b)∧(b < 0→b < a - b * a.fdiv b∧a - b * a.fdiv b≤0):=by
 have h1:=Int.mul_ediv_add_emod a b
 have h2:=Int.emod_nonneg a hb
 have h3:=Int.emod_lt a hb
 rw [Int.fdiv_eq_ediv]
 constructor
 ·intro h
  rw [if_pos (.inl (by omega)),Int.sub_zero]
  have:b.natAbs=b.toNat:=by omega
  constructor <;> omega
 ·intro h
  by_cases hd:b ∣ a
  ·rw [if_pos (.inr hd),Int.sub_zero]
   have:a % b=0:=Int.emod_eq_zero_of_dvd hd
   constructor <;> omega
  ·rw [if_neg (by rintro (z | z);omega;exact hd z),Int.mul_sub]
   have hne:a % b≠0:=fun z=>hd (Int.dvd_of_emod_eq_zero z)
   constructor <;> omega
theorem Ya9 {x y:Int} (hy:y≠0):2 * (x - nr x y * y).natAbs≤y.natAbs:=by
 obtain ⟨h1,h2⟩:=Ya0 (2 * x + y) (2 * y) (by omega)
 have e:2 * x + y - 2 * y * (2 * x + y).fdiv (2 * y)=2 * (x - nr x y * y) + y:=by
  unfold nr
  rw [Int.mul_sub,Int.mul_comm ((2 * x + y).fdiv (2 * y)) y,Int.mul_assoc]
  omega
 rw [e] at h1 h2
 rcases (show 0 < y∨y < 0 by omega) with h | h
 ·have:=h1 (by omega);omega
 ·have:=h2 (by omega);omega
theorem nr_abs {x y:Int} (hy:y≠0):(nr x y).natAbs≤x.natAbs + 1:=by
 have h:=Ya9 (x:=x) hy
 have h1:(nr x y * y).natAbs≤x.natAbs + (x - nr x y * y).natAbs:=by omega
 rw [Int.natAbs_mul] at h1
 have hy1:1≤y.natAbs:=by omega
 by_cases hq:(nr x y).natAbs≤x.natAbs + 1
 ·exact hq
 ·exfalso
  have h2:(x.natAbs + 2) * y.natAbs≤(nr x y).natAbs * y.natAbs:=Nat.mul_le_mul_right _ (by omega)
  have h3:(x.natAbs + 2) * y.natAbs=x.natAbs * y.natAbs + 2 * y.natAbs:=Nat.add_mul _ _ _
  have h4:x.natAbs≤x.natAbs * y.natAbs:=Nat.le_mul_of_pos_right _ hy1
  omega
noncomputable def shW (k:Int):List Sp:=if k=0 then [] else [(true,k)]
theorem shW_pr {k:Int}:∀ s∈shW k,prS s∧s.2=k:=fun s hs=>by
 unfold shW at hs
 split at hs
 ·cases hs
 ·next h =>
  rw [List.mem_singleton.mp hs]
  exact ⟨⟨(fun z=>by cases z),h⟩,rfl⟩
theorem xbl (k:Int):tabW (shW k)=⟨1,k,0,1⟩:=by
 unfold shW
 split
 ·next h=>rw [h];rfl
 ·show (stT (true,k)).mul T4.one=_
  rw [T4.mul_one];rfl
theorem xa0 (k:Int):(shW k).length≤1:=by unfold shW;split <;> simp
noncomputable def dvW (x y:Int):List Sp:=shW (-(nr x y)) ++ [(false,1)]
theorem zaN (x y:Int):tabW (dvW x y)=⟨0,-1,1,-(nr x y)⟩:=by
 unfold dvW
 rw [XaA,xbl]
 apply T4.ext' <;> simp [T4.mul,stT,qp,T4.qt,T4.one]
theorem Ybg {x y:Int} (hy:y≠0):∀ s∈dvW x y,prS s∧s.2.natAbs≤x.natAbs + 1:=fun s hs=>by
 have h:=nr_abs (x:=x) hy
 rcases List.mem_append.mp hs with hs | hs
 ·obtain ⟨h1,h2⟩:=shW_pr s hs
  exact ⟨h1,by rw [h2];omega⟩
 ·rw [List.mem_singleton.mp hs]
  exact ⟨⟨fun _=>⟨by decide,by decide⟩,by decide⟩,by show 1≤_;omega⟩
theorem yaN (x y:Int):(dvW x y).length≤2:=by unfold dvW;rw [List.length_append];have:=xa0 (-(nr x y));simp;omega
structure Dv (M:Nat) (x y:Int) (g:List Sp) (u v:Int) (r:Nat):Prop where
 pr:∀ s∈g,prS s∧s.2.natAbs≤M + 1
 ln:g.length≤2 * r
 ua:u=(tabW g).a * x + (tabW g).b * y
 vc:v=(tabW g).c * x + (tabW g).d * y
 ub:u.natAbs≤M
 vb:v.natAbs * 2 ^ r≤M
theorem Dv.zero {M:Nat} {x y:Int} (hx:x.natAbs≤M) (hy:y.natAbs≤M):Dv M x y [] x y 0 :=
 ⟨(fun s hs=>nomatch hs),Nat.le_refl _,by show x=1 * x + 0 * y;omega,by show y=0 * x + 1 * y;omega,hx,by omega⟩
theorem Dv.step {M r:Nat} {x y u v:Int} {g:List Sp} (h:Dv M x y g u v r) (hv:v≠0):Dv M x y (g ++ dvW u v) (-v) (u - nr u v * v) (r + 1):=by
 have hl:=Ya9 (x:=u) hv
 have hlen:=yaN u v
 have h2:1≤2 ^ r:=Nat.one_le_two_pow
 have vM:v.natAbs≤M:=Nat.le_trans (Nat.le_mul_of_pos_right _ h2) h.vb
 have e:tabW (g ++ dvW u v)=⟨-(tabW g).c,-(tabW g).d,(tabW g).a - nr u v * (tabW g).c,(tabW g).b - nr u v * (tabW g).d⟩:=by
  rw [xaQ,zaN]
  apply T4.ext' <;> simp [T4.mul,Int.neg_mul] <;> omega
 refine ⟨fun s hs=>?_,by rw [List.length_append];have:=h.ln;omega,?_,?_,by omega,?_⟩
 ·rcases List.mem_append.mp hs with hs | hs
  ·exact h.pr s hs
  ·obtain ⟨h1,h3⟩:=Ybg hv s hs
   exact ⟨h1,by have:=h.ub;omega⟩
 ·rw [e]
  show -v=-(tabW g).c * x + -(tabW g).d * y
  rw [h.vc,Int.neg_mul,Int.neg_mul];omega
 ·rw [e]
  show u - nr u v * v=((tabW g).a - nr u v * (tabW g).c) * x + ((tabW g).b - nr u v * (tabW g).d) * y
  generalize hq:nr u v=q
  rw [h.ua,h.vc,Int.sub_mul,Int.sub_mul,Int.mul_add,Int.mul_assoc,Int.mul_assoc]
  omega
 ·have:=h.vb
  have h3:(u - nr u v * v).natAbs * 2 ^ (r + 1)=2 * (u - nr u v * v).natAbs * 2 ^ r:=by rw [Nat.pow_succ,Nat.mul_comm (2 ^ r) 2,← Nat.mul_assoc,Nat.mul_comm _ 2]
  rw [h3]
  exact Nat.le_trans (Nat.mul_le_mul_right _ hl) this
theorem Dv.few {M r k:Nat} {x y u v:Int} {g:List Sp} (h:Dv M x y g u v r) (hv:v≠0) (hM:M < 2 ^ k):r < k:=by
 have h1:2 ^ r≤M:=Nat.le_trans (Nat.le_mul_of_pos_left _ (by omega)) h.vb
 exact (Nat.pow_lt_pow_iff_right (by decide)).mp (Nat.lt_of_le_of_lt h1 hM)
end Mth
namespace Mth
theorem xbg {u v:Int} (hv:v≠0) (h:2 * v.natAbs≤u.natAbs):2≤(nr u v).natAbs:=by
 have h1:=Ya9 (x:=u) hv
 generalize nr u v=q at *
 by_cases c:2≤q.natAbs
 ·exact c
 ·have hq:q=-1∨q=0∨q=1:=by omega
  rcases hq with rfl | rfl | rfl <;> omega
theorem grow {a c q:Int} (ha:a.natAbs≤max 1 c.natAbs) (hq:2≤q.natAbs):(-c).natAbs≤max 1 (a - q * c).natAbs:=by
 have h1:(q * c).natAbs=q.natAbs * c.natAbs:=Int.natAbs_mul q c
 have h2:2 * c.natAbs≤q.natAbs * c.natAbs:=Nat.mul_le_mul_right _ hq
 generalize q * c=z at *
 generalize q.natAbs * c.natAbs=y at *
 omega
structure Bv (g:List Sp) (u v:Int) (r:Nat):Prop where
 b0:r=0→(tabW g).c=0∧(tabW g).d=1
 b1:1≤r→2 * v.natAbs≤u.natAbs
 ba:(tabW g).a.natAbs≤max 1 (tabW g).c.natAbs
 bb:(tabW g).b.natAbs≤max 1 (tabW g).d.natAbs
 dt:(tabW g).a * (tabW g).d - (tabW g).b * (tabW g).c=1
theorem Bv.zero (x y:Int):Bv [] x y 0:=⟨fun _=>⟨rfl,rfl⟩,fun h=>by omega,by decide,by decide,by decide⟩
theorem xa9 {a b c d q:Int} (h:a * d - b * c=1):-c * (b - q * d) - -d * (a - q * c)=1:=by
 rw [Int.mul_sub,Int.mul_sub,Int.neg_mul,Int.neg_mul,Int.neg_mul,Int.neg_mul,Int.mul_comm c b,Int.mul_comm d a]
 have:c * (q * d)=d * (q * c):=by rw [← Int.mul_assoc,← Int.mul_assoc,Int.mul_comm c q,Int.mul_comm d q,Int.mul_assoc,Int.mul_assoc,Int.mul_comm c d]
 omega
theorem Bv.step {u v:Int} {r:Nat} {g:List Sp} (h:Bv g u v r) (hv:v≠0):Bv (g ++ dvW u v) (-v) (u - nr u v * v) (r + 1):=by
 have e:tabW (g ++ dvW u v)=⟨-(tabW g).c,-(tabW g).d,(tabW g).a - nr u v * (tabW g).c,(tabW g).b - nr u v * (tabW g).d⟩:=by
  rw [xaQ,zaN]
  apply T4.ext' <;> simp [T4.mul,Int.neg_mul] <;> omega
 have hl:=Ya9 (x:=u) hv
 refine ⟨fun z=>by omega,fun _=>by omega,?_,?_,?_⟩
 ·rw [e]
  show (-(tabW g).c).natAbs≤max 1 ((tabW g).a - nr u v * (tabW g).c).natAbs
  by_cases hr:r=0
  ·rw [(h.b0 hr).1];simp
  ·exact grow h.ba (xbg hv (h.b1 (by omega)))
 ·rw [e]
  show (-(tabW g).d).natAbs≤max 1 ((tabW g).b - nr u v * (tabW g).d).natAbs
  by_cases hr:r=0
  ·rw [(h.b0 hr).2];simp;omega
  ·exact grow h.bb (xbg hv (h.b1 (by omega)))
 ·rw [e];exact xa9 h.dt
theorem Xa0 {a b c d x y:Int} (h:a * d - b * c=1) (h0:c * x + d * y=0):x=d * (a * x + b * y)∧y=-(c * (a * x + b * y)):=by
 have e1:d * (a * x + b * y)=(a * d - b * c) * x + b * (c * x + d * y):=by
  rw [Int.mul_add,Int.mul_add,Int.sub_mul,← Int.mul_assoc,← Int.mul_assoc,← Int.mul_assoc,← Int.mul_assoc,Int.mul_comm d a,Int.mul_comm d b];omega
 have e2:c * (a * x + b * y)=a * (c * x + d * y) - (a * d - b * c) * y:=by
  rw [Int.mul_add,Int.mul_add,Int.sub_mul,← Int.mul_assoc,← Int.mul_assoc,← Int.mul_assoc,← Int.mul_assoc,Int.mul_comm c a,Int.mul_comm c b];omega
 rw [e1,e2,h,h0]
 constructor <;> omega
theorem gcd_of {a b c d x y:Int} (h:a * d - b * c=1) (h0:c * x + d * y=0):Int.gcd x y=(a * x + b * y).natAbs:=by
 obtain ⟨hx,hy⟩:=Xa0 h h0
 apply Nat.dvd_antisymm
 ·have h1:((Int.gcd x y:Nat):Int) ∣ a * x + b * y:=Int.dvd_add (Int.dvd_trans (Int.gcd_dvd_left x y) (Int.dvd_mul_left _ _)) (Int.dvd_trans (Int.gcd_dvd_right x y) (Int.dvd_mul_left _ _))
  have:=Int.natAbs_dvd_natAbs.mpr h1
  simpa using this
 ·have d1:(a * x + b * y) ∣ x:=⟨d,by rw [Int.mul_comm];exact hx⟩
  have d2:(a * x + b * y) ∣ y:=⟨-c,by rw [Int.mul_neg,Int.mul_comm];exact hy⟩
  exact Int.natAbs_dvd_natAbs.mpr d1 |> fun q=>Nat.dvd_gcd q (Int.natAbs_dvd_natAbs.mpr d2)
end Mth
namespace L4
open PySem PySem.Spec L2
inductive D where
 | non | bl (b:Bool) | int (i:Int) | str (x:Str) | ty (n:String) | tup (ds:List D) | ref (i:Nat)
instance:Inhabited D:=⟨.non⟩
inductive O where
 | lst (ds:List D) | fzn (ds:List D) | dct (kvs:List (Key×D)) | dcu (kvs:List (List Int×D)) | exc (c:Str) (fs:List (Str×D)) | any | rng (lo hi:Int)
abbrev Store:=List O
abbrev DSt:=List (Option D)
abbrev Dm (α:Type):=Store→Option (α×Store)
inductive Fl where
 | nx (δ:DSt) | bk (δ:DSt) | ct (δ:DSt) | rt (d:D)
mutual
inductive Rp (K:PySem.W.Frag) (ρ:List Addr) (H:Hp):V→D→Prop
 | non:Rp K ρ H .non .non
 | bl (b:Bool):Rp K ρ H (.bl b) (.bl b)
 | int (i:Int):Rp K ρ H (.int i) (.int i)
 | str (x:Str):Rp K ρ H (.str x) (.str x)
 | ty (n:String):Rp K ρ H (.ty n) (.ty n)
 | ref {a:Addr} {i:Nat}:ρ[i]?=some a→Rp K ρ H (.ref a) (.ref i)
 | tup {a:Addr} {vs:List V} {ds:List D}:SqT K H a vs→Rps K ρ H vs ds→Rp K ρ H (.ref a) (.tup ds)
inductive Rps (K:PySem.W.Frag) (ρ:List Addr) (H:Hp):List V→List D→Prop
 | nil:Rps K ρ H [] []
 | cons {v:V} {vs:List V} {d:D} {ds:List D}:Rp K ρ H v d→Rps K ρ H vs ds→Rps K ρ H (v :: vs) (d :: ds)
end
structure Mn (K:PySem.W.Frag) (ρ:List Addr) (H:Hp) (ρ':List Addr) (H':Hp):Prop where
 r:∀ (i:Nat) (a:Addr),ρ[i]?=some a→ρ'[i]?=some a
 t:∀ a vs,SqT K H a vs→SqT K H' a vs
 f:∀ a o u,H a=some (.frz o u)→H' a=some (.frz o u)
 x:∀ a ws,H a=some (.xd ws)→H' a=some (.xd ws)
section
variable {K:PySem.W.Frag} {ρ ρ' ρ2:List Addr} {H H' H2:Hp}
theorem Mn.refl:Mn K ρ H ρ H:=⟨fun _ _ h=>h,fun _ _ h=>h,fun _ _ _ h=>h,fun _ _ h=>h⟩
theorem Mn.trans (m:Mn K ρ H ρ' H') (n:Mn K ρ' H' ρ2 H2):Mn K ρ H ρ2 H2:=⟨fun i a h=>n.r i a (m.r i a h),fun a vs h=>n.t a vs (m.t a vs h),fun a o u h=>n.f a o u (m.f a o u h),fun a ws h=>n.x a ws (m.x a ws h)⟩
mutual
theorem Rp.mn (m:Mn K ρ H ρ' H'):∀ {v:V} {d:D},Rp K ρ H v d→Rp K ρ' H' v d
 | _,_,.non=>.non
 | _,_,.bl b=>.bl b
 | _,_,.int i=>.int i
 | _,_,.str x=>.str x
 | _,_,.ty n=>.ty n
 | _,_,.ref e=>.ref (m.r _ _ e)
 | _,_,.tup q r=>.tup (m.t _ _ q) (Rps.mn m r)
theorem Rps.mn (m:Mn K ρ H ρ' H'):∀ {vs:List V} {ds:List D},Rps K ρ H vs ds→Rps K ρ' H' vs ds
 | _,_,.nil=>.nil
 | _,_,.cons a b=>.cons (Rp.mn m a) (Rps.mn m b)
end
theorem Rps.length:∀ {vs:List V} {ds:List D},Rps K ρ H vs ds→vs.length=ds.length
 | _,_,.nil=>rfl
 | _,_,.cons _ r=>by rw [List.length_cons,List.length_cons,r.length]
theorem Rps.got:∀ {vs:List V} {ds:List D},Rps K ρ H vs ds→∀ {i:Nat} {d:D},ds[i]?=some d→∃ v,vs[i]?=some v∧Rp K ρ H v d
 | _,_,.nil,i,v,e=>by simp at e
 | _,_,.cons (v:=v) a b,0,d,e=>⟨v,by simp,by have:_=d:=Option.some.inj (by simpa using e);rw [← this];exact a⟩
 | _,_,.cons a b,i + 1,d,e=>by
  obtain ⟨v,e1,r⟩:=Rps.got b (i:=i) (by simpa using e)
  exact ⟨v,by simpa using e1,r⟩
theorem Rps.append:∀ {vs:List V} {ds:List D} {ws:List V} {es:List D},Rps K ρ H vs ds→Rps K ρ H ws es→Rps K ρ H (vs ++ ws) (ds ++ es)
 | _,_,_,_,.nil,s=>s
 | _,_,_,_,.cons a b,s=>.cons a (Rps.append b s)
theorem Rps.one {v:V} {d:D} (r:Rp K ρ H v d):Rps K ρ H [v] [d]:=.cons r .nil
theorem Rps.set {v:V} {d:D} (r:Rp K ρ H v d):∀ {vs:List V} {ds:List D} (i:Nat),Rps K ρ H vs ds→Rps K ρ H (vs.set i v) (ds.set i d)
 | _,_,_,.nil=>.nil
 | _,_,0,.cons _ t=>.cons r t
 | _,_,i + 1,.cons q t=>.cons q (Rps.set r i t)
theorem Rps.reverse:∀ {vs:List V} {ds:List D},Rps K ρ H vs ds→Rps K ρ H vs.reverse ds.reverse
 | _,_,.nil=>.nil
 | _,_,.cons r t=>by rw [List.reverse_cons,List.reverse_cons];exact (Rps.reverse t).append (.one r)
theorem Rps.ints:∀ (ns:List Int),Rps K ρ H (ns.map V.int) (ns.map D.int)
 | []=>.nil
 | n :: r=>.cons (.int n) (Rps.ints r)
end
noncomputable def Rs (K:PySem.W.Frag) (ρ:List Addr) (H:Hp) (σ:St) (δ:DSt):Prop:=σ.length=δ.length∧∀ (i:Nat) (d:D),δ[i]?=some (some d)→∃ v,σ[i]?=some (some v)∧Rp K ρ H v d
noncomputable def Rk (K:PySem.W.Frag) (ρ:List Addr) (H:Hp):List (Key×V)→List (Key×D)→Prop:=Paired fun p q=>p.1=q.1∧Rp K ρ H p.2 q.2
noncomputable def Ru (K:PySem.W.Frag) (ρ:List Addr) (H:Hp):List (List Int×D)→List (List Int×Addr×Value)→Prop:=Paired fun q x=>q.1=x.1∧SqT K H x.2.1 (x.1.map V.int)∧∃ v,RelV v x.2.2∧Rp K ρ H v q.2
noncomputable def Xd (K:PySem.W.Frag) (ρ:List Addr) (H:Hp):Option Addr→List (Str×D)→Prop
 | none,fs=>fs=[]
 | some d,fs=>∃ ws,H d=some (.xd ws)∧∀ f e,fs.lookup f=some e→∃ v,ws.lookup f=some v∧Rp K ρ H v e
noncomputable def RpO (K:PySem.W.Frag) (ρ:List Addr) (H:Hp) (a:Addr):O→Prop
 | .lst ds=>∃ vs,H a=some (.lst vs)∧Rps K ρ H vs ds
 | .fzn ds=>∃ vs,SqF K H a vs∧Rps K ρ H vs ds
 | .dct kvs=>∃ ws,H a=some (.dK ws)∧Rk K ρ H ws kvs
 | .dcu kvs=>∃ xs,H a=some (DU a xs)∧Ru K ρ H kvs xs
 | .exc c fs=>∃ C dx tr,PySem.W.nsIn K mainGlobals c=some (some (.ref C))∧H a=some (XO a C dx tr)∧Xd K ρ H dx fs
 | .any=>True
 | .rng lo hi=>H a=some (.rng lo hi)
noncomputable def O.mut:O→Bool
 | .fzn _=>false
 | .any=>false
 | _=>true
structure Rl (K:PySem.W.Frag) (ρ:List Addr) (H:Hp) (st:Store):Prop where
 len:ρ.length=st.length
 nd:∀ (i j:Nat) (a:Addr) (o o':O),ρ[i]?=some a→ρ[j]?=some a→st[i]?=some o→st[j]?=some o'→o.mut=true→o'.mut=true→i=j
 obj:∀ (i:Nat) (a:Addr) (o:O),ρ[i]?=some a→st[i]?=some o→RpO K ρ H a o
section
variable {K:PySem.W.Frag} {ρ ρ' ρ2:List Addr} {H H' H2:Hp} {st st':Store} {a p:Addr} {i:Nat} {o o':O} {ho:HO} {σ:St} {δ:DSt}
theorem Rs.mn (h:Rs K ρ H σ δ) (m:Mn K ρ H ρ' H'):Rs K ρ' H' σ δ:=⟨h.1,fun i d e=>let ⟨v,e1,r⟩:=h.2 i d e;⟨v,e1,r.mn m⟩⟩
theorem Rk.mn (m:Mn K ρ H ρ' H') {ws:List (Key×V)} {kvs:List (Key×D)} (h:Rk K ρ H ws kvs):Rk K ρ' H' ws kvs:=by
 induction h with
 | nil=>exact .nil
 | cons a _ ih=>exact .cons ⟨a.1,a.2.mn m⟩ ih
theorem Ru.mn (m:Mn K ρ H ρ' H') {kvs:List (List Int×D)} {xs:List (List Int×Addr×Value)} (h:Ru K ρ H kvs xs):Ru K ρ' H' kvs xs:=by
 induction h with
 | nil=>exact .nil
 | cons a _ ih=>obtain ⟨a1,a2,v,a3,a4⟩:=a;exact .cons ⟨a1,m.t _ _ a2,v,a3,a4.mn m⟩ ih
theorem Xd.mn (m:Mn K ρ H ρ' H') {dx:Option Addr} {fs:List (Str×D)} (h:Xd K ρ H dx fs):Xd K ρ' H' dx fs:=by
 cases dx with
 | none=>exact h
 | some d=>obtain ⟨ws,e,q⟩:=h;exact ⟨ws,m.x _ _ e,fun f e' z=>let ⟨v,z1,z2⟩:=q f e' z;⟨v,z1,z2.mn m⟩⟩
theorem RpO.keep (m:Mn K ρ H ρ' H') (h:∀ u,H a=some u→H' a=some u) (r:RpO K ρ H a o):RpO K ρ' H' a o:=by
 cases o with
 | lst ds=>obtain ⟨vs,e,q⟩:=r;exact ⟨vs,h _ e,q.mn m⟩
 | fzn ds =>
  obtain ⟨vs,e,q⟩:=r
  refine ⟨vs,?_,q.mn m⟩
  rcases e with ⟨u,e⟩ | e
  ·exact .inl ⟨u,h _ e⟩
  ·exact .inr e
 | dct kvs=>obtain ⟨ws,e,q⟩:=r;exact ⟨ws,h _ e,q.mn m⟩
 | dcu kvs=>obtain ⟨ws,e,q⟩:=r;exact ⟨ws,h _ e,q.mn m⟩
 | exc c fs=>obtain ⟨C,dx,tr,n,e,q⟩:=r;exact ⟨C,dx,tr,n,h _ e,q.mn m⟩
 | any=>trivial
 | rng lo hi=>exact h _ r
theorem Mn.same (s:Same H H'):Mn K ρ H ρ H':=⟨fun _ _ h=>h,fun _ _ h=>(Kp.of_same (ch:=[]) s).sqT h,fun _ _ _ h=>s _ _ h,fun _ _ h=>s _ _ h⟩
theorem Rl.same (l:Rl K ρ H st) (s:Same H H'):Rl K ρ H' st:=⟨l.len,l.nd,fun i a o h1 h2=>(l.obj i a o h1 h2).keep (Mn.same s) fun u e=>s _ _ e⟩
theorem Rl.at (l:Rl K ρ H st) (h1:ρ[i]?=some a) (h2:st[i]?=some o) (hm:o.mut=true):∃ u,H a=some u∧∀ x y,u≠.frz x y:=by
 have r:=l.obj i a o h1 h2
 cases o with
 | lst ds=>obtain ⟨vs,e,_⟩:=r;exact ⟨_,e,fun x y z=>nomatch z⟩
 | fzn ds=>cases hm
 | dct kvs=>obtain ⟨ws,e,_⟩:=r;exact ⟨_,e,fun x y z=>nomatch z⟩
 | dcu kvs=>obtain ⟨ws,e,_⟩:=r;exact ⟨_,e,fun x y z=>by cases z⟩
 | exc c fs=>obtain ⟨C,dx,tr,_,e,_⟩:=r;exact ⟨_,e,fun x y z=>by cases z⟩
 | any=>cases hm
 | rng lo hi=>exact ⟨_,r,fun x y z=>nomatch z⟩
theorem Mn.new (hp:H p=none):Mn K ρ H (ρ ++ [p]) (upd H p ho):=⟨fun i a h=>by
  obtain ⟨hi,_⟩:=List.getElem?_eq_some_iff.mp h
  rw [List.getElem?_append_left hi];exact h,fun _ _ h=>(Kp.of_same (ch:=[]) (Same.up hp)).sqT h,fun _ _ _ h=>Same.up hp _ _ h,fun _ _ h=>Same.up hp _ _ h⟩
theorem Rl.new (l:Rl K ρ H st) (hp:H p=none) (mk:RpO K (ρ ++ [p]) (upd H p ho) p o):Rl K (ρ ++ [p]) (upd H p ho) (st ++ [o]):=by
 have m:Mn K ρ H (ρ ++ [p]) (upd H p ho):=Mn.new hp
 have split:∀ (i:Nat) (a:Addr) (o':O),(ρ ++ [p])[i]?=some a→(st ++ [o])[i]?=some o'→(ρ[i]?=some a∧st[i]?=some o')∨(i=ρ.length∧a=p∧o'=o):=fun i a o' h1 h2=>by
  by_cases hi:i < ρ.length
  ·rw [List.getElem?_append_left hi] at h1
   rw [List.getElem?_append_left (by rw [← l.len];exact hi)] at h2
   exact .inl ⟨h1,h2⟩
  ·obtain ⟨hb,_⟩:=List.getElem?_eq_some_iff.mp h1
   rw [List.length_append,List.length_singleton] at hb
   have e:i=ρ.length:=by omega
   subst e
   rw [List.getElem?_append_right (Nat.le_refl _),Nat.sub_self] at h1
   rw [l.len,List.getElem?_append_right (Nat.le_refl _),Nat.sub_self] at h2
   exact .inr ⟨rfl,(Option.some.inj h1).symm,(Option.some.inj h2).symm⟩
 refine ⟨by rw [List.length_append,List.length_append,l.len];rfl,fun i j a u u' h1 h2 h3 h4 m1 m2=>?_,fun i a u h1 h2=>?_⟩
 ·rcases split i a u h1 h3 with ⟨g1,g2⟩ | ⟨rfl,rfl,rfl⟩ <;> rcases split j _ u' h2 h4 with ⟨k1,k2⟩ | ⟨k1,k2,k3⟩
  ·exact l.nd i j a u u' g1 k1 g2 k2 m1 m2
  ·subst k2
   obtain ⟨w,e,_⟩:=l.at g1 g2 m1
   rw [e] at hp;cases hp
  ·obtain ⟨w,e,_⟩:=l.at k1 k2 m2
   rw [e] at hp;cases hp
  ·exact k1.symm
 ·rcases split i a u h1 h2 with ⟨g1,g2⟩ | ⟨rfl,rfl,rfl⟩
  ·exact (l.obj i a u g1 g2).keep m fun w e=>Same.up hp _ _ e
  ·exact mk
theorem Rl.put (l:Rl K ρ H st) (hi:ρ[i]?=some a) (hs:st[i]?=some o) (hm:o.mut=true) (hm':o'.mut=true) (m:Mn K ρ H ρ (upd H a ho)) (r:RpO K ρ (upd H a ho) a o'):Rl K ρ (upd H a ho) (st.set i o'):=by
 obtain ⟨w,ew,nf⟩:=l.at hi hs hm
 have ils:i < st.length:=(List.getElem?_eq_some_iff.mp hs).1
 have old:∀ (j:Nat) (u:O),(st.set i o')[j]?=some u→(j=i∧u=o')∨(j≠i∧st[j]?=some u):=fun j u h=>by
  by_cases hj:i=j
  ·subst hj
   rw [List.getElem?_set_self ils] at h
   exact .inl ⟨rfl,(Option.some.inj h).symm⟩
  ·rw [List.getElem?_set_ne hj] at h
   exact .inr ⟨fun z=>hj z.symm,h⟩
 refine ⟨by rw [List.length_set];exact l.len,fun j k b u u' h1 h2 h3 h4 m1 m2=>?_,fun j b u h1 h2=>?_⟩
 ·rcases old j u h3 with ⟨rfl,rfl⟩ | ⟨nj,g3⟩ <;> rcases old k u' h4 with ⟨rfl,rfl⟩ | ⟨nk,g4⟩
  ·rfl
  ·exact l.nd _ _ b o u' h1 h2 hs g4 hm m2
  ·exact l.nd _ _ b u o h1 h2 g3 hs m1 hm
  ·exact l.nd _ _ b u u' h1 h2 g3 g4 m1 m2
 ·rcases old j u h2 with ⟨rfl,rfl⟩ | ⟨nj,g2⟩
  ·rw [hi] at h1;cases h1;exact r
  ·by_cases hb:b=a
   ·subst hb
    cases u with
    | fzn ds =>
     obtain ⟨vs,e,q⟩:=l.obj j b _ h1 g2
     refine ⟨vs,?_,q.mn m⟩
     rcases e with ⟨x,e⟩ | e
     ·rw [ew] at e;cases e;exact absurd rfl (nf _ _)
     ·exact .inr e
    | lst ds=>exact absurd (l.nd j i b _ o h1 hi g2 hs rfl hm) nj
    | dcu ds=>exact absurd (l.nd j i b _ o h1 hi g2 hs rfl hm) nj
    | exc c fs=>exact absurd (l.nd j i b _ o h1 hi g2 hs rfl hm) nj
    | dct ds=>exact absurd (l.nd j i b _ o h1 hi g2 hs rfl hm) nj
    | any=>trivial
    | rng lo up=>exact absurd (l.nd j i b _ o h1 hi g2 hs rfl hm) nj
   ·exact (l.obj j b u h1 g2).keep m fun w e=>by rw [xae hb];exact e
theorem Mn.put {xs:List V} (e:H a=some (.lst xs)):Mn K ρ H ρ (upd H a ho):=⟨fun _ _ h=>h,fun b vs h=>(Kp.put (ch:=[a]) (o:=ho) Kp.refl (by simp) e).sqT h,fun b o u h=>by rw [xae (fun z=>by rw [z,e] at h;cases h)];exact h,fun b ws h=>by rw [xae (fun z=>by rw [z,e] at h;cases h)];exact h⟩
theorem Rl.newL {vs:List V} {ds:List D} (l:Rl K ρ H st) (hp:H p=none) (r:Rps K ρ H vs ds):Rl K (ρ ++ [p]) (upd H p (.lst vs)) (st ++ [.lst ds]):=l.new hp ⟨vs,xah,r.mn (Mn.new hp)⟩
theorem newR (l:Rl K ρ H st) (v:D:=.ref st.length):(ρ ++ [p])[st.length]?=some p:=by rw [← l.len,List.getElem?_append_right (Nat.le_refl _),Nat.sub_self];rfl
theorem Rl.putL {vs:List V} {ds xs:List D} (l:Rl K ρ H st) (hi:ρ[i]?=some a) (hs:st[i]?=some (.lst xs)) (r:Rps K ρ H vs ds):Rl K ρ (upd H a (.lst vs)) (st.set i (.lst ds))∧Mn K ρ H ρ (upd H a (.lst vs)):=by
 obtain ⟨ws,e,_⟩:=l.obj i a _ hi hs
 have m:Mn K ρ H ρ (upd H a (.lst vs)):=Mn.put e
 exact ⟨l.put hi hs rfl rfl m ⟨vs,xah,r.mn m⟩,m⟩
noncomputable def items (st:Store) (i:Nat):Option (List D):=match st[i]? with
 | some (.lst ds)=>some ds
 | some (.fzn ds)=>some ds
 | _=>none
theorem Rl.items {ds:List D} (l:Rl K ρ H st) (hi:ρ[i]?=some a) (h:items st i=some ds):∃ vs,SqL K H a vs∧Rps K ρ H vs ds:=by
 unfold L4.items at h
 split at h
 ·next ds' hs=>cases h;obtain ⟨vs,e,r⟩:=l.obj i a _ hi hs;exact ⟨vs,.inl (.inl e),r⟩
 ·next ds' hs=>cases h;obtain ⟨vs,e,r⟩:=l.obj i a _ hi hs;exact ⟨vs,e.sq,r⟩
 ·cases h
end
noncomputable def So (K:PySem.W.Frag) {α β:Type} (R:List Addr→Hp→α→β→Prop) (t:St→Hp→(α→Hp→Prop)→Prop) (f:DSt→Dm β):Prop :=
 ∀ (ρ:List Addr) (σ:St) (H:Hp) (δ:DSt) (st:Store) (b:β) (st':Store) (Q:α→Hp→Prop),Rl K ρ H st→Rs K ρ H σ δ→f δ st=some (b,st') →
  (∀ a H' ρ',Mn K ρ H ρ' H'→Rl K ρ' H' st'→R ρ' H' a b→Q a H')→t σ H Q
abbrev SoE (K:PySem.W.Frag) (t:TE) (f:DSt→Dm D):Prop:=So K (Rp K) t f
abbrev SoT (K:PySem.W.Frag) (t:TT) (f:DSt→Dm Bool):Prop:=So K (fun _ _=>Eq) t f
abbrev SoA (K:PySem.W.Frag) (t:TA) (f:DSt→Dm (List D)):Prop:=So K (Rps K) t f
noncomputable def So1 (K:PySem.W.Frag) (r:V→Hp→VK→Prop) (g:D→Dm D):Prop :=
 ∀ (ρ:List Addr) (H:Hp) (st:Store) (x:V) (a:D) (b:D) (st':Store) (Q:VK),Rl K ρ H st→Rp K ρ H x a→g a st=some (b,st')→(∀ v H' ρ',Mn K ρ H ρ' H'→Rl K ρ' H' st'→Rp K ρ' H' v b→Q v H')→r x H Q
noncomputable def So2 (K:PySem.W.Frag) (r:R2) (g:D→D→Dm D):Prop :=
 ∀ (ρ:List Addr) (H:Hp) (st:Store) (x y:V) (a c:D) (b:D) (st':Store) (Q:VK),Rl K ρ H st→Rp K ρ H x a→Rp K ρ H y c→g a c st=some (b,st')→(∀ v H' ρ',Mn K ρ H ρ' H'→Rl K ρ' H' st'→Rp K ρ' H' v b→Q v H')→r x y H Q
noncomputable def SoC (K:PySem.W.Frag) (r:List V→Hp→VK→Prop) (g:List D→Dm D):Prop :=
 ∀ (ρ:List Addr) (H:Hp) (st:Store) (xs:List V) (as:List D) (b:D) (st':Store) (Q:VK),Rl K ρ H st→Rps K ρ H xs as→g as st=some (b,st')→(∀ v H' ρ',Mn K ρ H ρ' H'→Rl K ρ' H' st'→Rp K ρ' H' v b→Q v H')→r xs H Q
noncomputable def SoM (K:PySem.W.Frag) (T:String) (r:V→List V→Hp→VK→Prop) (g:D→List D→Dm D):Prop :=
 ∀ (ρ:List Addr) (H:Hp) (st:Store) (x:V) (xs:List V) (a:D) (as:List D) (b:D) (st':Store) (Q:VK),Rl K ρ H st→Rp K ρ H x a→Rps K ρ H xs as→g a as st=some (b,st')→(∀ v H' ρ',Mn K ρ H ρ' H'→Rl K ρ' H' st'→Rp K ρ' H' v b→Q v H')→r x xs H Q
noncomputable def bnd {α β:Type} (m:Option (α×Store)) (k:α→Dm β):Option (β×Store):=match m with
 | some (a,st)=>k a st
 | none=>none
theorem Zab {α β:Type} {m:Option (α×Store)} {k:α→Dm β} {r:β×Store} (h:bnd m k=some r):∃ a st,m=some (a,st)∧k a st=some r:=by
 cases m with
 | none=>cases h
 | some p=>exact ⟨p.1,p.2,rfl,h⟩
section
variable {K:PySem.W.Frag}
noncomputable def fVar (i:Nat):DSt→Dm D:=fun δ st=>match δ[i]? with
 | some (some d)=>some (d,st)
 | _=>none
theorem yaa (i:Nat):SoE K (tVar i) (fVar i):=by
 intro ρ σ H δ st b st' Q l rs e q
 unfold fVar at e
 split at e
 ·next d hd=>cases e;obtain ⟨v,ev,r⟩:=rs.2 i _ hd;exact ⟨v,ev,q v H ρ .refl l r⟩
 ·cases e
noncomputable def fC (d:D):DSt→Dm D:=fun _ st=>some (d,st)
theorem so_c {v:V} {d:D} (h:∀ ρ H,Rp K ρ H v d):SoE K (tC v) (fC d):=by
 intro ρ σ H δ st b st' Q l rs e q
 cases e
 exact q v H ρ .refl l (h ρ H)
theorem Xaa (i:Int):SoE K (tC (.int i)) (fC (.int i)):=so_c fun _ _=>.int i
theorem ZaG (b:Bool):SoE K (tC (.bl b)) (fC (.bl b)):=so_c fun _ _=>.bl b
theorem Zaq (x:Str):SoE K (tC (.str x)) (fC (.str x)):=so_c fun _ _=>.str x
theorem so_non:SoE K (tC .non) (fC .non):=so_c fun _ _=>.non
theorem Xbl (n:String):SoE K (tC (.ty n)) (fC (.ty n)):=so_c fun _ _=>.ty n
noncomputable def fOp (g:D→D→Dm D) (fa fb:DSt→Dm D):DSt→Dm D:=fun δ st=>bnd (fa δ st) fun a st1=>bnd (fb δ st1) fun b st2=>g a b st2
theorem zab {r:R2} {g:D→D→Dm D} {ta tb:TE} {fa fb:DSt→Dm D} (hr:So2 K r g) (ha:SoE K ta fa) (hb:SoE K tb fb):SoE K (tOp r ta tb) (fOp g fa fb):=by
 intro ρ σ H δ st b st' Q l rs e q
 obtain ⟨a,st1,e1,e⟩:=Zab e
 obtain ⟨c,st2,e2,e⟩:=Zab e
 refine ha ρ σ H δ st a st1 _ l rs e1 fun x H1 ρ1 m1 l1 r1=>hb ρ1 σ H1 δ st1 c st2 _ l1 (rs.mn m1) e2 fun y H2 ρ2 m2 l2 r2=>?_
 exact hr ρ2 H2 st2 x y a c b st' Q l2 (r1.mn m2) r2 e fun v H3 ρ3 m3 l3 r3=>q v H3 ρ3 ((m1.trans m2).trans m3) l3 r3
noncomputable def fUn (g:D→Dm D) (fa:DSt→Dm D):DSt→Dm D:=fun δ st=>bnd (fa δ st) fun a st1=>g a st1
theorem yaT {r:V→Hp→VK→Prop} {g:D→Dm D} {ta:TE} {fa:DSt→Dm D} (hr:So1 K r g) (ha:SoE K ta fa):SoE K (tUn r ta) (fUn g fa):=by
 intro ρ σ H δ st b st' Q l rs e q
 obtain ⟨a,st1,e1,e⟩:=Zab e
 exact ha ρ σ H δ st a st1 _ l rs e1 fun x H1 ρ1 m1 l1 r1=>hr ρ1 H1 st1 x a b st' Q l1 r1 e fun v H3 ρ3 m3 l3 r3=>q v H3 ρ3 (m1.trans m3) l3 r3
theorem so_un' {r:V→Hp→VK→Prop} {g:D→Dm D} {ta:TE} {fa:DSt→Dm D} (hr:So1 K r g) (ha:SoE K ta fa):SoE K (fun σ H Q=>ta σ H fun x H1=>r x H1 Q) (fUn g fa):=yaT hr ha
noncomputable def fNil:DSt→Dm (List D):=fun _ st=>some ([],st)
noncomputable def fCons (fa:DSt→Dm D) (fr:DSt→Dm (List D)):DSt→Dm (List D):=fun δ st=>bnd (fa δ st) fun a st1=>bnd (fr δ st1) fun r st2=>some (a :: r,st2)
theorem yac:SoA K tNil fNil:=by
 intro ρ σ H δ st b st' Q l rs e q
 cases e
 exact q [] H ρ .refl l .nil
theorem Zaa {ta:TE} {tr:TA} {fa:DSt→Dm D} {fr:DSt→Dm (List D)} (ha:SoE K ta fa) (hr:SoA K tr fr):SoA K (tCons ta tr) (fCons fa fr):=by
 intro ρ σ H δ st b st' Q l rs e q
 obtain ⟨a,st1,e1,e⟩:=Zab e
 obtain ⟨c,st2,e2,e⟩:=Zab e
 cases e
 exact ha ρ σ H δ st a st1 _ l rs e1 fun x H1 ρ1 m1 l1 r1=>hr ρ1 σ H1 δ st1 c _ _ l1 (rs.mn m1) e2 fun y H2 ρ2 m2 l2 r2=>q _ H2 ρ2 (m1.trans m2) l2 (.cons (r1.mn m2) r2)
noncomputable def lim (n:Nat):Bool:=Nat.ble n 100000
theorem zaE {n:Nat} (h:lim n=true):n≤sizeLine:=Nat.le_trans (Nat.le_of_ble_eq_true h) (by decide)
theorem Xbg {n:Nat} (h:lim n=true):n < sizeLine:=Nat.lt_of_le_of_lt (Nat.le_of_ble_eq_true h) (by decide)
noncomputable def fTup (fa:DSt→Dm (List D)):DSt→Dm D:=fun δ st=>bnd (fa δ st) fun as st1=>if lim as.length=true then some (.tup as,st1) else none
theorem xaj {ta:TA} {fa:DSt→Dm (List D)} (ha:SoA K ta fa):SoE K (tTup ta) (fTup fa):=by
 intro ρ σ H δ st b st' Q l rs e q
 obtain ⟨as,st1,e1,e⟩:=Zab e
 split at e
 ·next hl =>
  cases e
  refine ha ρ σ H δ st as _ _ l rs e1 fun xs H1 ρ1 m1 l1 r1=>⟨by rw [r1.length];exact zaE hl,fun p hp=>?_⟩
  have m2:Mn K ρ1 H1 ρ1 (upd H1 p (.tup xs)):=Mn.same (Same.up hp)
  exact q _ _ ρ1 (m1.trans m2) (l1.same (Same.up hp)) (.tup (SqT.of xah) (r1.mn m2))
 ·cases e
noncomputable def fLst (fa:DSt→Dm (List D)):DSt→Dm D:=fun δ st=>bnd (fa δ st) fun as st1=>if lim as.length=true then some (.ref st1.length,st1 ++ [.lst as]) else none
theorem yaE {ta:TA} {fa:DSt→Dm (List D)} (ha:SoA K ta fa):SoE K (tLst ta) (fLst fa):=by
 intro ρ σ H δ st b st' Q l rs e q
 obtain ⟨as,st1,e1,e⟩:=Zab e
 split at e
 ·next hl =>
  cases e
  refine ha ρ σ H δ st as _ _ l rs e1 fun xs H1 ρ1 m1 l1 r1=>⟨by rw [r1.length];exact zaE hl,fun p hp=>?_⟩
  exact q _ _ _ (m1.trans (Mn.new hp)) (l1.newL hp r1) (.ref (newR l1))
 ·cases e
noncomputable def fTest (fa:DSt→Dm D):DSt→Dm Bool:=fun δ st=>bnd (fa δ st) fun a st1=>match a with
 | .bl b=>some (b,st1)
 | _=>none
theorem Zae {ta:TE} {fa:DSt→Dm D} (ha:SoE K ta fa):SoT K (tTest ta) (fTest fa):=by
 intro ρ σ H δ st b st' Q l rs e q
 obtain ⟨a,st1,e1,e⟩:=Zab e
 cases a <;> simp at e
 obtain ⟨rfl,rfl⟩:=e
 refine ha ρ σ H δ st _ _ _ l rs e1 fun x H1 ρ1 m1 l1 r1=>?_
 cases r1
 exact ⟨_,rfl,q _ H1 ρ1 m1 l1 rfl⟩
theorem ZaN {ta:TE} {fa:DSt→Dm D} (ha:SoE K ta fa):SoT K (tB ta) (fTest fa):=Zae ha
noncomputable def fNot (fa:DSt→Dm Bool):DSt→Dm Bool:=fun δ st=>bnd (fa δ st) fun a st1=>some (!a,st1)
theorem XaQ {ta:TT} {fa:DSt→Dm Bool} (ha:SoT K ta fa):SoT K (tNot ta) (fNot fa):=by
 intro ρ σ H δ st b st' Q l rs e q
 obtain ⟨a,st1,e1,e⟩:=Zab e
 cases e
 exact ha ρ σ H δ st _ _ _ l rs e1 fun x H1 ρ1 m1 l1 r1=>q _ H1 ρ1 m1 l1 (by rw [r1])
noncomputable def fAnd (fa fb:DSt→Dm Bool):DSt→Dm Bool:=fun δ st=>bnd (fa δ st) fun a st1=>if a=true then fb δ st1 else some (false,st1)
noncomputable def fOr (fa fb:DSt→Dm Bool):DSt→Dm Bool:=fun δ st=>bnd (fa δ st) fun a st1=>if a=true then some (true,st1) else fb δ st1
theorem zbh {ta tb:TT} {fa fb:DSt→Dm Bool} (ha:SoT K ta fa) (hb:SoT K tb fb):SoT K (tAnd ta tb) (fAnd fa fb):=by
 intro ρ σ H δ st b st' Q l rs e q
 obtain ⟨a,st1,e1,e⟩:=Zab e
 refine ha ρ σ H δ st _ _ _ l rs e1 fun x H1 ρ1 m1 l1 r1=>?_
 subst r1
 cases x with
 | true =>
  refine iteT ?_
  rw [if_pos rfl] at e
  exact hb ρ1 σ H1 δ st1 b st' _ l1 (rs.mn m1) e fun y H2 ρ2 m2 l2 r2=>q y H2 ρ2 (m1.trans m2) l2 r2
 | false =>
  refine iteF ?_
  rw [if_neg Bool.false_ne_true] at e
  cases e
  exact q _ H1 ρ1 m1 l1 rfl
theorem Zay {ta tb:TT} {fa fb:DSt→Dm Bool} (ha:SoT K ta fa) (hb:SoT K tb fb):SoT K (tOr ta tb) (fOr fa fb):=by
 intro ρ σ H δ st b st' Q l rs e q
 obtain ⟨a,st1,e1,e⟩:=Zab e
 refine ha ρ σ H δ st _ _ _ l rs e1 fun x H1 ρ1 m1 l1 r1=>?_
 subst r1
 cases x with
 | false =>
  refine iteF ?_
  rw [if_neg Bool.false_ne_true] at e
  exact hb ρ1 σ H1 δ st1 b st' _ l1 (rs.mn m1) e fun y H2 ρ2 m2 l2 r2=>q y H2 ρ2 (m1.trans m2) l2 r2
 | true =>
  refine iteT ?_
  rw [if_pos rfl] at e
  cases e
  exact q _ H1 ρ1 m1 l1 rfl
noncomputable def fAndV (fa fb:DSt→Dm D):DSt→Dm D:=fun δ st=>bnd (fTest fa δ st) fun a st1=>if a=true then fb δ st1 else some (.bl false,st1)
noncomputable def fOrV (fa fb:DSt→Dm D):DSt→Dm D:=fun δ st=>bnd (fTest fa δ st) fun a st1=>if a=true then some (.bl true,st1) else fb δ st1
noncomputable def fNotV (fa:DSt→Dm D):DSt→Dm D:=fun δ st=>bnd (fTest fa δ st) fun a st1=>some (.bl (!a),st1)
theorem ZaT {fa:DSt→Dm D} {δ:DSt} {st st1:Store} {b:Bool} (h:fTest fa δ st=some (b,st1)):fa δ st=some (.bl b,st1):=by
 obtain ⟨a,st2,e1,e⟩:=Zab h
 cases a <;> simp at e
 obtain ⟨rfl,rfl⟩:=e
 exact e1
theorem za1 {ta tb:TE} {fa fb:DSt→Dm D} (ha:SoE K ta fa) (hb:SoE K tb fb):SoE K (tAndV ta tb) (fAndV fa fb):=by
 intro ρ σ H δ st b st' Q l rs e q
 obtain ⟨a,st1,e1,e⟩:=Zab e
 refine ha ρ σ H δ st _ _ _ l rs (ZaT e1) fun x H1 ρ1 m1 l1 r1=>?_
 cases r1
 refine ⟨a,rfl,?_⟩
 cases a with
 | true =>
  refine iteT ?_
  rw [if_pos rfl] at e
  exact hb ρ1 σ H1 δ st1 b st' _ l1 (rs.mn m1) e fun y H2 ρ2 m2 l2 r2=>q y H2 ρ2 (m1.trans m2) l2 r2
 | false =>
  refine iteF ?_
  rw [if_neg Bool.false_ne_true] at e
  cases e
  exact q _ H1 ρ1 m1 l1 (.bl _)
noncomputable def fIf {β:Type} (c:DSt→Dm Bool) (fa fb:DSt→Dm β):DSt→Dm β:=fun δ st=>bnd (c δ st) fun a st1=>if a=true then fa δ st1 else fb δ st1
theorem so_if {tc:TT} {ta tb:TE} {c:DSt→Dm Bool} {fa fb:DSt→Dm D} (hc:SoT K tc c) (ha:SoE K ta fa) (hb:SoE K tb fb):SoE K (tIf tc ta tb) (fIf c fa fb):=by
 intro ρ σ H δ st b st' Q l rs e q
 obtain ⟨a,st1,e1,e⟩:=Zab e
 refine hc ρ σ H δ st _ _ _ l rs e1 fun x H1 ρ1 m1 l1 r1=>?_
 subst r1
 cases x with
 | true =>
  refine iteT ?_
  rw [if_pos rfl] at e
  exact ha ρ1 σ H1 δ st1 b st' _ l1 (rs.mn m1) e fun y H2 ρ2 m2 l2 r2=>q y H2 ρ2 (m1.trans m2) l2 r2
 | false =>
  refine iteF ?_
  rw [if_neg Bool.false_ne_true] at e
  exact hb ρ1 σ H1 δ st1 b st' _ l1 (rs.mn m1) e fun y H2 ρ2 m2 l2 r2=>q y H2 ρ2 (m1.trans m2) l2 r2
noncomputable def fNoPart:DSt→Dm (Option Int):=fun _ st=>some (none,st)
noncomputable def fPart (fa:DSt→Dm D):DSt→Dm (Option Int):=fun δ st=>bnd (fa δ st) fun a st1=>match a with
 | .int i=>some (some i,st1)
 | _=>none
noncomputable def fSl (g:D→Option Int→Option Int→Dm D) (fa:DSt→Dm D) (fl fh:DSt→Dm (Option Int)):DSt→Dm D:=fun δ st=>bnd (fa δ st) fun a st1=>bnd (fl δ st1) fun lo st2=>bnd (fh δ st2) fun hi st3=>g a lo hi st3
noncomputable def fCB (g:List D→Dm D) (fa:DSt→Dm (List D)):DSt→Dm D:=fun δ st=>bnd (fa δ st) fun as st1=>g as st1
theorem xar {r:List V→Hp→VK→Prop} {g:List D→Dm D} {ta:TA} {fa:DSt→Dm (List D)} (hr:SoC K r g) (ha:SoA K ta fa):SoE K (tCB r ta) (fCB g fa):=by
 intro ρ σ H δ st b st' Q l rs e q
 obtain ⟨as,st1,e1,e⟩:=Zab e
 exact ha ρ σ H δ st as st1 _ l rs e1 fun x H1 ρ1 m1 l1 r1=>hr ρ1 H1 st1 x as b st' Q l1 r1 e fun v H3 ρ3 m3 l3 r3=>q v H3 ρ3 (m1.trans m3) l3 r3
noncomputable def spF (K:PySem.W.Frag) (n:Nat) (F:List D→Dm D):Sp:=fun vs H Q _=>vs.length=n∧∃ (ρ:List Addr) (st:Store) (ds:List D) (b:D) (st':Store),Rl K ρ H st∧Rps K ρ H vs ds∧F ds st=some (b,st') ∧
 ∀ v H' ρ',Mn K ρ H ρ' H'→Rl K ρ' H' st'→Rp K ρ' H' v b→Q v H'
theorem zag {n:Nat} {F:List D→Dm D} {ta:TA} {fa:DSt→Dm (List D)} {E:XK} (ha:SoA K ta fa) (hn:∀ δ st as st',fa δ st=some (as,st')→as.length=n):SoE K (tCall (spF K n F) [] E ta) (fCB F fa):=by
 intro ρ σ H δ st b st' Q l rs e q
 obtain ⟨as,st1,e1,e⟩:=Zab e
 refine ha ρ σ H δ st as st1 _ l rs e1 fun vs H1 ρ1 m1 l1 r1=>⟨?_,ρ1,st1,as,b,st',l1,?_,e,fun v H3 ρ3 m3 l3 r3=>q v H3 ρ3 (m1.trans m3) l3 r3⟩
 ·rw [List.append_nil,r1.length];exact hn _ _ _ _ e1
 ·rw [List.append_nil];exact r1
theorem xaf {δ:DSt} {st st':Store} {as:List D} (h:fNil δ st=some (as,st')):as.length=0:=by cases h;rfl
theorem Zac {fa:DSt→Dm D} {fr:DSt→Dm (List D)} {n:Nat} (hr:∀ δ st as st',fr δ st=some (as,st')→as.length=n):∀ δ st as st',fCons fa fr δ st=some (as,st')→as.length=n + 1:=fun δ st as st' h=>by
 obtain ⟨a,st1,e1,e⟩:=Zab h
 obtain ⟨c,st2,e2,e⟩:=Zab e
 cases e
 rw [List.length_cons,hr _ _ _ _ e2]
end
end L4
namespace L4
open PySem PySem.Spec L2
section
variable {K:PySem.W.Frag}
noncomputable def gI0 (h:Int→Int→D):D→D→Dm D
 | .int i,.int j,st=>some (h i j,st)
 | _,_,_=>none
theorem YaT {gv:Int→Int→V} {h:Int→Int→D} (hh:∀ i j ρ H,Rp K ρ H (gv i j) (h i j)):So2 K (rI0 gv) (gI0 h):=by
 intro ρ H st x y a c b st' Q l rx ry e q
 unfold gI0 at e
 split at e
 ·cases e;cases rx;cases ry;exact ⟨_,_,rfl,rfl,q _ H ρ .refl l (hh _ _ ρ H)⟩
 ·cases e
noncomputable def gIC (c:Int→Int→Bool) (h:Int→Int→D):D→D→Dm D
 | .int i,.int j,st=>if c i j=true then some (h i j,st) else none
 | _,_,_=>none
theorem xaT {C:Int→Int→Prop} {c:Int→Int→Bool} {gv:Int→Int→V} {h:Int→Int→D} (hc:∀ i j,c i j=true→C i j) (hh:∀ i j ρ H,Rp K ρ H (gv i j) (h i j)):So2 K (rI C gv) (gIC c h):=by
 intro ρ H st x y a d b st' Q l rx ry e q
 unfold gIC at e
 split at e
 ·split at e
  ·next hcc=>cases e;cases rx;cases ry;exact ⟨_,_,rfl,rfl,hc _ _ hcc,q _ H ρ .refl l (hh _ _ ρ H)⟩
  ·cases e
 ·cases e
noncomputable def gAdd:D→D→Dm D:=gI0 fun i j=>.int (i + j)
noncomputable def gSub:D→D→Dm D:=gI0 fun i j=>.int (i - j)
noncomputable def gMul:D→D→Dm D:=gIC (fun i j=>decide (-18446744073709551616 < i∧i < 18446744073709551616) || decide (-18446744073709551616 < j∧j < 18446744073709551616)) fun i j=>.int (i * j)
noncomputable def gFdiv:D→D→Dm D:=gIC (fun i j=>decide (0 < j∧j < 1073741824)) fun i j=>.int (i / j)
noncomputable def gMod:D→D→Dm D:=gIC (fun i j=>decide (0 < j)) fun i j=>.int (i % j)
noncomputable def gPow:D→D→Dm D:=gIC (fun i j=>decide (0≤j∧j≤1000000∧i.natAbs < 18446744073709551616)) fun i j=>.int (i ^ j.toNat)
noncomputable def gLt:D→D→Dm D:=gI0 fun i j=>.bl (decide (i < j))
noncomputable def gLe:D→D→Dm D:=gI0 fun i j=>.bl (decide (i≤j))
noncomputable def gGt:D→D→Dm D:=gI0 fun i j=>.bl (decide (j < i))
noncomputable def gGe:D→D→Dm D:=gI0 fun i j=>.bl (decide (j≤i))
theorem zaj:So2 K (rI0 fun i j=>.int (i + j)) gAdd:=YaT fun _ _ _ _=>.int _
theorem Zaz:So2 K (rI0 fun i j=>.int (i - j)) gSub:=YaT fun _ _ _ _=>.int _
theorem Xaj:So2 K (rI CMul fun i j=>.int (i * j)) gMul:=xaT (fun i j h=>by
 rw [Bool.or_eq_true,decide_eq_true_eq,decide_eq_true_eq] at h
 exact h) fun _ _ _ _=>.int _
theorem YaG:So2 K (rI CDiv fun i j=>.int (i / j)) gFdiv:=xaT (fun i j h=>of_decide_eq_true (p:=0 < j∧j < 1073741824) h) fun _ _ _ _=>.int _
theorem Zax:So2 K (rI (fun _ j=>0 < j) fun i j=>.int (i % j)) gMod:=xaT (fun i j h=>of_decide_eq_true h) fun _ _ _ _=>.int _
theorem ybh:So2 K (rI CPow fun i j=>.int (i ^ j.toNat)) gPow:=xaT (fun i j h=>by have h:=of_decide_eq_true (p:=0≤j∧j≤1000000∧i.natAbs < 18446744073709551616) h;exact ⟨h.1,h.2.1,by omega⟩) fun _ _ _ _=>.int _
theorem xaG:So2 K (rI0 fun i j=>.bl (decide (i < j))) gLt:=YaT fun _ _ _ _=>.bl _
theorem so_le:So2 K (rI0 fun i j=>.bl (decide (i≤j))) gLe:=YaT fun _ _ _ _=>.bl _
theorem Xa9:So2 K (rI0 fun i j=>.bl (decide (j < i))) gGt:=YaT fun _ _ _ _=>.bl _
theorem so_ge:So2 K (rI0 fun i j=>.bl (decide (j≤i))) gGe:=YaT fun _ _ _ _=>.bl _
noncomputable def gNeg:D→Dm D
 | .int i,st=>some (.int (-i),st)
 | _,_=>none
theorem YaK:So1 K (rU fun i=>.int (-i)) gNeg:=by
 intro ρ H st x a b st' Q l rx e q
 unfold gNeg at e
 split at e
 ·cases e;cases rx;exact ⟨_,rfl,q _ H ρ .refl l (.int _)⟩
 ·cases e
noncomputable def sV:D→Option V
 | .non=>some .non
 | .bl b=>some (.bl b)
 | .int i=>some (.int i)
 | .str x=>some (.str x)
 | _=>none
theorem zba {ρ:List Addr} {H:Hp} {x v:V} {a:D} (r:Rp K ρ H x a) (h:sV a=some v):x=v:=by
 cases r <;> first | (cases h;rfl) | cases h
noncomputable def gEq (neg:Bool):D→D→Dm D:=fun a b st=>match sV a,sV b with
 | some x,some y=>if scal x y=true then some (.bl (if neg then !decide (x=y) else decide (x=y)),st) else none
 | _,_=>none
theorem YaN:So2 K rEq (gEq false):=by
 intro ρ H st x y a c b st' Q l rx ry e q
 unfold gEq at e
 split at e
 ·next u v h1 h2 =>
  split at e
  ·next hs=>cases e;cases zba rx h1;cases zba ry h2;exact ⟨hs,q _ H ρ .refl l (.bl _)⟩
  ·cases e
 ·cases e
theorem yaC:So2 K rNe (gEq true):=by
 intro ρ H st x y a c b st' Q l rx ry e q
 unfold gEq at e
 split at e
 ·next u v h1 h2 =>
  split at e
  ·next hs=>cases e;cases zba rx h1;cases zba ry h2;exact ⟨hs,q _ H ρ .refl l (.bl _)⟩
  ·cases e
 ·cases e
noncomputable def mapO {α β:Type} (f:α→Option β):List α→Option (List β)
 | []=>some []
 | a :: r=>match f a,mapO f r with
  | some b,some s=>some (b :: s)
  | _,_=>none
theorem Yax {α β:Type} {f:α→Option β} {a:α} {r:List α} {s:List β} (h:mapO f (a :: r)=some s):∃ b t,f a=some b∧mapO f r=some t∧s=b :: t:=by
 unfold mapO at h
 split at h
 ·next b t h1 h2=>cases h;exact ⟨b,t,h1,h2,rfl⟩
 ·cases h
theorem xaz {α β γ:Type} {f:α→Option β} {g:γ→α} {k:γ→β} (h:∀ c,f (g c)=some (k c)):∀ l:List γ,mapO f (l.map g)=some (l.map k)
 | []=>rfl
 | c :: r=>by
  show mapO f (g c :: r.map g)=_
  unfold mapO
  rw [h c,xaz h r]
  rfl
noncomputable def toP (st:Store):Nat→D→Option PyData
 | 0,_=>none
 | _ + 1,.non=>some .none
 | _ + 1,.bl b=>some (.bool b)
 | _ + 1,.int i=>some (.int i)
 | _ + 1,.str x=>some (.str x)
 | _ + 1,.ty _=>none
 | n + 1,.tup ds=>(mapO (toP st n) ds).map PyData.tuple
 | n + 1,.ref i=>match items st i with
  | some ds=>(mapO (toP st n) ds).map PyData.list
  | none=>none
theorem ya1 {ρ:List Addr} {H:Hp} {st:Store} (l:Rl K ρ H st):∀ (n:Nat) {v:V} {d:D} {p:PyData},Rp K ρ H v d→toP st n d=some p→Rep K H v p
 | 0,_,_,_,_,h=>by simp [toP] at h
 | n + 1,v,d,p,r,h=>by
  have all:∀ {vs:List V} {ds:List D} {ps:List PyData},Rps K ρ H vs ds→mapO (toP st n) ds=some ps→Reps K H vs ps:=by
   intro vs ds ps rr
   induction vs generalizing ds ps with
   | nil=>intro hm;cases rr;cases hm;exact .nil
   | cons w ws ih =>
    intro hm
    cases rr with
    | cons ra rb =>
     obtain ⟨b,t,h1,h2,rfl⟩:=Yax hm
     exact .cons (ya1 l n ra h1) (ih rb h2)
  cases r with
  | non=>simp [toP] at h;subst h;exact .non
  | bl b=>simp [toP] at h;subst h;exact .bl b
  | int i=>simp [toP] at h;subst h;exact .int i
  | str x=>simp [toP] at h;subst h;exact .str x
  | ty n=>simp [toP] at h
  | ref hi =>
   simp only [toP] at h
   split at h
   ·next ds hd =>
    obtain ⟨ps,h1,rfl⟩:=Option.map_eq_some_iff.mp h
    obtain ⟨vs,e,rr⟩:=l.items hi hd
    exact .lst e (all rr h1)
   ·cases h
  | tup q rr =>
   simp only [toP] at h
   obtain ⟨ps,h1,rfl⟩:=Option.map_eq_some_iff.mp h
   exact .tup q (all rr h1)
noncomputable def gEqD (neg:Bool):D→D→Dm D:=fun a b st=>match toP st 20 a,toP st 20 b with
 | some p,some q=>if (PyData.canLay0 p && PyData.canLay0 q && decide (min p.depth q.depth≤60))=true then some (.bl (if neg then !PyData.eqv p q else PyData.eqv p q),st) else none
 | _,_=>none
theorem Zbh (neg:Bool):So2 K (rEqD K neg) (gEqD neg):=by
 intro ρ H st x y a c b st' Q l rx ry e q
 unfold gEqD at e
 split at e
 ·next u v h1 h2 =>
  split at e
  ·next hs =>
   cases e
   rw [Bool.and_eq_true,Bool.and_eq_true,decide_eq_true_eq] at hs
   exact ⟨u,v,ya1 l 20 rx h1,ya1 l 20 ry h2,hs.1.1,hs.1.2,hs.2,q _ H ρ .refl l (.bl _)⟩
  ·cases e
 ·cases e
theorem at_of {ρ:List Addr} {H:Hp} {vs:List V} {ds:List D} {i:Int} {d:D} (r:Rps K ρ H vs ds) (h:atI ds i=some d):∃ v,atI vs i=some v∧Rp K ρ H v d:=by
 unfold atI at h ⊢
 rw [r.length]
 cases hx:ixN ds.length i with
 | none=>rw [hx] at h;cases h
 | some j =>
  rw [hx] at h
  exact r.got h
noncomputable def gIxT:D→D→Dm D
 | .tup ds,.int i,st=>match atI ds i with
  | some d=>some (d,st)
  | none=>none
 | _,_,_=>none
theorem Xad:So2 K (rIxT K) gIxT:=by
 intro ρ H st x y a c b st' Q l rx ry e q
 unfold gIxT at e
 split at e
 ·split at e
  ·next d hd =>
   cases e
   cases ry
   cases rx with
   | tup s r =>
    obtain ⟨v,hv,rv⟩:=at_of r hd
    exact ⟨_,_,_,v,rfl,rfl,s,hv,q v H ρ .refl l rv⟩
  ·cases e
 ·cases e
noncomputable def gIxL:D→D→Dm D
 | .ref r,.int i,st=>match items st r with
  | some ds=>match atI ds i with
   | some d=>some (d,st)
   | none=>none
  | none=>none
 | _,_,_=>none
theorem zau:So2 K (rIxL K) gIxL:=by
 intro ρ H st x y a c b st' Q l rx ry e q
 unfold gIxL at e
 split at e
 ·split at e
  ·next ds hi =>
   split at e
   ·next d hd =>
    cases e
    cases ry
    cases rx with
    | ref hr =>
     obtain ⟨vs,s,r⟩:=l.items hr hi
     obtain ⟨v,hv,rv⟩:=at_of r hd
     exact ⟨_,_,_,v,rfl,rfl,s,hv,q v H ρ .refl l rv⟩
   ·cases e
  ·cases e
 ·cases e
noncomputable def gIxS:D→D→Dm D
 | .str z,.int i,st=>if lim z.length=true then match atI z.cps.toList i with
   | some c=>some (.str ⟨#[c]⟩,st)
   | none=>none
  else none
 | _,_,_=>none
theorem so_ixS:So2 K rIxS gIxS:=by
 intro ρ H st x y a c b st' Q l rx ry e q
 unfold gIxS at e
 split at e
 ·split at e
  ·next hl =>
   split at e
   ·next d hd =>
    cases e
    cases ry
    cases rx
    exact ⟨_,_,d,rfl,rfl,zaE hl,hd,q _ H ρ .refl l (.str _)⟩
   ·cases e
  ·cases e
 ·cases e
noncomputable def cutD (xs:List D) (lo hi:Option Int):List D:=(xs.drop (HT.sIx xs.length 0 lo)).take (HT.sIx xs.length xs.length hi - HT.sIx xs.length 0 lo)
noncomputable def gSlT:D→Option Int→Option Int→Dm D
 | .tup ds,lo,hi,st=>some (.tup (cutD ds lo hi),st)
 | _,_,_,_=>none
theorem got {ρ:List Addr} {H:Hp} {st:Store} {vs:List V} {ds:List D} {Q:VK} (l:Rl K ρ H st) (r:Rps K ρ H vs ds) (q:∀ v H' ρ',Mn K ρ H ρ' H'→Rl K ρ' H' st→Rp K ρ' H' v (.tup ds)→Q v H'):GotT K H vs Q :=
 fun p H' s e=>q _ H' ρ (Mn.same e) (l.same e) (.tup s (r.mn (Mn.same e)))
noncomputable def gSlL:D→Option Int→Option Int→Dm D
 | .ref r,lo,hi,st=>match items st r with
  | some ds=>some (.ref st.length,st ++ [.lst (cutD ds lo hi)])
  | none=>none
 | _,_,_,_=>none
noncomputable def gRevL:D→Dm D
 | .ref i,st=>match items st i with
  | some ds=>some (.ref st.length,st ++ [.lst ds.reverse])
  | none=>none
 | _,_=>none
theorem zbm:So1 K (fun x H Q=>∃ a xs,x=.ref a∧SqL K H a xs∧∀ p,H p=none→Q (.ref p) (upd H p (.lst xs.reverse))) gRevL:=by
 intro ρ H st x a b st' Q l rx e q
 cases a with
 | ref i =>
  simp only [gRevL] at e
  split at e
  ·next ds hd =>
   cases e
   cases rx with
   | ref hr =>
    obtain ⟨vs,s,r⟩:=l.items hr hd
    exact ⟨_,_,rfl,s,fun p hp=>q _ _ _ (Mn.new hp) (l.newL hp r.reverse) (.ref (newR l))⟩
  ·cases e
 | _=>cases e
noncomputable def gCatT:D→D→Dm D
 | .tup a,.tup b,st=>if lim (a.length + b.length)=true then some (.tup (a ++ b),st) else none
 | _,_,_=>none
theorem xaN:So2 K (rCatTA K) gCatT:=by
 intro ρ H st x y a c b st' Q l rx ry e q
 unfold gCatT at e
 split at e
 ·split at e
  ·next hl =>
   cases e
   cases rx with
   | tup s r =>
    cases ry with
    | tup s' r'=>exact ⟨_,_,_,_,rfl,rfl,s,s',by rw [r.length,r'.length];exact zaE hl,got l (r.append r') q⟩
  ·cases e
 ·cases e
noncomputable def own (st:Store) (i:Nat):Option (List D):=match st[i]? with
 | some (.lst ds)=>some ds
 | _=>none
theorem Xav {st:Store} {i:Nat} {ds:List D} (h:own st i=some ds):st[i]?=some (.lst ds):=by
 unfold own at h
 split at h
 ·next ds' hs=>cases h;exact hs
 ·cases h
noncomputable def gCat:D→D→Dm D
 | .ref i,.ref j,st=>match own st i,own st j with
  | some a,some b=>if lim (a.length + b.length)=true then some (.ref st.length,st ++ [.lst (a ++ b)]) else none
  | _,_=>none
 | _,_,_=>none
theorem so_cat:So2 K rCat gCat:=by
 intro ρ H st x y a c b st' Q l rx ry e q
 unfold gCat at e
 split at e
 ·split at e
  ·next a b h1 h2 =>
   split at e
   ·next hl =>
    cases e
    cases rx with
    | ref hi =>
     cases ry with
     | ref hj =>
      obtain ⟨vs,e1,r1⟩:=l.obj _ _ _ hi (Xav h1)
      obtain ⟨ws,e2,r2⟩:=l.obj _ _ _ hj (Xav h2)
      exact ⟨_,_,_,_,rfl,rfl,e1,e2,by rw [r1.length,r2.length];exact zaE hl,fun p hp=>q _ _ _ (Mn.new hp) (l.newL hp (r1.append r2)) (.ref (newR l))⟩
   ·cases e
  ·cases e
 ·cases e
noncomputable def gRep:D→D→Dm D
 | .ref i,.int k,st=>match own st i with
  | some a=>if (decide (-9223372036854775808≤k∧k < 9223372036854775808) && lim (a.length * k.toNat))=true then some (.ref st.length,st ++ [.lst (List.replicate k.toNat a).flatten]) else none
  | _=>none
 | _,_,_=>none
noncomputable def seqOf (st:Store):D→Option (List D)
 | .tup ds=>some ds
 | .ref i=>items st i
 | _=>none
theorem seq_of {ρ:List Addr} {H:Hp} {st:Store} {x:V} {a:D} {ds:List D} (l:Rl K ρ H st) (r:Rp K ρ H x a) (h:seqOf st a=some ds):∃ p vs,x=.ref p∧(SqL K H p vs∨SqT K H p vs)∧Rps K ρ H vs ds:=by
 cases r <;> first | (cases h;done) | skip
 ·next hi=>obtain ⟨vs,s,r⟩:=l.items hi h;exact ⟨_,vs,rfl,.inl s,r⟩
 ·next s r=>cases h;exact ⟨_,_,rfl,.inr s,r⟩
theorem Rps.one' {ρ:List Addr} {H:Hp} {vs:List V} {d:D} (r:Rps K ρ H vs [d]):∃ v,vs=[v]∧Rp K ρ H v d:=by cases r with | cons a b=>cases b;exact ⟨_,rfl,a⟩
theorem Rps.two' {ρ:List Addr} {H:Hp} {vs:List V} {d e:D} (r:Rps K ρ H vs [d,e]):∃ v w,vs=[v,w]∧Rp K ρ H v d∧Rp K ρ H w e:=by
 cases r with
 | cons a b=>obtain ⟨w,rfl,r⟩:=b.one';exact ⟨_,_,rfl,a,r⟩
noncomputable def gLen:List D→Dm D
 | [a],st=>match seqOf st a with
  | some ds=>some (.int ds.length,st)
  | none=>none
 | _,_=>none
theorem xaK:SoC K (fun xs H Q=>∃ p ys,xs=[.ref p]∧(SqL K H p ys∨SqT K H p ys)∧Q (.int ys.length) H) gLen:=by
 intro ρ H st xs as b st' Q l rx e q
 unfold gLen at e
 split at e
 ·split at e
  ·next ds hd =>
   cases e
   obtain ⟨v,rfl,r⟩:=rx.one'
   obtain ⟨p,vs,rfl,s,r⟩:=seq_of l r hd
   exact ⟨p,vs,rfl,s,q _ H ρ .refl l (by rw [r.length];exact .int _)⟩
  ·cases e
 ·cases e
noncomputable def gLenS:List D→Dm D
 | [.str z],st=>if lim z.length=true then some (.int z.length,st) else none
 | _,_=>none
theorem ybm:SoC K (fun xs H Q=>∃ z,xs=[.str z]∧z.length≤sizeLine∧Q (.int z.length) H) gLenS:=by
 intro ρ H st xs as b st' Q l rx e q
 unfold gLenS at e
 split at e
 ·split at e
  ·next hl =>
   cases e
   obtain ⟨v,rfl,r⟩:=rx.one'
   cases r
   exact ⟨_,rfl,zaE hl,q _ H ρ .refl l (.int _)⟩
  ·cases e
 ·cases e
noncomputable def gList:List D→Dm D
 | [a],st=>match seqOf st a with
  | some ds=>some (.ref st.length,st ++ [.lst ds])
  | none=>none
 | _,_=>none
noncomputable def gTuple:List D→Dm D
 | [a],st=>match seqOf st a with
  | some ds=>some (.tup ds,st)
  | none=>none
 | _,_=>none
noncomputable def gMax2:List D→Dm D
 | [.int i,.int j],st=>some (.int (if j > i then j else i),st)
 | _,_=>none
noncomputable def gMin2:List D→Dm D
 | [.int i,.int j],st=>some (.int (if j < i then j else i),st)
 | _,_=>none
theorem yau:SoC K (fun xs H Q=>∃ i j,xs=[.int i,.int j]∧Q (.int (if j > i then j else i)) H) gMax2:=by
 intro ρ H st xs as b st' Q l rx e q
 unfold gMax2 at e
 split at e
 ·cases e
  obtain ⟨v,w,rfl,r1,r2⟩:=rx.two'
  cases r1;cases r2
  exact ⟨_,_,rfl,q _ H ρ .refl l (.int _)⟩
 ·cases e
theorem Zbm:SoC K (fun xs H Q=>∃ i j,xs=[.int i,.int j]∧Q (.int (if j < i then j else i)) H) gMin2:=by
 intro ρ H st xs as b st' Q l rx e q
 unfold gMin2 at e
 split at e
 ·cases e
  obtain ⟨v,w,rfl,r1,r2⟩:=rx.two'
  cases r1;cases r2
  exact ⟨_,_,rfl,q _ H ρ .refl l (.int _)⟩
 ·cases e
noncomputable def gInt1:List D→Dm D
 | [.int i],st=>some (.int i,st)
 | [.bl k],st=>some (.int (if k then 1 else 0),st)
 | _,_=>none
theorem Ybm:SoC K (fun xs H Q=>(∃ i,xs=[.int i]∧Q (.int i) H)∨∃ k,xs=[.bl k]∧Q (.int (if k then 1 else 0)) H) gInt1:=by
 intro ρ H st xs as b st' Q l rx e q
 unfold gInt1 at e
 split at e
 ·cases e
  obtain ⟨v,rfl,r⟩:=rx.one'
  cases r
  exact .inl ⟨_,rfl,q _ H ρ .refl l (.int _)⟩
 ·cases e
  obtain ⟨v,rfl,r⟩:=rx.one'
  cases r
  exact .inr ⟨_,rfl,q _ H ρ .refl l (.int _)⟩
 ·cases e
noncomputable def gRange1:List D→Dm D
 | [.int j],st=>some (.ref st.length,st ++ [.rng 0 j])
 | _,_=>none
noncomputable def gRange2:List D→Dm D
 | [.int i,.int j],st=>some (.ref st.length,st ++ [.rng i j])
 | _,_=>none
noncomputable def rangeD (lo:Int) (n:Nat):List D:=(List.range n).map fun (k:Nat)=>D.int (lo + k)
noncomputable def okR (lo hi:Int):Bool:=decide (-4611686018427387904≤lo∧lo < 4611686018427387904∧-4611686018427387904≤hi∧hi < 4611686018427387904) && lim (hi - lo).toNat
noncomputable def rngOf (st:Store):D→Option (Int×Int)
 | .ref i=>match st[i]? with
  | some (.rng lo hi)=>some (lo,hi)
  | _=>none
 | _=>none
noncomputable def gListR:List D→Dm D
 | [a],st=>match rngOf st a with
  | some (lo,hi)=>if okR lo hi=true then some (.ref st.length,st ++ [.lst (rangeD lo (hi - lo).toNat)]) else none
  | none=>none
 | _,_=>none
noncomputable def gTupleR:List D→Dm D
 | [a],st=>match rngOf st a with
  | some (lo,hi)=>if okR lo hi=true then some (.tup (rangeD lo (hi - lo).toNat),st) else none
  | none=>none
 | _,_=>none
noncomputable def iV:D→Option Int
 | .int i=>some i
 | _=>none
noncomputable def sortI (ns:List Int):List Int:=ns.mergeSort fun a b=>decide (a≤b)
noncomputable def gSorted:List D→Dm D
 | [a],st=>match (seqOf st a).bind (mapO iV) with
  | some ns=>if ns.length < 64 then some (.ref st.length,st ++ [.lst ((sortI ns).map D.int)]) else none
  | none=>none
 | _,_=>none
noncomputable def bV:D→Option Bool
 | .bl i=>some i
 | _=>none
theorem Ybh {ρ:List Addr} {H:Hp}:∀ {ws:List V} {ds:List D} {ns:List Bool},Rps K ρ H ws ds→mapO bV ds=some ns→ws=ns.map V.bl
 | _,_,_,.nil,h=>by cases h;rfl
 | _,_,_,.cons a b,h=>by
  obtain ⟨x,t,h1,h2,rfl⟩:=Yax h
  rw [Ybh b h2]
  cases a <;> first | (cases h1;rfl) | cases h1
noncomputable def gAll:List D→Dm D
 | [.ref i],st=>match (items st i).bind (mapO bV) with
  | some bs=>some (.bl (bs.all id),st)
  | none=>none
 | _,_=>none
theorem so_all:SoC K (fun xs H Q=>∃ (p:Addr) (bs:List Bool),xs=[.ref p]∧SqL K H p (bs.map V.bl)∧Q (.bl (bs.all id)) H) gAll:=by
 intro ρ H st xs as b st' Q l rx e q
 unfold gAll at e
 split at e
 ·split at e
  ·next bs hd =>
   cases e
   obtain ⟨v,rfl,r⟩:=rx.one'
   obtain ⟨ds,h3,h4⟩:=Option.bind_eq_some_iff.mp hd
   cases r with
   | ref hi =>
    obtain ⟨vs,s,r⟩:=l.items hi h3
    cases Ybh r h4
    exact ⟨_,bs,rfl,s,q _ H ρ .refl l (.bl _)⟩
  ·cases e
 ·cases e
noncomputable def tyD (T:String) (st:Store):D→Bool
 | .str _=>T == "str"
 | .tup _=>T == "tuple"
 | .ref i=>T == "list" && (items st i).isSome
 | _=>false
theorem tyD_of {ρ:List Addr} {H:Hp} {st:Store} {x:V} {a:D} {T:String} (l:Rl K ρ H st) (r:Rp K ρ H x a) (h:tyD T st a=true):tyV K T x H:=by
 cases r <;> first | (cases h;done) | skip
 ·exact eq_of_beq h
 ·next hi =>
  simp only [tyD,Bool.and_eq_true] at h
  obtain ⟨ds,hd⟩:=Option.isSome_iff_exists.mp h.2
  obtain ⟨vs,s,_⟩:=l.items hi hd
  exact .inl ⟨eq_of_beq h.1,vs,s⟩
 ·next s r=>exact .inr (.inl ⟨eq_of_beq h,_,s⟩)
noncomputable def fBM (T:String) (g:D→List D→Dm D) (fo:DSt→Dm D) (fa:DSt→Dm (List D)):DSt→Dm D:=fun δ st=>bnd (fo δ st) fun o st1=>if tyD T st1 o=true then bnd (fa δ st1) fun as st2=>g o as st2 else none
theorem Za1 {T:String} {r:V→List V→Hp→VK→Prop} {g:D→List D→Dm D} {to:TE} {ta:TA} {fo:DSt→Dm D} {fa:DSt→Dm (List D)} (hr:SoM K T r g) (ho:SoE K to fo) (ha:SoA K ta fa):SoE K (tBM K T r to ta) (fBM T g fo fa):=by
 intro ρ σ H δ st b st' Q l rs e q
 obtain ⟨o,st1,e1,e⟩:=Zab e
 split at e
 ·next ht =>
  obtain ⟨as,st2,e2,e⟩:=Zab e
  refine ho ρ σ H δ st o st1 _ l rs e1 fun x H1 ρ1 m1 l1 r1=>⟨tyD_of l1 r1 ht,ha ρ1 σ H1 δ st1 as st2 _ l1 (rs.mn m1) e2 fun xs H2 ρ2 m2 l2 r2=>?_⟩
  exact hr ρ2 H2 st2 x xs o as b st' Q l2 (r1.mn m2) r2 e fun v H3 ρ3 m3 l3 r3=>q v H3 ρ3 ((m1.trans m2).trans m3) l3 r3
 ·cases e
noncomputable def gAppend:D→List D→Dm D
 | .ref i,[y],st=>match own st i with
  | some xs=>if lim xs.length=true then some (.non,st.set i (.lst (xs ++ [y]))) else none
  | none=>none
 | _,_,_=>none
theorem XaK:SoM K "list" rAppend gAppend:=by
 intro ρ H st x xs a as b st' Q l rx rxs e q
 unfold gAppend at e
 split at e
 ·split at e
  ·next ys hy =>
   split at e
   ·next hl =>
    cases e
    obtain ⟨v,rfl,r⟩:=rxs.one'
    cases rx with
    | ref hi =>
     obtain ⟨vs,e1,r1⟩:=l.obj _ _ _ hi (Xav hy)
     obtain ⟨l2,m2⟩:=l.putL hi (Xav hy) (r1.append (.one r))
     exact ⟨_,vs,v,rfl,rfl,e1,by rw [r1.length];exact Xbg hl,q _ _ ρ m2 l2 .non⟩
   ·cases e
  ·cases e
 ·cases e
noncomputable def gExtend:D→List D→Dm D
 | .ref i,[.ref j],st=>match own st i,own st j with
  | some xs,some ys=>if lim (xs.length + ys.length)=true then some (.non,st.set i (.lst (xs ++ ys))) else none
  | _,_=>none
 | _,_,_=>none
noncomputable def gPopAt:D→List D→Dm D
 | .ref i,[.int k],st=>match own st i with
  | some xs=>if decide (-9223372036854775808≤k∧k < 9223372036854775808)=true then match seqIndex? k xs.length with
    | some j=>match xs[j]? with
     | some y=>some (y,st.set i (.lst (xs.eraseIdx j)))
     | none=>none
    | none=>none
   else none
  | none=>none
 | _,_,_=>none
noncomputable def gIndex:D→List D→Dm D
 | .tup ds,[.int v],st=>match mapO iV ds with
  | some ns=>match ns.findIdx? (fun i=>decide (i=v)) with
   | some j=>some (.int (j:Int),st)
   | none=>none
  | none=>none
 | _,_,_=>none
noncomputable def tyNm (st:Store):D→Option String
 | .non=>some "NoneType"
 | .bl _=>some "bool"
 | .int _=>some "int"
 | .str _=>some "str"
 | .tup _=>some "tuple"
 | .ref i=>match st[i]? with
  | some (.lst _)=>some "list"
  | some (.dct _)=>some "dict"
  | _=>none
 | .ty _=>none
noncomputable def gIsinst:List D→Dm D
 | [a,.ty c],st=>match tyNm st a with
  | some T=>if T=c then some (.bl true,st) else none
  | none=>none
 | _,_=>none
end
end L4
namespace L4
open PySem PySem.Spec L2
section
variable {K:PySem.W.Frag}
theorem Rs.set {ρ:List Addr} {H:Hp} {σ:St} {δ:DSt} {v:V} {d:D} {i:Nat} (h:Rs K ρ H σ δ) (r:Rp K ρ H v d):Rs K ρ H (σ.set i (some v)) (δ.set i (some d)):=by
 refine ⟨by rw [List.length_set,List.length_set];exact h.1,fun j e hj=>?_⟩
 by_cases hij:i=j
 ·subst hij
  have hl:i < δ.length:=by
   have:=(List.getElem?_eq_some_iff.mp hj).1
   rwa [List.length_set] at this
  rw [List.getElem?_set_self hl] at hj
  cases hj
  exact ⟨v,by rw [List.getElem?_set_self (by rw [h.1];exact hl)],r⟩
 ·rw [List.getElem?_set_ne hij] at hj
  obtain ⟨w,hw,rw'⟩:=h.2 j e hj
  exact ⟨w,by rw [List.getElem?_set_ne hij];exact hw,rw'⟩
noncomputable def SoG (K:PySem.W.Frag) (g:TG) (f:D→DSt→Dm DSt):Prop :=
 ∀ (ρ:List Addr) (σ:St) (H:Hp) (δ:DSt) (st:Store) (v:V) (d:D) (δ':DSt) (st':Store) (Q:St→Hp→Prop),Rl K ρ H st→Rs K ρ H σ δ→Rp K ρ H v d→f d δ st=some (δ',st') →
  (∀ σ' H' ρ',Mn K ρ H ρ' H'→Rl K ρ' H' st'→Rs K ρ' H' σ' δ'→Q σ' H')→g v σ H Q
noncomputable def SoGs (K:PySem.W.Frag) (g:TGs) (f:List D→DSt→Dm DSt):Prop :=
 ∀ (ρ:List Addr) (σ:St) (H:Hp) (δ:DSt) (st:Store) (v:List V) (d:List D) (δ':DSt) (st':Store) (Q:St→Hp→Prop),Rl K ρ H st→Rs K ρ H σ δ→Rps K ρ H v d→f d δ st=some (δ',st') →
  (∀ σ' H' ρ',Mn K ρ H ρ' H'→Rl K ρ' H' st'→Rs K ρ' H' σ' δ'→Q σ' H')→g v σ H Q
noncomputable def hName (i:Nat):D→DSt→Dm DSt:=fun d δ st=>some (δ.set i (some d),st)
theorem zac (i:Nat):SoG K (gName i) (hName i):=by
 intro ρ σ H δ st v d δ' st' Q l rs r e q
 cases e
 exact q _ H ρ .refl l (rs.set r)
noncomputable def hNil:List D→DSt→Dm DSt
 | [],δ,st=>some (δ,st)
 | _,_,_=>none
noncomputable def hCons (f:D→DSt→Dm DSt) (g:List D→DSt→Dm DSt):List D→DSt→Dm DSt
 | d :: ds,δ,st=>bnd (f d δ st) fun δ1 st1=>g ds δ1 st1
 | _,_,_=>none
theorem Ya1:SoGs K gNil hNil:=by
 intro ρ σ H δ st v d δ' st' Q l rs r e q
 cases r with
 | nil=>cases e;exact ⟨rfl,q _ H ρ .refl l rs⟩
 | cons a b=>cases e
theorem zaw {t:TG} {u:TGs} {f:D→DSt→Dm DSt} {g:List D→DSt→Dm DSt} (hf:SoG K t f) (hg:SoGs K u g):SoGs K (gCons t u) (hCons f g):=by
 intro ρ σ H δ st v d δ' st' Q l rs r e q
 cases r with
 | nil=>cases e
 | cons a b =>
  obtain ⟨δ1,st1,e1,e⟩:=Zab e
  exact ⟨_,_,rfl,hf ρ σ H δ st _ _ δ1 st1 _ l rs a e1 fun σ1 H1 ρ1 m1 l1 r1=>hg ρ1 σ1 H1 δ1 st1 _ _ δ' st' Q l1 r1 (b.mn m1) e fun σ2 H2 ρ2 m2 l2 r2=>q σ2 H2 ρ2 (m1.trans m2) l2 r2⟩
noncomputable def hTup (n:Nat) (f:List D→DSt→Dm DSt):D→DSt→Dm DSt
 | .tup ds,δ,st=>if ds.length=n then f ds δ st else none
 | _,_,_=>none
theorem xa1 {n:Nat} {t:TGs} {f:List D→DSt→Dm DSt} (hf:SoGs K t f):SoG K (gTup K n t) (hTup n f):=by
 intro ρ σ H δ st v d δ' st' Q l rs r e q
 cases r <;> first | (cases e;done) | skip
 ·next s r =>
  simp only [hTup] at e
  split at e
  ·next hl=>exact ⟨_,_,rfl,s,by rw [r.length];exact hl,hf ρ σ H δ st _ _ δ' st' Q l rs r e q⟩
  ·cases e
noncomputable def hSub (fo fi:DSt→Dm D):D→DSt→Dm DSt:=fun d δ st=>bnd (fo δ st) fun o st1=>bnd (fi δ st1) fun i st2=>match o,i with
 | .ref r,.int k=>match own st2 r with
  | some xs=>match ixN xs.length k with
   | some j=>some (δ,st2.set r (.lst (xs.set j d)))
   | none=>none
  | none=>none
 | _,_=>none
theorem Xa1 {to ti:TE} {fo fi:DSt→Dm D} (ho:SoE K to fo) (hi:SoE K ti fi):SoG K (L2.gSub to ti rSetL) (hSub fo fi):=by
 intro ρ σ H δ st v d δ' st' Q l rs r e q
 obtain ⟨o,st1,e1,e⟩:=Zab e
 obtain ⟨i,st2,e2,e⟩:=Zab e
 refine ho ρ σ H δ st o st1 _ l rs e1 fun x H1 ρ1 m1 l1 r1=>hi ρ1 σ H1 δ st1 i st2 _ l1 (rs.mn m1) e2 fun y H2 ρ2 m2 l2 r2=>?_
 split at e
 ·split at e
  ·next xs hx =>
   split at e
   ·next j hj =>
    cases e
    cases r2
    cases r1 with
    | ref hr =>
     have hr2:=m2.r _ _ hr
     obtain ⟨vs,e3,r3⟩:=l2.obj _ _ _ hr2 (Xav hx)
     obtain ⟨l3,m3⟩:=l2.putL hr2 (Xav hx) (r3.set (r.mn (m1.trans m2)) j)
     exact ⟨_,vs,_,j,rfl,rfl,e3,by rw [r3.length];exact hj,q σ _ ρ2 ((m1.trans m2).trans m3) l3 (rs.mn ((m1.trans m2).trans m3))⟩
   ·cases e
  ·cases e
 ·cases e
noncomputable def Go (K:PySem.W.Frag) (ρ:List Addr) (H:Hp) (st':Store) (E:Ends):Fl→Prop
 | .nx δ=>∀ σ' H' ρ',Mn K ρ H ρ' H'→Rl K ρ' H' st'→Rs K ρ' H' σ' δ→E.nx σ' H'
 | .bk δ=>∀ σ' H' ρ',Mn K ρ H ρ' H'→Rl K ρ' H' st'→Rs K ρ' H' σ' δ→E.bk σ' H'
 | .ct δ=>∀ σ' H' ρ',Mn K ρ H ρ' H'→Rl K ρ' H' st'→Rs K ρ' H' σ' δ→E.ct σ' H'
 | .rt d=>∀ v H' ρ',Mn K ρ H ρ' H'→Rl K ρ' H' st'→Rp K ρ' H' v d→E.rt v H'
theorem Go.mn {ρ ρ1:List Addr} {H H1:Hp} {st':Store} {E:Ends} {fl:Fl} (g:Go K ρ H st' E fl) (m:Mn K ρ H ρ1 H1):Go K ρ1 H1 st' E fl:=by
 cases fl <;> exact fun v H' ρ' m' l r=>g v H' ρ' (m.trans m') l r
noncomputable def SoS (K:PySem.W.Frag) (t:TS) (f:DSt→Dm Fl):Prop :=
 ∀ (ρ:List Addr) (σ:St) (H:Hp) (δ:DSt) (st:Store) (fl:Fl) (st':Store) (E:Ends),Rl K ρ H st→Rs K ρ H σ δ→f δ st=some (fl,st')→Go K ρ H st' E fl→t E σ H
noncomputable def fNext:DSt→Dm Fl:=fun δ st=>some (.nx δ,st)
theorem zal:SoS K tNext fNext:=by
 intro ρ σ H δ st fl st' E l rs e g
 cases e
 exact g σ H ρ .refl l rs
noncomputable def fSeq (f g:DSt→Dm Fl):DSt→Dm Fl:=fun δ st=>bnd (f δ st) fun fl st1=>match fl with
 | .nx δ1=>g δ1 st1
 | x=>some (x,st1)
theorem Zad {t u:TS} {f g:DSt→Dm Fl} (hf:SoS K t f) (hg:SoS K u g):SoS K (tSeq t u) (fSeq f g):=by
 intro ρ σ H δ st fl st' E l rs e q
 obtain ⟨x,st1,e1,e⟩:=Zab e
 refine hf ρ σ H δ st x st1 _ l rs e1 ?_
 cases x with
 | nx δ1=>exact fun σ1 H1 ρ1 m1 l1 r1=>hg ρ1 σ1 H1 δ1 st1 fl st' E l1 r1 e (q.mn m1)
 | bk δ1=>cases e;exact q
 | ct δ1=>cases e;exact q
 | rt d=>cases e;exact q
theorem Yaq {c:TT} {t u:TS} {fc:DSt→Dm Bool} {f g:DSt→Dm Fl} (hc:SoT K c fc) (hf:SoS K t f) (hg:SoS K u g):SoS K (tIfS c t u) (fIf fc f g):=by
 intro ρ σ H δ st fl st' E l rs e q
 obtain ⟨a,st1,e1,e⟩:=Zab e
 refine hc ρ σ H δ st _ _ _ l rs e1 fun x H1 ρ1 m1 l1 r1=>?_
 subst r1
 cases x with
 | true =>
  refine iteT ?_
  rw [if_pos rfl] at e
  exact hf ρ1 σ H1 δ st1 fl st' E l1 (rs.mn m1) e (q.mn m1)
 | false =>
  refine iteF ?_
  rw [if_neg Bool.false_ne_true] at e
  exact hg ρ1 σ H1 δ st1 fl st' E l1 (rs.mn m1) e (q.mn m1)
noncomputable def fDrop (f:DSt→Dm D):DSt→Dm Fl:=fun δ st=>bnd (f δ st) fun _ st1=>some (.nx δ,st1)
theorem za2 {t:TE} {f:DSt→Dm D} (hf:SoE K t f):SoS K (tDrop t) (fDrop f):=by
 intro ρ σ H δ st fl st' E l rs e q
 obtain ⟨a,st1,e1,e⟩:=Zab e
 cases e
 exact hf ρ σ H δ st a _ _ l rs e1 fun x H1 ρ1 m1 l1 r1=>q σ H1 ρ1 m1 l1 (rs.mn m1)
noncomputable def fRet (f:DSt→Dm D):DSt→Dm Fl:=fun δ st=>bnd (f δ st) fun d st1=>some (.rt d,st1)
theorem Xag {t:TE} {f:DSt→Dm D} (hf:SoE K t f):SoS K (tRet t) (fRet f):=by
 intro ρ σ H δ st fl st' E l rs e q
 obtain ⟨a,st1,e1,e⟩:=Zab e
 cases e
 exact hf ρ σ H δ st a _ _ l rs e1 fun x H1 ρ1 m1 l1 r1=>q x H1 ρ1 m1 l1 r1
noncomputable def fAsg (f:DSt→Dm D) (h:D→DSt→Dm DSt):DSt→Dm Fl:=fun δ st=>bnd (f δ st) fun d st1=>bnd (h d δ st1) fun δ1 st2=>some (.nx δ1,st2)
theorem Yad {t:TE} {g:TG} {f:DSt→Dm D} {h:D→DSt→Dm DSt} (hf:SoE K t f) (hh:SoG K g h):SoS K (tAsg t g) (fAsg f h):=by
 intro ρ σ H δ st fl st' E l rs e q
 obtain ⟨a,st1,e1,e⟩:=Zab e
 obtain ⟨δ1,st2,e2,e⟩:=Zab e
 cases e
 exact hf ρ σ H δ st a st1 _ l rs e1 fun x H1 ρ1 m1 l1 r1=>hh ρ1 σ H1 δ st1 x a δ1 _ _ l1 (rs.mn m1) r1 e2 fun σ2 H2 ρ2 m2 l2 r2=>q σ2 H2 ρ2 (m1.trans m2) l2 r2
noncomputable def fPar (i j:Nat) (fa:DSt→Dm (List D)):DSt→Dm Fl:=fun δ st=>bnd (fa δ st) fun as st1=>match as with
 | [a,b]=>some (.nx ((δ.set i (some a)).set j (some b)),st1)
 | _=>none
theorem xbh {i j:Nat} {t:TA} {fa:DSt→Dm (List D)} (ha:SoA K t fa):SoS K (tPar i j t) (fPar i j fa):=by
 intro ρ σ H δ st fl st' E l rs e q
 obtain ⟨as,st1,e1,e⟩:=Zab e
 split at e
 ·cases e
  refine ha ρ σ H δ st _ _ _ l rs e1 fun x H1 ρ1 m1 l1 r1=>?_
  obtain ⟨v,w,rfl,r,r'⟩:=r1.two'
  exact ⟨v,w,rfl,q _ H1 ρ1 m1 l1 (((rs.mn m1).set r).set r')⟩
 ·cases e
noncomputable def fWhileGo (c:DSt→Dm Bool) (b:DSt→Dm Fl):Nat→DSt→Dm Fl
 | 0,_,_=>none
 | n + 1,δ,st=>bnd (c δ st) fun t st1=>if t=true then bnd (b δ st1) fun fl st2=>match fl with
   | .nx δ2=>fWhileGo c b n δ2 st2
   | .ct δ2=>fWhileGo c b n δ2 st2
   | .bk δ2=>some (.nx δ2,st2)
   | .rt d=>some (.rt d,st2)
  else some (.nx δ,st1)
noncomputable def fuel:Nat:=1000000
noncomputable def fWhile (c:DSt→Dm Bool) (b:DSt→Dm Fl):DSt→Dm Fl:=fWhileGo c b fuel
theorem XaG {tc:TT} {tb:TS} {c:DSt→Dm Bool} {b:DSt→Dm Fl} (hc:SoT K tc c) (hb:SoS K tb b):SoS K (tWhile tc tb) (fWhile c b):=by
 intro ρ σ H δ st fl st' E l rs e q
 refine ⟨fun m σ1 H1=>∃ ρ1 δ1 st1,Mn K ρ H ρ1 H1∧Rl K ρ1 H1 st1∧Rs K ρ1 H1 σ1 δ1∧fWhileGo c b m δ1 st1=some (fl,st'),⟨fuel,ρ,δ,st,.refl,l,rs,e⟩,?_⟩
 rintro m σ1 H1 ⟨ρ1,δ1,st1,m1,l1,rs1,e1⟩
 cases m with
 | zero=>cases e1
 | succ m =>
  obtain ⟨t,st2,e2,e1⟩:=Zab e1
  refine hc ρ1 σ1 H1 δ1 st1 _ _ _ l1 rs1 e2 fun x H2 ρ2 m2 l2 r2=>?_
  subst r2
  cases x with
  | true =>
   refine iteT ?_
   rw [if_pos rfl] at e1
   obtain ⟨f2,st3,e3,e1⟩:=Zab e1
   refine ⟨fun σ3 H3=>∃ m',m' < m + 1∧∃ ρ1 δ1 st1,Mn K ρ H ρ1 H3∧Rl K ρ1 H3 st1∧Rs K ρ1 H3 σ3 δ1∧fWhileGo c b m' δ1 st1=some (fl,st'),fun _ _ h=>h,hb ρ2 σ1 H2 δ1 st2 f2 st3 _ l2 (rs1.mn m2) e3 ?_⟩
   cases f2 with
   | nx δ3=>exact fun σ3 H3 ρ3 m3 l3 r3=>⟨m,Nat.lt_succ_self m,ρ3,δ3,st3,(m1.trans m2).trans m3,l3,r3,e1⟩
   | ct δ3=>exact fun σ3 H3 ρ3 m3 l3 r3=>⟨m,Nat.lt_succ_self m,ρ3,δ3,st3,(m1.trans m2).trans m3,l3,r3,e1⟩
   | bk δ3=>cases e1;exact q.mn (m1.trans m2)
   | rt d=>cases e1;exact q.mn (m1.trans m2)
  | false =>
   refine iteF ?_
   rw [if_neg Bool.false_ne_true] at e1
   cases e1
   exact q.mn (m1.trans m2) σ1 H2 ρ2 .refl l2 (rs1.mn m2)
inductive Src where
 | fix (ds:List D) | live (i:Nat) | enm (i:Nat) | zl (i:Nat) (es:List D) | zr (ds:List D) (i:Nat)
noncomputable def Src.at:Src→Nat→Store→Option (Option D)
 | .fix ds,i,_=>if i≤ds.length then some ds[i]? else none
 | .live r,i,st=>(items st r).map fun ds=>ds[i]?
 | .enm r,i,st=>(items st r).bind fun ds=>if i≤ds.length then some (ds.mapIdx fun i d=>D.tup [.int (i:Int),d])[i]? else none
 | .zl r es,i,st=>(items st r).bind fun ds=>if i≤(List.zipWith (fun a b=>D.tup [a,b]) ds es).length then some (List.zipWith (fun a b=>D.tup [a,b]) ds es)[i]? else none
 | .zr ds r,i,st=>(items st r).bind fun es=>if i≤(List.zipWith (fun a b=>D.tup [a,b]) ds es).length then some (List.zipWith (fun a b=>D.tup [a,b]) ds es)[i]? else none
theorem zaR {ds:List D} {i:Nat} {st:Store} {o:Option D} (h:Src.at (.fix ds) i st=some o):i≤ds.length∧ds[i]?=o:=by
 simp only [Src.at] at h
 split at h
 ·next hl=>exact ⟨hl,Option.some.inj h⟩
 ·cases h
noncomputable def ItOk (K:PySem.W.Frag) (ρ:List Addr) (H:Hp) (J:It) (S:Src):Prop :=
 ∀ (ρ2:List Addr) (H2:Hp) (st2:Store) (i:Nat),Mn K ρ H ρ2 H2→Rl K ρ2 H2 st2 →
  (S.at i st2=some none→J.stop i H2)∧∀ d,S.at i st2=some (some d)→J.go i H2∧∀ x H3,J.yld i H2 x H3→Mn K ρ2 H2 ρ2 H3∧Rl K ρ2 H3 st2∧Rp K ρ2 H3 x d
abbrev SoI (K:PySem.W.Frag) (t:TI) (f:DSt→Dm Src):Prop:=So K (ItOk K) t f
noncomputable def fForGo (S:Src) (g:D→DSt→Dm DSt) (b:DSt→Dm Fl):Nat→Nat→DSt→Dm Fl
 | 0,_,_,_=>none
 | n + 1,i,δ,st=>match S.at i st with
  | none=>none
  | some none=>some (.nx δ,st)
  | some (some d)=>bnd (g d δ st) fun δ1 st1=>bnd (b δ1 st1) fun fl st2=>match fl with
   | .nx δ2=>fForGo S g b n (i + 1) δ2 st2
   | .ct δ2=>fForGo S g b n (i + 1) δ2 st2
   | .bk δ2=>some (.nx δ2,st2)
   | .rt d=>some (.rt d,st2)
noncomputable def fFor (fi:DSt→Dm Src) (g:D→DSt→Dm DSt) (b:DSt→Dm Fl):DSt→Dm Fl:=fun δ st=>bnd (fi δ st) fun S st1=>fForGo S g b fuel 0 δ st1
theorem ya2 {wi:TI} {tg:TG} {tb:TS} {fi:DSt→Dm Src} {g:D→DSt→Dm DSt} {b:DSt→Dm Fl} (hi:SoI K wi fi) (hg:SoG K tg g) (hb:SoS K tb b):SoS K (tFor wi tg tb) (fFor fi g b):=by
 intro ρ σ H δ st fl st' E l rs e q
 obtain ⟨S,st0,e0,e⟩:=Zab e
 refine hi ρ σ H δ st S st0 _ l rs e0 fun J H0 ρ0 m0 l0 ok=>?_
 refine ⟨fun i m σ1 H1=>∃ ρ1 δ1 st1,Mn K ρ0 H0 ρ1 H1∧Rl K ρ1 H1 st1∧Rs K ρ1 H1 σ1 δ1∧fForGo S g b m i δ1 st1=some (fl,st'),⟨fuel,ρ0,δ,st0,.refl,l0,rs.mn m0,e⟩,?_⟩
 rintro i m σ1 H1 ⟨ρ1,δ1,st1,m1,l1,rs1,e1⟩
 cases m with
 | zero=>cases e1
 | succ m =>
  obtain ⟨hstop,hgo⟩:=ok ρ1 H1 st1 i m1 l1
  unfold fForGo at e1
  split at e1
  ·cases e1
  ·next hs=>cases e1;exact .inl ⟨hstop hs,q.mn (m0.trans m1) σ1 H1 ρ1 .refl l1 rs1⟩
  ·next d hs =>
   obtain ⟨δ2,st2,e2,e1⟩:=Zab e1
   obtain ⟨f3,st3,e3,e1⟩:=Zab e1
   obtain ⟨go,yld⟩:=hgo d hs
   refine .inr ⟨go,fun σ3 H3=>∃ m',m' < m + 1∧∃ ρ1 δ1 st1,Mn K ρ0 H0 ρ1 H3∧Rl K ρ1 H3 st1∧Rs K ρ1 H3 σ3 δ1∧fForGo S g b m' (i + 1) δ1 st1=some (fl,st'),fun _ _ h=>h,fun x H2 hy=>?_⟩
   obtain ⟨m2,l2,r2⟩:=yld x H2 hy
   refine hg ρ1 σ1 H2 δ1 st1 x d δ2 st2 _ l2 (rs1.mn m2) r2 e2 fun σ4 H4 ρ4 m4 l4 r4=>hb ρ4 σ4 H4 δ2 st2 f3 st3 _ l4 r4 e3 ?_
   have m5:=((m1.trans m2).trans m4)
   cases f3 with
   | nx δ3=>exact fun σ5 H5 ρ5 m6 l5 r5=>⟨m,Nat.lt_succ_self m,ρ5,δ3,st3,m5.trans m6,l5,r5,e1⟩
   | ct δ3=>exact fun σ5 H5 ρ5 m6 l5 r5=>⟨m,Nat.lt_succ_self m,ρ5,δ3,st3,m5.trans m6,l5,r5,e1⟩
   | bk δ3=>cases e1;exact q.mn (m0.trans m5)
   | rt d=>cases e1;exact q.mn (m0.trans m5)
noncomputable def iTupF (fa:DSt→Dm D):DSt→Dm Src:=fun δ st=>bnd (fa δ st) fun a st1=>match a with
 | .tup ds=>some (.fix ds,st1)
 | _=>none
theorem Za2 {t:TE} {fa:DSt→Dm D} (ha:SoE K t fa):SoI K (iTup K t) (iTupF fa):=by
 intro ρ σ H δ st S st' Q l rs e q
 obtain ⟨a,st1,e1,e⟩:=Zab e
 cases a <;> simp at e
 obtain ⟨rfl,rfl⟩:=e
 refine ha ρ σ H δ st _ _ _ l rs e1 fun x H1 ρ1 m1 l1 r1=>?_
 cases r1 with
 | tup s r =>
  refine ⟨_,rfl,⟨_,s⟩,q _ H1 ρ1 m1 l1 fun ρ2 H2 st2 i m2 l2=>⟨fun h=>?_,fun d h=>?_⟩⟩
  ·exact ⟨_,m2.t _ _ s,by rw [r.length];exact List.getElem?_eq_none_iff.mp (zaR h).2⟩
  ·obtain ⟨v,hv,rv⟩:=r.got (zaR h).2
   refine ⟨⟨_,v,m2.t _ _ s,hv⟩,fun x H3 y=>?_⟩
   obtain ⟨rfl,hx⟩:=y
   have:=hx _ (m2.t _ _ s)
   rw [hv] at this
   cases this
   exact ⟨.refl,l2,rv.mn m2⟩
noncomputable def iListF (fa:DSt→Dm D):DSt→Dm Src:=fun δ st=>bnd (fa δ st) fun a st1=>match a with
 | .ref i=>match items st1 i with
  | some _=>some (.live i,st1)
  | none=>none
 | _=>none
theorem yba {t:TE} {fa:DSt→Dm D} (ha:SoE K t fa):SoI K (iList K t) (iListF fa):=by
 intro ρ σ H δ st S st' Q l rs e q
 obtain ⟨a,st1,e1,e⟩:=Zab e
 split at e
 ·next k =>
  split at e
  ·next ds hd =>
   cases e
   refine ha ρ σ H δ st _ _ _ l rs e1 fun x H1 ρ1 m1 l1 r1=>?_
   cases r1 with
   | ref hi =>
    obtain ⟨vs,s,r⟩:=l1.items hi hd
    refine ⟨_,rfl,⟨_,s⟩,q _ H1 ρ1 m1 l1 fun ρ2 H2 st2 i m2 l2=>⟨fun h=>?_,fun d h=>?_⟩⟩
    ·obtain ⟨ds2,hd2,h⟩:=Option.map_eq_some_iff.mp h
     obtain ⟨vs2,s2,r2⟩:=l2.items (m2.r _ _ hi) hd2
     exact ⟨vs2,s2,by rw [r2.length];exact List.getElem?_eq_none_iff.mp h⟩
    ·obtain ⟨ds2,hd2,h⟩:=Option.map_eq_some_iff.mp h
     obtain ⟨vs2,s2,r2⟩:=l2.items (m2.r _ _ hi) hd2
     obtain ⟨v,hv,rv⟩:=r2.got h
     refine ⟨⟨_,v,s2,hv⟩,fun x H3 y=>?_⟩
     obtain ⟨rfl,hx⟩:=y
     have:=hx _ s2
     rw [hv] at this
     cases this
     exact ⟨.refl,l2,rv⟩
  ·cases e
 ·cases e
noncomputable def iRng1F (fa:DSt→Dm (List D)):DSt→Dm Src:=fun δ st=>bnd (fa δ st) fun as st1=>match as with
 | [.int j]=>if decide (-4611686018427387904≤j∧j < 4611686018427387904)=true then some (.fix (rangeD 0 j.toNat),st1) else none
 | _=>none
noncomputable def iRng2F (fa:DSt→Dm (List D)):DSt→Dm Src:=fun δ st=>bnd (fa δ st) fun as st1=>match as with
 | [.int i,.int j]=>if decide ((-4611686018427387904≤i∧i < 4611686018427387904)∧-4611686018427387904≤j∧j < 4611686018427387904)=true then some (.fix (rangeD i (j - i).toNat),st1) else none
 | _=>none
theorem yah (lo:Int) (n:Nat):(rangeD lo n).length=n:=by simp [rangeD]
theorem ZaE {lo:Int} {n k:Nat} (h:k < n):(rangeD lo n)[k]?=some (.int (lo + k)):=by simp [rangeD,h]
theorem it_rng {ρ:List Addr} {H:Hp} (lo:Int) (n:Nat):ItOk K ρ H (Itr lo n) (.fix (rangeD lo n)):=by
 intro ρ2 H2 st2 i m2 l2
 refine ⟨fun h=>?_,fun d h=>?_⟩
 ·have:=List.getElem?_eq_none_iff.mp (zaR h).2
  rw [yah] at this
  exact this
 ·have h:=(zaR h).2
  have hl:=(List.getElem?_eq_some_iff.mp h).1
  rw [yah] at hl
  rw [ZaE hl] at h
  cases h
  refine ⟨hl,fun x H3 y=>?_⟩
  obtain ⟨rfl,rfl⟩:=y
  exact ⟨.refl,l2,.int _⟩
theorem yaR {t:TA} {fa:DSt→Dm (List D)} (ha:SoA K t fa):SoI K (iRng1 t) (iRng1F fa):=by
 intro ρ σ H δ st S st' Q l rs e q
 obtain ⟨as,st1,e1,e⟩:=Zab e
 split at e
 ·split at e
  ·next ok =>
   cases e
   have ok:=of_decide_eq_true ok
   refine ha ρ σ H δ st _ _ _ l rs e1 fun x H1 ρ1 m1 l1 r1=>?_
   obtain ⟨v,rfl,r⟩:=r1.one'
   cases r
   exact ⟨_,rfl,by omega,by omega,q _ H1 ρ1 m1 l1 (it_rng 0 _)⟩
  ·cases e
 ·cases e
noncomputable def enumD (ds:List D):List D:=ds.mapIdx fun i d=>.tup [.int (i:Int),d]
noncomputable def iEnumF (fa:DSt→Dm (List D)):DSt→Dm Src:=fun δ st=>bnd (fa δ st) fun as st1=>match as with
 | [.tup ds]=>some (.fix (enumD ds),st1)
 | _=>none
noncomputable def fCompGo (S:Src) (g:D→DSt→Dm DSt) (tc:DSt→Dm Bool) (te:DSt→Dm D):Nat→Nat→List D→DSt→Dm (List D)
 | 0,_,_,_,_=>none
 | n + 1,i,ys,δ,st=>if lim ys.length=true then match S.at i st with
  | none=>none
  | some none=>some (ys,st)
  | some (some d)=>bnd (g d δ st) fun δ1 st1=>bnd (tc δ1 st1) fun t st2=>if t=true then bnd (te δ1 st2) fun y st3=>fCompGo S g tc te n (i + 1) (ys ++ [y]) δ1 st3 else fCompGo S g tc te n (i + 1) ys δ1 st2
  else none
noncomputable def compD (n:Nat) (js:List Nat) (δ:DSt):DSt:=List.replicate n none ++ js.map fun j=>δ.getD j none
noncomputable def fComp (fi:DSt→Dm Src) (n:Nat) (js:List Nat) (g:D→DSt→Dm DSt) (tc:DSt→Dm Bool) (te:DSt→Dm D):DSt→Dm D:=fun δ st=>bnd (fi δ st) fun S st1=>bnd (fCompGo S g tc te fuel 0 [] (compD n js δ) st1) fun ys st2=>some (.ref st2.length,st2 ++ [.lst ys])
theorem Rs.comp {ρ:List Addr} {H:Hp} {σ:St} {δ:DSt} (h:Rs K ρ H σ δ) (n:Nat) (js:List Nat):Rs K ρ H (compSt n js σ) (compD n js δ):=by
 unfold compSt compD
 refine ⟨by simp,fun i d hd=>?_⟩
 by_cases hi:i < n
 ·rw [List.getElem?_append_left (by simpa using hi),List.getElem?_replicate,if_pos hi] at hd
  cases hd
 ·rw [List.getElem?_append_right (by simpa using Nat.le_of_not_lt hi),List.getElem?_map] at hd
  rw [List.getElem?_append_right (by simpa using Nat.le_of_not_lt hi),List.getElem?_map]
  simp only [List.length_replicate] at hd ⊢
  cases hj:js[i - n]? with
  | none=>rw [hj] at hd;cases hd
  | some j =>
   rw [hj] at hd
   have hd:δ.getD j none=some d:=Option.some.inj hd
   rw [List.getD_eq_getElem?_getD] at hd
   have hd':δ[j]?=some (some d):=by
    cases hx:δ[j]? with
    | none=>rw [hx] at hd;cases hd
    | some y=>rw [hx] at hd;exact congrArg some hd
   obtain ⟨v,hv,r⟩:=h.2 j d hd'
   exact ⟨v,by show some (σ.getD j none)=_;rw [List.getD_eq_getElem?_getD,hv];rfl,r⟩
theorem Ya2 {wi:TI} {tg:TG} {tc:TT} {te:TE} {fi:DSt→Dm Src} {n:Nat} {js:List Nat} {g:D→DSt→Dm DSt} {c:DSt→Dm Bool} {f:DSt→Dm D} (hi:SoI K wi fi) (hg:SoG K tg g) (hc:SoT K tc c) (hf:SoE K te f):SoE K (tComp wi n js tg tc te) (fComp fi n js g c f):=by
 intro ρ σ H δ st b st' Q l rs e q
 obtain ⟨S,st0,e0,e⟩:=Zab e
 obtain ⟨zs,st9,e9,e⟩:=Zab e
 cases e
 refine hi ρ σ H δ st S st0 _ l rs e0 fun J H0 ρ0 m0 l0 ok=>?_
 refine ⟨fun i m ys σ1 H1=>∃ ρ1 δ1 st1 ws,Mn K ρ0 H0 ρ1 H1∧Rl K ρ1 H1 st1∧Rs K ρ1 H1 σ1 δ1∧Rps K ρ1 H1 ys ws∧fCompGo S g c f m i ws δ1 st1=some (zs,st9),⟨fuel,ρ0,_,st0,[],.refl,l0,(rs.mn m0).comp n js,.nil,e9⟩,?_⟩
 rintro i m ys σ1 H1 ⟨ρ1,δ1,st1,ws,m1,l1,rs1,rw1,e1⟩
 cases m with
 | zero=>cases e1
 | succ m =>
  obtain ⟨hstop,hgo⟩:=ok ρ1 H1 st1 i m1 l1
  unfold fCompGo at e1
  split at e1
  ·next hl =>
   refine ⟨by rw [rw1.length];exact Xbg hl,?_⟩
   split at e1
   ·cases e1
   ·next hs =>
    cases e1
    exact .inl ⟨hstop hs,fun p hp=>q _ _ _ ((m0.trans m1).trans (Mn.new hp)) (l1.newL hp rw1) (.ref (newR l1))⟩
   ·next d hs =>
    obtain ⟨δ2,st2,e2,e1⟩:=Zab e1
    obtain ⟨t,st3,e3,e1⟩:=Zab e1
    obtain ⟨go,yld⟩:=hgo d hs
    refine .inr ⟨go,fun x H2 hy=>?_⟩
    obtain ⟨m2,l2,r2⟩:=yld x H2 hy
    refine hg ρ1 σ1 H2 δ1 st1 x d δ2 st2 _ l2 (rs1.mn m2) r2 e2 fun σ4 H4 ρ4 m4 l4 r4=>hc ρ4 σ4 H4 δ2 st2 t st3 _ l4 r4 e3 fun t' H5 ρ5 m5 l5 r5=>?_
    subst r5
    have m6:=(((m1.trans m2).trans m4).trans m5)
    cases t' with
    | true =>
     refine iteT ?_
     rw [if_pos rfl] at e1
     obtain ⟨y,st6,e6,e1⟩:=Zab e1
     exact hf ρ5 σ4 H5 δ2 st3 y st6 _ l5 (r4.mn m5) e6 fun v H7 ρ7 m7 l7 r7=>⟨m,Nat.lt_succ_self m,ρ7,δ2,st6,ws ++ [y],m6.trans m7,l7,r4.mn (m5.trans m7),(rw1.mn (((m2.trans m4).trans m5).trans m7)).append (.one r7),e1⟩
    | false =>
     refine iteF ?_
     rw [if_neg Bool.false_ne_true] at e1
     exact ⟨m,Nat.lt_succ_self m,ρ5,δ2,st3,ws,m6,l5,r4.mn m5,rw1.mn ((m2.trans m4).trans m5),e1⟩
  ·cases e1
noncomputable def fTrue:DSt→Dm Bool:=fun _ st=>some (true,st)
noncomputable def fnF (n:Nat) (b:DSt→Dm Fl):List D→Dm D:=fun ds st=>bnd (b (ds.map some ++ List.replicate (n - ds.length) none) st) fun fl st1=>match fl with
 | .rt d=>some (d,st1)
 | .nx _=>some (.non,st1)
 | _=>none
theorem Rs.start {ρ:List Addr} {H:Hp} {vs:List V} {ds:List D} (r:Rps K ρ H vs ds) (N:List Str):Rs K ρ H (start N vs) (ds.map some ++ List.replicate (N.length - ds.length) none):=by
 unfold L2.start
 rw [r.length]
 refine ⟨by simp [r.length],fun i d hd=>?_⟩
 by_cases hi:i < ds.length
 ·rw [List.getElem?_append_left (by simpa using hi),List.getElem?_map] at hd
  rw [List.getElem?_append_left (by rw [List.length_map,r.length];exact hi),List.getElem?_map]
  cases hx:ds[i]? with
  | none=>rw [hx] at hd;cases hd
  | some y =>
   rw [hx] at hd
   cases hd
   obtain ⟨v,hv,rv⟩:=r.got hx
   exact ⟨v,by rw [hv];rfl,rv⟩
 ·rw [List.getElem?_append_right (by simpa using Nat.le_of_not_lt hi),List.getElem?_replicate] at hd
  split at hd <;> cases hd
theorem Xaw {N:List Str} {k n:Nat} {t:TS} {b:DSt→Dm Fl} {vs:List V} {H:Hp} {Q:VK} {E:XK} (hb:SoS K t b) (hn:N.length=n) (h:spF K k (fnF n b) vs H Q E):t { nx:=fun _ H'=>Q .non H',rt:=Q } (start N vs) H:=by
 obtain ⟨hk,ρ,st,ds,d,st',l,r,e,q⟩:=h
 subst hn
 obtain ⟨fl,st1,e1,e⟩:=Zab e
 refine hb ρ _ H _ st fl st1 _ l (Rs.start r N) e1 ?_
 cases fl with
 | rt v=>cases e;exact q
 | nx δ=>cases e;exact fun σ' H' ρ' m l' r'=>q .non H' ρ' m l' .non
 | bk δ=>cases e
 | ct δ=>cases e
end
end L4
namespace L4
open PySem PySem.Spec L2
section
variable {X:Cx} {K:PySem.W.Frag}
theorem xa2:SoT K (fun _ H Q=>Q true H) fTrue:=by
 intro ρ σ H δ st b st' Q l rs e q
 cases e
 exact q _ H ρ .refl l rfl
end
noncomputable def spLaw (K:PySem.W.Frag):Sp:=fun vs H Q _=>∃ (a:Addr) (ns:List Int),vs=[.ref a]∧SqF K H a (ns.map V.int)∧ns.length≤63∧∀ H',Q (.bl true) H'
theorem law_of {P:Program} {w:World} {K:PySem.W.Frag} {mg:Str→Option Value} {base:Heap} {k:Nat} {f:Addr} {fd:FuncData} {ps:List Str} {F:List D→Dm D} (G:FnOk P w K mg base CX0 k f fd ps (spF K 1 F))
  (h:∀ ns:List Int,ns.length≤63→∃ st',F [.ref 0] [.fzn (ns.map D.int)]=some (.bl true,st')):FnOk P w K mg base CX0 k f fd ps (spLaw K):=by
 refine G.imp fun vs H Q E hs=>?_
 obtain ⟨a,ns,rfl,hS,hn,q⟩:=hs
 obtain ⟨st',e⟩:=h ns hn
 have one:∀ i (b:Addr),([a]:List Addr)[i]?=some b→i=0∧b=a:=fun i b h=>by
  cases i with
  | zero=>exact ⟨rfl,(Option.some.inj h).symm⟩
  | succ i=>simp at h
 refine ⟨rfl,[a],[.fzn (ns.map D.int)],[.ref 0],.bl true,st',⟨rfl,fun i j b o o' h1 h2 _ _ _ _=>by rw [(one i b h1).1,(one j b h2).1],fun i b o h1 h2=>?_⟩,.one (.ref rfl),e,fun v H' ρ' m l r=>by cases r;exact q H'⟩
 obtain ⟨rfl,rfl⟩:=one i b h1
 cases (Option.some.inj h2)
 exact ⟨ns.map V.int,hS,Rps.ints ns⟩
noncomputable def Wp {α:Type} (m:Option (α×Store)) (Q:α→Store→Prop):Prop:=∃ a st,m=some (a,st)∧Q a st
section
variable {α β:Type} {Q Q':α→Store→Prop} {st:Store} {δ:DSt}
theorem xab {m:Option (α×Store)} (h:Wp m Q) (hq:∀ a st,Q a st→Q' a st):Wp m Q':=let ⟨a,st,e,q⟩:=h;⟨a,st,e,hq a st q⟩
theorem Yaa {a:α}:Wp (some (a,st)) Q↔Q a st:=⟨fun ⟨_,_,e,q⟩=>by cases e;exact q,fun q=>⟨a,st,rfl,q⟩⟩
theorem Yac:Wp (none:Option (α×Store)) Q↔False:=⟨fun ⟨_,_,e,_⟩=>(by cases e),False.elim⟩
theorem yad {R:β→Store→Prop} {m:Option (α×Store)} {k:α→Dm β}:Wp (bnd m k) R↔Wp m fun a st1=>Wp (k a st1) R:=by
 cases m with
 | none=>exact ⟨fun ⟨_,_,e,_⟩=>(by cases e),fun ⟨_,_,e,_⟩=>(by cases e)⟩
 | some p=>exact ⟨fun h=>⟨p.1,p.2,rfl,h⟩,fun ⟨a,s,e,h⟩=>by cases e;exact h⟩
theorem zak {c:Prop} [Decidable c] {m n:Option (α×Store)}:Wp (if c then m else n) Q↔if c then Wp m Q else Wp n Q:=by split <;> exact Iff.rfl
end
section
variable {st:Store} {δ:DSt} {Q:D→Store→Prop}
theorem wp_var {i:Nat}:Wp (fVar i δ st) Q↔∃ d,δ[i]?=some (some d)∧Q d st:=by
 unfold fVar
 split
 ·next d hd=>rw [Yaa];exact ⟨fun h=>⟨d,hd,h⟩,fun ⟨e,he,h⟩=>by rw [hd] at he;cases he;exact h⟩
 ·next h=>rw [Yac];exact ⟨False.elim,fun ⟨e,he,_⟩=>h e he⟩
theorem wp_c {d:D}:Wp (fC d δ st) Q↔Q d st:=Yaa
theorem wp_op {g:D→D→Dm D} {fa fb:DSt→Dm D}:Wp (fOp g fa fb δ st) Q↔Wp (fa δ st) fun a st1=>Wp (fb δ st1) fun b st2=>Wp (g a b st2) Q:=by
 unfold fOp;rw [yad];simp only [yad]
theorem wp_un {g:D→Dm D} {fa:DSt→Dm D}:Wp (fUn g fa δ st) Q↔Wp (fa δ st) fun a st1=>Wp (g a st1) Q:=yad
theorem wp_cb {g:List D→Dm D} {fa:DSt→Dm (List D)}:Wp (fCB g fa δ st) Q↔Wp (fa δ st) fun a st1=>Wp (g a st1) Q:=yad
theorem wp_nil {R:List D→Store→Prop}:Wp (fNil δ st) R↔R [] st:=Yaa
theorem xbm {R:List D→Store→Prop} {fa:DSt→Dm D} {fr:DSt→Dm (List D)}:Wp (fCons fa fr δ st) R↔Wp (fa δ st) fun a st1=>Wp (fr δ st1) fun r st2=>R (a :: r) st2:=by
 unfold fCons;rw [yad];simp only [yad,Yaa]
theorem wp_tup {fa:DSt→Dm (List D)}:Wp (fTup fa δ st) Q↔Wp (fa δ st) fun as st1=>lim as.length=true∧Q (.tup as) st1:=by
 unfold fTup;rw [yad];simp only [zak,Yaa,Yac]
 constructor <;> exact fun h=>xab h fun a s h=>by first | (split at h;exact ⟨by assumption,h⟩;exact h.elim) | (rw [if_pos h.1];exact h.2)
theorem wp_lst {fa:DSt→Dm (List D)}:Wp (fLst fa δ st) Q↔Wp (fa δ st) fun as st1=>lim as.length=true∧Q (.ref st1.length) (st1 ++ [.lst as]):=by
 unfold fLst;rw [yad];simp only [zak,Yaa,Yac]
 constructor <;> exact fun h=>xab h fun a s h=>by first | (split at h;exact ⟨by assumption,h⟩;exact h.elim) | (rw [if_pos h.1];exact h.2)
theorem Xbm {R:Bool→Store→Prop} {fa:DSt→Dm D}:Wp (fTest fa δ st) R↔Wp (fa δ st) fun a st1=>∃ b,a=.bl b∧R b st1:=by
 unfold fTest;rw [yad]
 constructor <;> refine fun h=>xab h fun a s h=>?_
 ·cases a <;> simp only [Yaa,Yac] at h
  exact ⟨_,rfl,h⟩
 ·obtain ⟨b,rfl,h⟩:=h
  exact Yaa.mpr h
theorem wp_not {R:Bool→Store→Prop} {fa:DSt→Dm Bool}:Wp (fNot fa δ st) R↔Wp (fa δ st) fun a st1=>R (!a) st1:=by
 unfold fNot;rw [yad];simp only [Yaa]
theorem wp_and {R:Bool→Store→Prop} {fa fb:DSt→Dm Bool}:Wp (fAnd fa fb δ st) R↔Wp (fa δ st) fun a st1=>if a=true then Wp (fb δ st1) R else R false st1:=by
 unfold fAnd;rw [yad];simp only [zak,Yaa]
theorem wp_or {R:Bool→Store→Prop} {fa fb:DSt→Dm Bool}:Wp (fOr fa fb δ st) R↔Wp (fa δ st) fun a st1=>if a=true then R true st1 else Wp (fb δ st1) R:=by
 unfold fOr;rw [yad];simp only [zak,Yaa]
theorem wp_if {α:Type} {R:α→Store→Prop} {c:DSt→Dm Bool} {fa fb:DSt→Dm α}:Wp (fIf c fa fb δ st) R↔Wp (c δ st) fun a st1=>if a=true then Wp (fa δ st1) R else Wp (fb δ st1) R:=by
 unfold fIf;rw [yad];simp only [zak]
theorem zbn {fa fb:DSt→Dm D}:Wp (fAndV fa fb δ st) Q↔Wp (fTest fa δ st) fun a st1=>if a=true then Wp (fb δ st1) Q else Q (.bl false) st1:=by
 unfold fAndV;rw [yad];simp only [zak,Yaa]
theorem wp_orV {fa fb:DSt→Dm D}:Wp (fOrV fa fb δ st) Q↔Wp (fTest fa δ st) fun a st1=>if a=true then Q (.bl true) st1 else Wp (fb δ st1) Q:=by
 unfold fOrV;rw [yad];simp only [zak,Yaa]
theorem ybn {fa:DSt→Dm D}:Wp (fNotV fa δ st) Q↔Wp (fTest fa δ st) fun a st1=>Q (.bl (!a)) st1:=by
 unfold fNotV;rw [yad];simp only [Yaa]
theorem Xa2 {R:Option Int→Store→Prop}:Wp (fNoPart δ st) R↔R none st:=Yaa
theorem Zbn {R:Option Int→Store→Prop} {fa:DSt→Dm D}:Wp (fPart fa δ st) R↔Wp (fa δ st) fun a st1=>∃ i,a=.int i∧R (some i) st1:=by
 unfold fPart;rw [yad]
 constructor <;> refine fun h=>xab h fun a s h=>?_
 ·cases a <;> simp only [Yaa,Yac] at h
  exact ⟨_,rfl,h⟩
 ·obtain ⟨b,rfl,h⟩:=h
  exact Yaa.mpr h
theorem wp_sl {g:D→Option Int→Option Int→Dm D} {fa:DSt→Dm D} {fl fh:DSt→Dm (Option Int)}:Wp (fSl g fa fl fh δ st) Q↔Wp (fa δ st) fun a st1=>Wp (fl δ st1) fun lo st2=>Wp (fh δ st2) fun hi st3=>Wp (g a lo hi st3) Q:=by
 unfold fSl;rw [yad];simp only [yad]
theorem wp_bm {T:String} {g:D→List D→Dm D} {fo:DSt→Dm D} {fa:DSt→Dm (List D)}:Wp (fBM T g fo fa δ st) Q↔Wp (fo δ st) fun o st1=>tyD T st1 o=true∧Wp (fa δ st1) fun as st2=>Wp (g o as st2) Q:=by
 unfold fBM;rw [yad];simp only [zak,yad,Yac]
 constructor <;> exact fun h=>xab h fun a s h=>by first | (split at h;exact ⟨by assumption,h⟩;exact h.elim) | (rw [if_pos h.1];exact h.2)
variable {i j:Int} {ds es:List D} {k:Nat}
theorem wp_add:Wp (gAdd (.int i) (.int j) st) Q↔Q (.int (i + j)) st:=Yaa
theorem wp_sub:Wp (gSub (.int i) (.int j) st) Q↔Q (.int (i - j)) st:=Yaa
theorem wp_lt:Wp (gLt (.int i) (.int j) st) Q↔Q (.bl (decide (i < j))) st:=Yaa
theorem wp_le:Wp (gLe (.int i) (.int j) st) Q↔Q (.bl (decide (i≤j))) st:=Yaa
theorem wp_gt:Wp (gGt (.int i) (.int j) st) Q↔Q (.bl (decide (j < i))) st:=Yaa
theorem wp_ge:Wp (gGe (.int i) (.int j) st) Q↔Q (.bl (decide (j≤i))) st:=Yaa
theorem wp_neg:Wp (gNeg (.int i) st) Q↔Q (.int (-i)) st:=Yaa
theorem XaT {c:Int→Int→Bool} {h:Int→Int→D}:Wp (gIC c h (.int i) (.int j) st) Q↔c i j=true∧Q (h i j) st:=by
 show Wp (if c i j=true then some (h i j,st) else none) Q↔_
 rw [zak,Yaa,Yac]
 split
 ·next h=>exact ⟨fun q=>⟨h,q⟩,fun q=>q.2⟩
 ·next h=>exact ⟨False.elim,fun q=>h q.1⟩
theorem wp_mul:Wp (gMul (.int i) (.int j) st) Q↔((-18446744073709551616 < i∧i < 18446744073709551616)∨(-18446744073709551616 < j∧j < 18446744073709551616))∧Q (.int (i * j)) st:=by
 unfold gMul;rw [XaT,Bool.or_eq_true,decide_eq_true_eq,decide_eq_true_eq]
theorem Ybn:Wp (gFdiv (.int i) (.int j) st) Q↔(0 < j∧j < 1073741824)∧Q (.int (i / j)) st:=by unfold gFdiv;rw [XaT,decide_eq_true_eq]
theorem wp_mod:Wp (gMod (.int i) (.int j) st) Q↔0 < j∧Q (.int (i % j)) st:=by unfold gMod;rw [XaT,decide_eq_true_eq]
theorem wp_pow:Wp (gPow (.int i) (.int j) st) Q↔(0≤j∧j≤1000000∧i.natAbs < 18446744073709551616)∧Q (.int (i ^ j.toNat)) st:=by unfold gPow;rw [XaT,decide_eq_true_eq]
theorem wp_eqI {neg:Bool}:Wp (gEq neg (.int i) (.int j) st) Q↔Q (.bl (if neg then !decide (i=j) else decide (i=j))) st:=by
 have e:decide (V.int i=V.int j)=decide (i=j):=by
  by_cases h:i=j
  ·subst h;simp
  ·simp [h]
 show Wp (if scal (V.int i) (V.int j)=true then some (D.bl (if neg then !decide (V.int i=V.int j) else decide (V.int i=V.int j)),st) else none) Q↔_
 rw [if_pos (show scal _ _=true from rfl),Yaa,e]
theorem wp_eqS {neg:Bool} {x y:Str}:Wp (gEq neg (.str x) (.str y) st) Q↔Q (.bl (if neg then !decide (x=y) else decide (x=y))) st:=by
 have e:decide (V.str x=V.str y)=decide (x=y):=by
  by_cases h:x=y
  ·subst h;simp
  ·simp [h]
 show Wp (if scal (V.str x) (V.str y)=true then some (D.bl (if neg then !decide (V.str x=V.str y) else decide (V.str x=V.str y)),st) else none) Q↔_
 rw [if_pos (show scal _ _=true from rfl),Yaa,e]
theorem wp_ixT:Wp (gIxT (.tup ds) (.int i) st) Q↔∃ d,atI ds i=some d∧Q d st:=by
 show Wp (match atI ds i with | some d=>some (d,st) | none=>none) Q↔_
 cases atI ds i with
 | none=>rw [Yac];exact ⟨False.elim,fun ⟨_,e,_⟩=>by cases e⟩
 | some d=>rw [Yaa];exact ⟨fun q=>⟨d,rfl,q⟩,fun ⟨_,e,q⟩=>by cases e;exact q⟩
theorem wp_ixL:Wp (gIxL (.ref k) (.int i) st) Q↔∃ ds d,items st k=some ds∧atI ds i=some d∧Q d st:=by
 show Wp (match items st k with | some ds=>(match atI ds i with | some d=>some (d,st) | none=>none) | none=>none) Q↔_
 cases items st k with
 | none=>rw [Yac];exact ⟨False.elim,fun ⟨_,_,e,_⟩=>by cases e⟩
 | some ds =>
  show Wp (match atI ds i with | some d=>some (d,st) | none=>none) Q↔_
  cases h:atI ds i with
  | none=>rw [Yac];exact ⟨False.elim,fun ⟨_,_,e,e',_⟩=>by cases e;rw [h] at e';cases e'⟩
  | some d=>rw [Yaa];exact ⟨fun q=>⟨ds,d,rfl,h,q⟩,fun ⟨_,_,e,e',q⟩=>by cases e;rw [h] at e';cases e';exact q⟩
theorem wp_slT {lo hi:Option Int}:Wp (gSlT (.tup ds) lo hi st) Q↔Q (.tup (cutD ds lo hi)) st:=Yaa
theorem wp_slL {lo hi:Option Int}:Wp (gSlL (.ref k) lo hi st) Q↔∃ ds,items st k=some ds∧Q (.ref st.length) (st ++ [.lst (cutD ds lo hi)]):=by
 show Wp (match items st k with | some ds=>some (D.ref st.length,st ++ [O.lst (cutD ds lo hi)]) | none=>none) Q↔_
 cases items st k with
 | none=>rw [Yac];exact ⟨False.elim,fun ⟨_,e,_⟩=>by cases e⟩
 | some ds=>rw [Yaa];exact ⟨fun q=>⟨ds,rfl,q⟩,fun ⟨_,e,q⟩=>by cases e;exact q⟩
theorem xbn:Wp (gCatT (.tup ds) (.tup es) st) Q↔lim (ds.length + es.length)=true∧Q (.tup (ds ++ es)) st:=by
 show Wp (if lim (ds.length + es.length)=true then some (D.tup (ds ++ es),st) else none) Q↔_
 rw [zak,Yaa,Yac]
 split
 ·next h=>exact ⟨fun q=>⟨h,q⟩,fun q=>q.2⟩
 ·next h=>exact ⟨False.elim,fun q=>h q.1⟩
theorem wp_cat {a b:Nat}:Wp (gCat (.ref a) (.ref b) st) Q↔∃ xs ys,own st a=some xs∧own st b=some ys∧lim (xs.length + ys.length)=true∧Q (.ref st.length) (st ++ [.lst (xs ++ ys)]):=by
 show Wp (match own st a,own st b with | some xs,some ys=>if lim (xs.length + ys.length)=true then some (D.ref st.length,st ++ [O.lst (xs ++ ys)]) else none | _,_=>none) Q↔_
 cases ha:own st a <;> cases hb:own st b
 ·simp only [Yac];exact ⟨False.elim,fun ⟨_,_,e,_⟩=>by cases e⟩
 ·simp only [Yac];exact ⟨False.elim,fun ⟨_,_,e,_⟩=>by cases e⟩
 ·simp only [Yac];exact ⟨False.elim,fun ⟨_,_,_,e,_⟩=>by cases e⟩
 ·next xs ys =>
  show Wp (if lim (xs.length + ys.length)=true then some (D.ref st.length,st ++ [O.lst (xs ++ ys)]) else none) Q↔_
  rw [zak,Yaa,Yac]
  split
  ·next h=>exact ⟨fun q=>⟨_,_,rfl,rfl,h,q⟩,fun ⟨_,_,e,e',_,q⟩=>by cases e;cases e';exact q⟩
  ·next h=>exact ⟨False.elim,fun ⟨_,_,e,e',q,_⟩=>by cases e;cases e';exact h q⟩
theorem wp_len {a:D}:Wp (gLen [a] st) Q↔∃ ds,seqOf st a=some ds∧Q (.int ds.length) st:=by
 show Wp (match seqOf st a with | some ds=>some (D.int ds.length,st) | none=>none) Q↔_
 cases seqOf st a with
 | none=>rw [Yac];exact ⟨False.elim,fun ⟨_,e,_⟩=>by cases e⟩
 | some ds=>rw [Yaa];exact ⟨fun q=>⟨ds,rfl,q⟩,fun ⟨_,e,q⟩=>by cases e;exact q⟩
theorem Xbn {a:D}:Wp (gList [a] st) Q↔∃ ds,seqOf st a=some ds∧Q (.ref st.length) (st ++ [.lst ds]):=by
 show Wp (match seqOf st a with | some ds=>some (D.ref st.length,st ++ [O.lst ds]) | none=>none) Q↔_
 cases seqOf st a with
 | none=>rw [Yac];exact ⟨False.elim,fun ⟨_,e,_⟩=>by cases e⟩
 | some ds=>rw [Yaa];exact ⟨fun q=>⟨ds,rfl,q⟩,fun ⟨_,e,q⟩=>by cases e;exact q⟩
theorem Zba {a:D}:Wp (gTuple [a] st) Q↔∃ ds,seqOf st a=some ds∧Q (.tup ds) st:=by
 show Wp (match seqOf st a with | some ds=>some (D.tup ds,st) | none=>none) Q↔_
 cases seqOf st a with
 | none=>rw [Yac];exact ⟨False.elim,fun ⟨_,e,_⟩=>by cases e⟩
 | some ds=>rw [Yaa];exact ⟨fun q=>⟨ds,rfl,q⟩,fun ⟨_,e,q⟩=>by cases e;exact q⟩
theorem zbo:Wp (gMax2 [.int i,.int j] st) Q↔Q (.int (if j > i then j else i)) st:=Yaa
theorem ybo:Wp (gMin2 [.int i,.int j] st) Q↔Q (.int (if j < i then j else i)) st:=Yaa
theorem Zbo:Wp (gInt1 [.int i] st) Q↔Q (.int i) st:=Yaa
theorem Yba {b:Bool}:Wp (gInt1 [.bl b] st) Q↔Q (.int (if b then 1 else 0)) st:=Yaa
theorem za3:Wp (gRange1 [.int j] st) Q↔Q (.ref st.length) (st ++ [.rng 0 j]):=Yaa
theorem ya3:Wp (gRange2 [.int i,.int j] st) Q↔Q (.ref st.length) (st ++ [.rng i j]):=Yaa
theorem Za3 {y:D}:Wp (gAppend (.ref k) [y] st) Q↔∃ xs,own st k=some xs∧lim xs.length=true∧Q .non (st.set k (.lst (xs ++ [y]))):=by
 show Wp (match own st k with | some xs=>if lim xs.length=true then some (D.non,st.set k (O.lst (xs ++ [y]))) else none | none=>none) Q↔_
 cases own st k with
 | none=>rw [Yac];exact ⟨False.elim,fun ⟨_,e,_⟩=>by cases e⟩
 | some xs =>
  show Wp (if lim xs.length=true then some (D.non,st.set k (O.lst (xs ++ [y]))) else none) Q↔_
  rw [zak,Yaa,Yac]
  split
  ·next h=>exact ⟨fun q=>⟨_,rfl,h,q⟩,fun ⟨_,e,_,q⟩=>by cases e;exact q⟩
  ·next h=>exact ⟨False.elim,fun ⟨_,e,q,_⟩=>by cases e;exact h q⟩
end
noncomputable def Ws (m:Option (Fl×Store)) (N B C:DSt→Store→Prop) (R:D→Store→Prop):Prop:=Wp m fun fl st=>match fl with
 | .nx δ=>N δ st
 | .bk δ=>B δ st
 | .ct δ=>C δ st
 | .rt d=>R d st
section
variable {st:Store} {δ:DSt} {N B C:DSt→Store→Prop} {R:D→Store→Prop} {f g:DSt→Dm Fl} {e:DSt→Dm D}
theorem Ya3 {m:Option (Fl×Store)} {N':DSt→Store→Prop} (h:Ws m N B C R) (hn:∀ δ st,N δ st→N' δ st):Ws m N' B C R:=xab h fun fl st q=>by
 cases fl with
 | nx δ=>exact hn δ st q
 | bk δ=>exact q
 | ct δ=>exact q
 | rt d=>exact q
theorem xac (h:Ws (f δ st) (fun δ1 st1=>Ws (g δ1 st1) N B C R) B C R):Ws (fSeq f g δ st) N B C R:=by
 unfold Ws fSeq
 rw [yad]
 refine xab h fun fl st1 q=>?_
 cases fl with
 | nx δ1=>exact q
 | bk δ1=>exact Yaa.mpr q
 | ct δ1=>exact Yaa.mpr q
 | rt d=>exact Yaa.mpr q
theorem yal (h:N δ st):Ws (fNext δ st) N B C R:=Yaa.mpr h
theorem zaL {t:D→DSt→Dm DSt} (h:Wp (e δ st) fun d st1=>Wp (t d δ st1) N):Ws (fAsg e t δ st) N B C R:=by
 unfold Ws fAsg
 rw [yad]
 refine xab h fun d st1 q=>?_
 rw [yad]
 exact xab q fun δ1 st2 q=>Yaa.mpr q
theorem Yae {i:Nat} (h:Wp (e δ st) fun d st1=>N (δ.set i (some d)) st1):Ws (fAsg e (hName i) δ st) N B C R:=zaL (xab h fun d st1 q=>Yaa.mpr q)
theorem xa3 (h:Wp (e δ st) fun _ st1=>N δ st1):Ws (fDrop e δ st) N B C R:=by
 unfold Ws fDrop
 rw [yad]
 exact xab h fun d st1 q=>Yaa.mpr q
theorem Xah (h:Wp (e δ st) R):Ws (fRet e δ st) N B C R:=by
 unfold Ws fRet
 rw [yad]
 exact xab h fun d st1 q=>Yaa.mpr q
theorem Zau {c:DSt→Dm Bool} (h:Wp (c δ st) fun b st1=>(b=true→Ws (f δ st1) N B C R)∧(b=false→Ws (g δ st1) N B C R)):Ws (fIf c f g δ st) N B C R:=by
 unfold Ws
 rw [wp_if]
 refine xab h fun b st1 q=>?_
 cases b with
 | true=>rw [if_pos rfl];exact q.1 rfl
 | false=>rw [if_neg Bool.false_ne_true];exact q.2 rfl
theorem Xbh {i j:Nat} {fa:DSt→Dm (List D)} (h:Wp (fa δ st) fun as st1=>∃ a b,as=[a,b]∧N ((δ.set i (some a)).set j (some b)) st1):Ws (fPar i j fa δ st) N B C R:=by
 unfold Ws fPar
 rw [yad]
 refine xab h fun as st1 q=>?_
 obtain ⟨a,b,rfl,q⟩:=q
 exact Yaa.mpr q
theorem Yau {n:Nat} {b:DSt→Dm Fl} {ds:List D} (h:Ws (b (ds.map some ++ List.replicate (n - ds.length) none) st) (fun _ st1=>R .non st1) (fun _ _=>False) (fun _ _=>False) R):Wp (fnF n b ds st) R:=by
 unfold fnF
 rw [yad]
 refine xab h fun fl st1 q=>?_
 cases fl with
 | nx δ1=>exact Yaa.mpr q
 | bk δ1=>exact q.elim
 | ct δ1=>exact q.elim
 | rt d=>exact Yaa.mpr q
theorem zaH {c:DSt→Dm Bool} {b:DSt→Dm Fl} (W:Nat→DSt→Store→Prop) (m:Nat) (hm:m < fuel) (h0:W m δ st)
  (step:∀ m δ st,W m δ st→Wp (c δ st) fun t st1=>(t=true→Ws (b δ st1) (fun δ2 st2=>∃ m',m' < m∧W m' δ2 st2) N (fun δ2 st2=>∃ m',m' < m∧W m' δ2 st2) R)∧(t=false→N δ st1)):Ws (fWhile c b δ st) N B C R:=by
 have key:∀ (k m:Nat) (δ:DSt) (st:Store),m < k→W m δ st→Ws (fWhileGo c b k δ st) N B C R:=by
  intro k
  induction k with
  | zero=>intro m δ st h;exact absurd h (Nat.not_lt_zero _)
  | succ k ih =>
   intro m δ st hk hw
   unfold Ws fWhileGo
   rw [yad]
   refine xab (step m δ st hw) fun t st1 q=>?_
   cases t with
   | false=>rw [if_neg Bool.false_ne_true];exact Yaa.mpr (q.2 rfl)
   | true =>
    rw [if_pos rfl,yad]
    refine xab (q.1 rfl) fun fl st2 q=>?_
    cases fl with
    | nx δ2=>obtain ⟨m',hm',w⟩:=q;exact ih m' δ2 st2 (by omega) w
    | ct δ2=>obtain ⟨m',hm',w⟩:=q;exact ih m' δ2 st2 (by omega) w
    | bk δ2=>exact Yaa.mpr q
    | rt d=>exact Yaa.mpr q
 exact key fuel m δ st hm h0
theorem Xa3 {fi:DSt→Dm Src} {t:D→DSt→Dm DSt} {b:DSt→Dm Fl} (ds:List D) (Pv:Nat→DSt→Store→Prop) (hi:Wp (fi δ st) fun S st1=>S=.fix ds∧Pv 0 δ st1) (hl:ds.length < 100000)
  (step:∀ i d δ st,ds[i]?=some d→Pv i δ st→Wp (t d δ st) fun δ1 st1=>Ws (b δ1 st1) (Pv (i + 1)) N (Pv (i + 1)) R) (fin:∀ δ st,Pv ds.length δ st→N δ st):Ws (fFor fi t b δ st) N B C R:=by
 unfold Ws fFor
 rw [yad]
 refine xab hi fun S st0 q=>?_
 obtain ⟨rfl,h0⟩:=q
 have key:∀ (k i:Nat) (δ:DSt) (st:Store),i≤ds.length→ds.length - i < k→Pv i δ st→Ws (fForGo (.fix ds) t b k i δ st) N B C R:=by
  intro k
  induction k with
  | zero=>intro i δ st _ h;exact absurd h (Nat.not_lt_zero _)
  | succ k ih =>
   intro i δ st hi hk hw
   unfold Ws fForGo
   have e:Src.at (.fix ds) i st=some ds[i]?:=by show (if i≤ds.length then some ds[i]? else none)=_;rw [if_pos hi]
   rw [e]
   cases hd:ds[i]? with
   | none =>
    have:=List.getElem?_eq_none_iff.mp hd
    have e:i=ds.length:=by omega
    exact Yaa.mpr (fin δ st (e ▸ hw))
   | some d =>
    have hlt:=(List.getElem?_eq_some_iff.mp hd).1
    show Wp (bnd _ _) _
    rw [yad]
    refine xab (step i d δ st hd hw) fun δ1 st1 q=>?_
    rw [yad]
    refine xab q fun fl st2 q=>?_
    cases fl with
    | nx δ2=>exact ih (i + 1) δ2 st2 (by omega) (by omega) q
    | ct δ2=>exact ih (i + 1) δ2 st2 (by omega) (by omega) q
    | bk δ2=>exact Yaa.mpr q
    | rt d=>exact Yaa.mpr q
 exact key fuel 0 δ st0 (Nat.zero_le _) (Nat.lt_trans (by omega) (show 100000 < fuel by decide)) h0
theorem za4 {fi:DSt→Dm Src} {n:Nat} {js:List Nat} {t:D→DSt→Dm DSt} {c:DSt→Dm Bool} {f:DSt→Dm D} {Q:D→Store→Prop} (ds:List D) (Pv:Nat→List D→DSt→Store→Prop)
  (hi:Wp (fi δ st) fun S st1=>(∀ i ys δ st,i≤ds.length→Pv i ys δ st→S.at i st=some ds[i]?)∧Pv 0 [] (compD n js δ) st1) (hl:ds.length < 100000) (hy:∀ i ys δ st,Pv i ys δ st→ys.length≤i)
  (step:∀ i d ys δ st,ds[i]?=some d→Pv i ys δ st→Wp (t d δ st) fun δ1 st1=>Wp (c δ1 st1) fun b st2=>(b=true→Wp (f δ1 st2) fun y st3=>Pv (i + 1) (ys ++ [y]) δ1 st3)∧(b=false→Pv (i + 1) ys δ1 st2))
  (fin:∀ ys δ st,Pv ds.length ys δ st→Q (.ref st.length) (st ++ [.lst ys])):Wp (fComp fi n js t c f δ st) Q:=by
 unfold fComp
 rw [yad]
 refine xab hi fun S st0 q=>?_
 obtain ⟨hS,h0⟩:=q
 have key:∀ (k i:Nat) (ys:List D) (δ:DSt) (st:Store),i≤ds.length→ds.length - i < k→Pv i ys δ st→Wp (fCompGo S t c f k i ys δ st) fun zs st9=>∃ δ9,Pv ds.length zs δ9 st9:=by
  intro k
  induction k with
  | zero=>intro i ys δ st _ h;exact absurd h (Nat.not_lt_zero _)
  | succ k ih =>
   intro i ys δ st hi hk' hw
   unfold fCompGo
   have hlim:lim ys.length=true:=Nat.ble_eq_true_of_le (by have:=hy i ys δ st hw;omega)
   rw [if_pos hlim,hS i ys δ st hi hw]
   cases hd:ds[i]? with
   | none =>
    have:=List.getElem?_eq_none_iff.mp hd
    have e:i=ds.length:=by omega
    exact Yaa.mpr ⟨δ,e ▸ hw⟩
   | some d =>
    have hlt:=(List.getElem?_eq_some_iff.mp hd).1
    show Wp (bnd _ _) _
    rw [yad]
    refine xab (step i d ys δ st hd hw) fun δ1 st1 q=>?_
    rw [yad]
    refine xab q fun b st2 q=>?_
    cases b with
    | true =>
     rw [if_pos rfl,yad]
     exact xab (q.1 rfl) fun y st3 q=>ih (i + 1) _ δ1 st3 (by omega) (by omega) q
    | false =>
     rw [if_neg Bool.false_ne_true]
     exact ih (i + 1) ys δ1 st2 (by omega) (by omega) (q.2 rfl)
 rw [yad]
 exact xab (key fuel 0 [] _ st0 (Nat.zero_le _) (Nat.lt_trans (by omega) (show 100000 < fuel by decide)) h0) fun zs st9 ⟨δ9,q⟩=>Yaa.mpr (fin zs δ9 st9 q)
end
end L4
namespace L4
open PySem PySem.Spec L2
noncomputable def keyOf:D→Option Key
 | .int i=>some (.inl i)
 | .str x=>some (.inr x)
 | _=>none
noncomputable def dctOf (st:Store):D→Option (List (Key×D))
 | .ref i=>match st[i]? with
  | some (.dct kvs)=>some kvs
  | _=>none
 | _=>none
noncomputable def valD (kvs:List (Key×D)) (k:Key):Option D:=(kvs.find? fun kv=>decide (kv.1=k)).map (·.2)
noncomputable def putD (kvs:List (Key×D)) (k:Key) (v:D):List (Key×D) :=
 if (kvs.any fun kv=>decide (kv.1=k))=true then kvs.map (fun kv=>if kv.1=k then (kv.1,v) else kv) else kvs ++ [(k,v)]
section
variable {K:PySem.W.Frag} {ρ:List Addr} {H:Hp} {st:Store}
end
section
variable {K:PySem.W.Frag}
noncomputable def fDNew:DSt→Dm D:=fun _ st=>some (.ref st.length,st ++ [.dct []])
noncomputable def fDGet (fd fy:DSt→Dm D):DSt→Dm D:=fun δ st=>bnd (fd δ st) fun x st1=>bnd (fy δ st1) fun y st2=>match dctOf st2 x,keyOf y with
 | some kvs,some k=>match valD kvs k with
  | some v=>some (v,st2)
  | none=>none
 | _,_=>none
noncomputable def fDIn (neg:Bool) (fy fd:DSt→Dm D):DSt→Dm D:=fun δ st=>bnd (fy δ st) fun y st1=>bnd (fd δ st1) fun x st2=>match dctOf st2 x,keyOf y with
 | some kvs,some k=>some (.bl (if neg then !(valD kvs k).isSome else (valD kvs k).isSome),st2)
 | _,_=>none
noncomputable def fPNil:DSt→Dm (List (D×D)):=fun _ st=>some ([],st)
noncomputable def fPCons (fk fv:DSt→Dm D) (fr:DSt→Dm (List (D×D))):DSt→Dm (List (D×D)):=fun δ st=>bnd (fk δ st) fun k st1=>bnd (fv δ st1) fun v st2=>bnd (fr δ st2) fun r st3=>some ((k,v) :: r,st3)
noncomputable def keysOf:List (D×D)→Option (List (Key×D))
 | []=>some []
 | (k,v) :: r=>match keyOf k,keysOf r with
  | some k',some r'=>some ((k',v) :: r')
  | _,_=>none
noncomputable def mergeD (kvs more:List (Key×D)):List (Key×D):=more.foldl (fun acc kv=>putD acc kv.1 kv.2) kvs
noncomputable def fDisp (fp:DSt→Dm (List (D×D))):DSt→Dm D:=fun δ st=>bnd (fp δ (st ++ [.dct []])) fun ps st2=>match st2[st.length]?,keysOf ps with
 | some (.dct []),some kvs=>if kvs.length≤15 then some (.ref st.length,st2.set st.length (.dct (mergeD [] kvs))) else none
 | _,_=>none
end
section
variable {st:Store} {δ:DSt} {Q:D→Store→Prop}
theorem Ybo:Wp (fDNew δ st) Q↔Q (.ref st.length) (st ++ [.dct []]):=Yaa
theorem xbo {fd fy:DSt→Dm D}:Wp (fDGet fd fy δ st) Q↔Wp (fd δ st) fun x st1=>Wp (fy δ st1) fun y st2=>∃ kvs k v,dctOf st2 x=some kvs∧keyOf y=some k∧valD kvs k=some v∧Q v st2:=by
 unfold fDGet;rw [yad];simp only [yad]
 constructor <;> refine fun h=>xab h fun x s h=>xab h fun y s2 h=>?_
 ·split at h
  ·next kvs k h1 h2 =>
   split at h
   ·next v h3=>exact ⟨kvs,k,v,by assumption,by assumption,h3,Yaa.mp h⟩
   ·exact (Yac.mp h).elim
  ·exact (Yac.mp h).elim
 ·obtain ⟨kvs,k,v,h1,h2,h3,h⟩:=h
  rw [h1,h2]
  simp only [h3]
  exact Yaa.mpr h
theorem wp_din {neg:Bool} {fd fy:DSt→Dm D}:Wp (fDIn neg fy fd δ st) Q↔Wp (fy δ st) fun y st1=>Wp (fd δ st1) fun x st2=>∃ kvs k,dctOf st2 x=some kvs∧keyOf y=some k∧Q (.bl (if neg then !(valD kvs k).isSome else (valD kvs k).isSome)) st2:=by
 unfold fDIn;rw [yad];simp only [yad]
 constructor <;> refine fun h=>xab h fun x s h=>xab h fun y s2 h=>?_
 ·split at h
  ·next kvs k h1 h2=>exact ⟨kvs,k,by assumption,by assumption,Yaa.mp h⟩
  ·exact (Yac.mp h).elim
 ·obtain ⟨kvs,k,h1,h2,h⟩:=h
  rw [h1,h2]
  exact Yaa.mpr h
theorem Xbo {R:List (D×D)→Store→Prop}:Wp (fPNil δ st) R↔R [] st:=Yaa
theorem xba {fk fv:DSt→Dm D} {fr:DSt→Dm (List (D×D))} {R:List (D×D)→Store→Prop}:Wp (fPCons fk fv fr δ st) R↔Wp (fk δ st) fun k st1=>Wp (fv δ st1) fun v st2=>Wp (fr δ st2) fun r st3=>R ((k,v) :: r) st3:=by
 unfold fPCons;rw [yad];simp only [yad,Yaa]
theorem zbp {fp:DSt→Dm (List (D×D))}:Wp (fDisp fp δ st) Q↔Wp (fp δ (st ++ [.dct []])) fun ps st2=>st2[st.length]?=some (.dct [])∧∃ kvs,keysOf ps=some kvs∧kvs.length≤15∧Q (.ref st.length) (st2.set st.length (.dct (mergeD [] kvs))):=by
 unfold fDisp;rw [yad]
 constructor <;> refine fun h=>xab h fun ps s h=>?_
 ·split at h
  ·next kvs h1 h2 =>
   rw [zak,Yaa,Yac] at h
   split at h
   ·next hl=>exact ⟨by assumption,kvs,by assumption,hl,h⟩
   ·exact h.elim
  ·exact (Yac.mp h).elim
 ·obtain ⟨h1,kvs,h2,h3,h⟩:=h
  rw [h1,h2]
  simp only [if_pos h3]
  exact Yaa.mpr h
end
end L4
namespace L4
open PySem PySem.Spec L2
structure Ex (c:List Nat) (st st':Store):Prop where
 len:st.length≤st'.length
 keep:∀ (i:Nat) (o:O),st[i]?=some o→i ∉ c→st'[i]?=some o
section
variable {c c':List Nat} {st st1 st2:Store} {i:Nat} {o:O} {ds:List D}
theorem Ex.refl:Ex c st st:=⟨Nat.le_refl _,fun _ _ h _=>h⟩
theorem Ex.trans (a:Ex c st st1) (b:Ex c st1 st2):Ex c st st2:=⟨Nat.le_trans a.len b.len,fun i o h n=>b.keep i o (a.keep i o h n) n⟩
theorem Ex.mono (a:Ex c st st1) (h:∀ x∈c,x∈c'):Ex c' st st1:=⟨a.len,fun i o e n=>a.keep i o e fun z=>n (h i z)⟩
theorem Zai {α:Type} {l:List α} {i:Nat} {o:α} (h:l[i]?=some o):i < l.length:=(List.getElem?_eq_some_iff.mp h).1
theorem xau {l m:List O} (h:l[i]?=some o):(l ++ m)[i]?=some o:=by rw [List.getElem?_append_left (Zai h)];exact h
theorem Zaj {l:List O}:(l ++ [o])[l.length]?=some o:=by rw [List.getElem?_append_right (Nat.le_refl _),Nat.sub_self];rfl
theorem Ex.app (a:Ex c st st1) (m:List O):Ex c st (st1 ++ m):=⟨by rw [List.length_append];exact Nat.le_trans a.len (Nat.le_add_right _ _),fun i o h n=>xau (a.keep i o h n)⟩
theorem Ex.app0 (m:List O):Ex c st (st ++ m):=Ex.refl.app m
theorem Ex.put (a:Ex c st st1) (h:i∈c):Ex c st (st1.set i o):=⟨by rw [List.length_set];exact a.len,fun j u e n=>by rw [List.getElem?_set_ne (fun z=>n (by rw [← z];exact h))];exact a.keep j u e n⟩
theorem Ex.loc (a:Ex c st st1) (h:st.length≤i):Ex c st (st1.set i o):=⟨by rw [List.length_set];exact a.len,fun j u e n=>by rw [List.getElem?_set_ne (by have:=Zai e;omega)];exact a.keep j u e n⟩
theorem yag (h:st[i]?=some (.lst ds)):items st i=some ds:=by unfold items;rw [h]
theorem ya4 (h:st[i]?=some (.fzn ds)):items st i=some ds:=by unfold items;rw [h]
theorem Zas (h:st[i]?=some (.lst ds)):own st i=some ds:=by unfold own;rw [h]
theorem zaB:items (st ++ [.lst ds]) st.length=some ds:=yag Zaj
theorem Za4:own (st ++ [.lst ds]) st.length=some ds:=Zas Zaj
theorem zaU {o':O}:items (st ++ [.lst ds] ++ [o']) st.length=some ds:=yag (xau Zaj)
theorem Xba {o':O}:own (st ++ [.lst ds] ++ [o']) st.length=some ds:=Zas (xau Zaj)
theorem yaU {o' o2:O}:items (st ++ [.lst ds] ++ [o'] ++ [o2]) st.length=some ds:=yag (xau (xau Zaj))
theorem zbb {o' o2:O}:own (st ++ [.lst ds] ++ [o'] ++ [o2]) st.length=some ds:=Zas (xau (xau Zaj))
theorem Ya4 {lo hi:Int}:rngOf (st ++ [.rng lo hi]) (.ref st.length)=some (lo,hi):=by simp only [rngOf,Zaj]
theorem ybp:seqOf st (.tup ds)=some ds:=rfl
theorem Zbp:seqOf st (.ref i)=items st i:=rfl
theorem ZaR (h:(items st i).isSome=true):tyD "list" st (.ref i)=true:=by simp only [tyD,h];rfl
theorem yaB {n:Nat} (h:n≤100000):lim n=true:=Nat.ble_eq_true_of_le h
end
section
variable {st:Store} {Q:D→Store→Prop} {i j:Int} {k:Nat} {ds es:List D}
theorem ybb {a:D}:Wp (gListR [a] st) Q↔∃ p,rngOf st a=some p∧okR p.1 p.2=true∧Q (.ref st.length) (st ++ [.lst (rangeD p.1 (p.2 - p.1).toNat)]):=by
 show Wp (match rngOf st a with | some (lo,hi)=>if okR lo hi=true then some (D.ref st.length,st ++ [O.lst (rangeD lo (hi - lo).toNat)]) else none | none=>none) Q↔_
 cases rngOf st a with
 | none=>rw [Yac];exact ⟨False.elim,fun ⟨_,e,_⟩=>by cases e⟩
 | some p =>
  obtain ⟨lo,hi⟩:=p
  show Wp (if okR lo hi=true then some (D.ref st.length,st ++ [O.lst (rangeD lo (hi - lo).toNat)]) else none) Q↔_
  rw [zak,Yaa,Yac]
  split
  ·next h=>exact ⟨fun q=>⟨_,rfl,h,q⟩,fun ⟨_,e,_,q⟩=>by cases e;exact q⟩
  ·next h=>exact ⟨False.elim,fun ⟨_,e,q,_⟩=>by cases e;exact h q⟩
theorem xa4 {a:D}:Wp (gTupleR [a] st) Q↔∃ p,rngOf st a=some p∧okR p.1 p.2=true∧Q (.tup (rangeD p.1 (p.2 - p.1).toNat)) st:=by
 show Wp (match rngOf st a with | some (lo,hi)=>if okR lo hi=true then some (D.tup (rangeD lo (hi - lo).toNat),st) else none | none=>none) Q↔_
 cases rngOf st a with
 | none=>rw [Yac];exact ⟨False.elim,fun ⟨_,e,_⟩=>by cases e⟩
 | some p =>
  obtain ⟨lo,hi⟩:=p
  show Wp (if okR lo hi=true then some (D.tup (rangeD lo (hi - lo).toNat),st) else none) Q↔_
  rw [zak,Yaa,Yac]
  split
  ·next h=>exact ⟨fun q=>⟨_,rfl,h,q⟩,fun ⟨_,e,_,q⟩=>by cases e;exact q⟩
  ·next h=>exact ⟨False.elim,fun ⟨_,e,q,_⟩=>by cases e;exact h q⟩
theorem wp_rep:Wp (gRep (.ref k) (.int j) st) Q↔∃ xs,own st k=some xs∧(-9223372036854775808≤j∧j < 9223372036854775808)∧lim (xs.length * j.toNat)=true∧Q (.ref st.length) (st ++ [.lst (List.replicate j.toNat xs).flatten]):=by
 show Wp (match own st k with | some a=>if (decide (-9223372036854775808≤j∧j < 9223372036854775808) && lim (a.length * j.toNat))=true then some (D.ref st.length,st ++ [O.lst (List.replicate j.toNat a).flatten]) else none | _=>none) Q↔_
 cases own st k with
 | none=>simp only [Yac];exact ⟨False.elim,fun ⟨_,e,_⟩=>by cases e⟩
 | some xs =>
  show Wp (if (decide (-9223372036854775808≤j∧j < 9223372036854775808) && lim (xs.length * j.toNat))=true then some (D.ref st.length,st ++ [O.lst (List.replicate j.toNat xs).flatten]) else none) Q↔_
  rw [zak,Yaa,Yac]
  split
  ·next h=>rw [Bool.and_eq_true,decide_eq_true_eq] at h;exact ⟨fun q=>⟨_,rfl,h.1,h.2,q⟩,fun ⟨_,e,_,_,q⟩=>by cases e;exact q⟩
  ·next h=>rw [Bool.and_eq_true,decide_eq_true_eq] at h;exact ⟨False.elim,fun ⟨_,e,q,q',_⟩=>by cases e;exact h ⟨q,q'⟩⟩
theorem Zbb:Wp (gPopAt (.ref k) [.int i] st) Q↔∃ xs j y,own st k=some xs∧(-9223372036854775808≤i∧i < 9223372036854775808)∧seqIndex? i xs.length=some j∧xs[j]?=some y∧Q y (st.set k (.lst (xs.eraseIdx j))):=by
 constructor
 ·rintro ⟨a,s,e,q⟩
  simp only [gPopAt] at e
  split at e
  ·next xs hx =>
   split at e
   ·next hk =>
    split at e
    ·next j hj =>
     split at e
     ·next y hy=>cases e;exact ⟨xs,j,_,hx,of_decide_eq_true hk,hj,hy,q⟩
     ·cases e
    ·cases e
   ·cases e
  ·cases e
 ·rintro ⟨xs,j,y,hx,hk,hj,hy,q⟩
  refine ⟨_,_,?_,q⟩
  simp only [gPopAt,hx,hj,hy,decide_eq_true hk]
  rfl
theorem Xa4 {b:Nat}:Wp (gExtend (.ref k) [.ref b] st) Q↔∃ xs ys,own st k=some xs∧own st b=some ys∧lim (xs.length + ys.length)=true∧Q .non (st.set k (.lst (xs ++ ys))):=by
 constructor
 ·rintro ⟨a,s,e,q⟩
  simp only [gExtend] at e
  split at e
  ·next xs ys hx hy =>
   split at e
   ·next hl=>cases e;exact ⟨xs,ys,hx,hy,hl,q⟩
   ·cases e
  ·cases e
 ·rintro ⟨xs,ys,hx,hy,hl,q⟩
  refine ⟨_,_,?_,q⟩
  simp only [gExtend,hx,hy,hl]
  rfl
theorem Ybb {v:Int}:Wp (gIndex (.tup ds) [.int v] st) Q↔∃ ns j,mapO iV ds=some ns∧ns.findIdx? (fun i=>decide (i=v))=some j∧Q (.int (j:Int)) st:=by
 constructor
 ·rintro ⟨a,s,e,q⟩
  simp only [gIndex] at e
  split at e
  ·next ns hn =>
   split at e
   ·next j hj=>cases e;exact ⟨ns,j,hn,hj,q⟩
   ·cases e
  ·cases e
 ·rintro ⟨ns,j,hn,hj,q⟩
  refine ⟨_,_,?_,q⟩
  simp only [gIndex,hn,hj]
theorem wp_all:Wp (gAll [.ref k] st) Q↔∃ ds bs,items st k=some ds∧mapO bV ds=some bs∧Q (.bl (bs.all id)) st:=by
 constructor
 ·rintro ⟨a,s,e,q⟩
  simp only [gAll] at e
  split at e
  ·next bs hb =>
   cases e
   obtain ⟨ds,h1,h2⟩:=Option.bind_eq_some_iff.mp hb
   exact ⟨ds,bs,h1,h2,q⟩
  ·cases e
 ·rintro ⟨ds,bs,h1,h2,q⟩
  refine ⟨_,_,?_,q⟩
  simp only [gAll,h1,Option.bind_some,h2]
theorem zbi {neg:Bool} {a b:D}:Wp (gEqD neg a b st) Q↔∃ p q,toP st 20 a=some p∧toP st 20 b=some q∧(PyData.canLay0 p=true∧PyData.canLay0 q=true∧min p.depth q.depth≤60)∧Q (.bl (if neg then !PyData.eqv p q else PyData.eqv p q)) st:=by
 constructor
 ·rintro ⟨c,s,e,q⟩
  simp only [gEqD] at e
  split at e
  ·next x y h1 h2 =>
   split at e
   ·next hs =>
    cases e
    rw [Bool.and_eq_true,Bool.and_eq_true,decide_eq_true_eq] at hs
    exact ⟨x,y,h1,h2,⟨hs.1.1,hs.1.2,hs.2⟩,q⟩
   ·cases e
  ·cases e
 ·rintro ⟨x,y,h1,h2,⟨h3,h4,h5⟩,q⟩
  refine ⟨_,_,?_,q⟩
  simp only [gEqD,h1,h2,h3,h4,decide_eq_true h5]
  rfl
theorem wp_ixS {z:Str}:Wp (gIxS (.str z) (.int i) st) Q↔∃ c,lim z.length=true∧atI z.cps.toList i=some c∧Q (.str ⟨#[c]⟩) st:=by
 constructor
 ·rintro ⟨c,s,e,q⟩
  simp only [gIxS] at e
  split at e
  ·next h1 =>
   split at e
   ·next c hc=>cases e;exact ⟨c,h1,hc,q⟩
   ·cases e
  ·cases e
 ·rintro ⟨c,h1,h2,q⟩
  refine ⟨_,_,?_,q⟩
  simp only [gIxS,h1,h2]
  rfl
theorem Ybp {δ:DSt} {fa:DSt→Dm (List D)} {R:Src→Store→Prop}:Wp (iRng1F fa δ st) R↔Wp (fa δ st) fun as st1=>∃ j,as=[.int j]∧(-4611686018427387904≤j∧j < 4611686018427387904)∧R (.fix (rangeD 0 j.toNat)) st1:=by
 unfold iRng1F;rw [yad]
 constructor <;> refine fun h=>xab h fun as s h=>?_
 ·split at h
  ·next j =>
   rw [zak,Yaa,Yac] at h
   split at h
   ·next hk=>exact ⟨j,rfl,of_decide_eq_true hk,h⟩
   ·exact h.elim
  ·exact (Yac.mp h).elim
 ·obtain ⟨j,rfl,h1,h⟩:=h
  simp only [decide_eq_true h1,if_true]
  exact Yaa.mpr h
theorem xbp {δ:DSt} {fa:DSt→Dm (List D)} {R:Src→Store→Prop}:Wp (iRng2F fa δ st) R↔Wp (fa δ st) fun as st1=>∃ i j,as=[.int i,.int j]∧((-4611686018427387904≤i∧i < 4611686018427387904)∧-4611686018427387904≤j∧j < 4611686018427387904)∧R (.fix (rangeD i (j - i).toNat)) st1:=by
 unfold iRng2F;rw [yad]
 constructor <;> refine fun h=>xab h fun as s h=>?_
 ·split at h
  ·next i j =>
   rw [zak,Yaa,Yac] at h
   split at h
   ·next hk=>exact ⟨i,j,rfl,of_decide_eq_true hk,h⟩
   ·exact h.elim
  ·exact (Yac.mp h).elim
 ·obtain ⟨i,j,rfl,h1,h⟩:=h
  simp only [decide_eq_true h1,if_true]
  exact Yaa.mpr h
theorem Xbp {δ:DSt} {fa:DSt→Dm D} {R:Src→Store→Prop}:Wp (iTupF fa δ st) R↔Wp (fa δ st) fun a st1=>∃ ds,a=.tup ds∧R (.fix ds) st1:=by
 unfold iTupF;rw [yad]
 constructor <;> refine fun h=>xab h fun a s h=>?_
 ·cases a <;> simp only [Yaa,Yac] at h
  exact ⟨_,rfl,h⟩
 ·obtain ⟨j,rfl,h⟩:=h
  exact Yaa.mpr h
theorem xbb {δ:DSt} {fa:DSt→Dm D} {R:Src→Store→Prop}:Wp (iListF fa δ st) R↔Wp (fa δ st) fun a st1=>∃ i ds,a=.ref i∧items st1 i=some ds∧R (.live i) st1:=by
 unfold iListF;rw [yad]
 constructor <;> refine fun h=>xab h fun a s h=>?_
 ·split at h
  ·split at h
   ·next i ds hd=>exact ⟨_,ds,rfl,hd,Yaa.mp h⟩
   ·exact (Yac.mp h).elim
  ·exact (Yac.mp h).elim
 ·obtain ⟨i,ds,rfl,hd,h⟩:=h
  simp only [hd]
  exact Yaa.mpr h
theorem Xbb {δ:DSt} {fa:DSt→Dm (List D)} {R:Src→Store→Prop}:Wp (iEnumF fa δ st) R↔Wp (fa δ st) fun as st1=>∃ ds,as=[.tup ds]∧R (.fix (enumD ds)) st1:=by
 unfold iEnumF;rw [yad]
 constructor <;> refine fun h=>xab h fun as s h=>?_
 ·split at h
  ·exact ⟨_,rfl,Yaa.mp h⟩
  ·exact (Yac.mp h).elim
 ·obtain ⟨ds,rfl,h⟩:=h
  exact Yaa.mpr h
theorem yaH {i:Nat} {d:D} {δ:DSt} {R:DSt→Store→Prop}:Wp (hName i d δ st) R↔R (δ.set i (some d)) st:=Yaa
theorem zbq {δ:DSt} {R:DSt→Store→Prop}:Wp (hNil [] δ st) R↔R δ st:=Yaa
theorem zbc {f:D→DSt→Dm DSt} {g:List D→DSt→Dm DSt} {d:D} {ds:List D} {δ:DSt} {R:DSt→Store→Prop}:Wp (hCons f g (d :: ds) δ st) R↔Wp (f d δ st) fun δ1 st1=>Wp (g ds δ1 st1) R:=yad
theorem ybq {n:Nat} {f:List D→DSt→Dm DSt} {ds:List D} {δ:DSt} {R:DSt→Store→Prop}:Wp (hTup n f (.tup ds) δ st) R↔ds.length=n∧Wp (f ds δ st) R:=by
 show Wp (if ds.length=n then f ds δ st else none) R↔_
 rw [zak,Yac]
 split
 ·next h=>exact ⟨fun q=>⟨h,q⟩,fun q=>q.2⟩
 ·next h=>exact ⟨False.elim,fun q=>h q.1⟩
theorem Zbq {fo fi:DSt→Dm D} {d:D} {δ:DSt} {R:DSt→Store→Prop}:Wp (hSub fo fi d δ st) R↔Wp (fo δ st) fun o st1=>Wp (fi δ st1) fun i st2=>∃ r k xs j,o=.ref r∧i=.int k∧own st2 r=some xs∧ixN xs.length k=some j∧R δ (st2.set r (.lst (xs.set j d))):=by
 unfold hSub;rw [yad];simp only [yad]
 constructor <;> refine fun h=>xab h fun o s h=>xab h fun i s2 h=>?_
 ·split at h
  ·split at h
   ·next xs hx =>
    split at h
    ·next j hj=>exact ⟨_,_,xs,j,rfl,rfl,hx,hj,Yaa.mp h⟩
    ·exact (Yac.mp h).elim
   ·exact (Yac.mp h).elim
  ·exact (Yac.mp h).elim
 ·obtain ⟨r,k,xs,j,rfl,rfl,hx,hj,h⟩:=h
  simp only [hx,hj]
  exact Yaa.mpr h
theorem za5 {a:D} {c:String}:Wp (gIsinst [a,.ty c] st) Q↔tyNm st a=some c∧Q (.bl true) st:=by
 constructor
 ·rintro ⟨b,s,e,q⟩
  simp only [gIsinst] at e
  split at e
  ·next T hT =>
   split at e
   ·next h=>cases e;subst h;exact ⟨hT,q⟩
   ·cases e
  ·cases e
 ·rintro ⟨h,q⟩
  refine ⟨_,_,?_,q⟩
  simp only [gIsinst,h,if_true]
theorem XaN {δ:DSt} {R:Bool→Store→Prop}:Wp (fTrue δ st) R↔R true st:=Yaa
end
theorem at0 {α:Type} (x:α) (xs:List α):atI (x :: xs) 0=some x:=by
 unfold atI ixN
 rw [if_pos (by decide),if_pos (by simp only [List.length_cons];omega)]
 rfl
theorem at1 {α:Type} (x y:α) (xs:List α):atI (x :: y :: xs) 1=some y:=by
 unfold atI ixN
 rw [if_pos (by decide),if_pos (by simp only [List.length_cons];omega)]
 rfl
theorem s_get0 {α:Type} {a:α} {l:List α}:(a :: l)[0]?=some a:=List.getElem?_cons_zero
theorem s_getS {α:Type} {a:α} {l:List α} {i:Nat}:(a :: l)[i + 1]?=l[i]?:=List.getElem?_cons_succ
theorem s_set0 {α:Type} {a b:α} {l:List α}:(a :: l).set 0 b=b :: l:=List.set_cons_zero
theorem s_setS {α:Type} {a b:α} {l:List α} {i:Nat}:(a :: l).set (i + 1) b=a :: l.set i b:=List.set_cons_succ
theorem s_some {α:Type} (a b:α):(some a=some b)=(a=b):=Option.some.injEq a b
theorem s_ex' {α:Type} {p:α→Prop} {a':α}:(∃ a,a'=a∧p a)↔p a':=exists_eq_left'
theorem s_ex {α:Type} {p:α→Prop} {a':α}:(∃ a,a=a'∧p a)↔p a':=exists_eq_left
theorem s_exa {α:Type} {p:α→Prop} {b:Prop}:(∃ x,b∧p x)↔b∧∃ x,p x:=exists_and_left
theorem s_int (a b:Int):(D.int a=D.int b)=(a=b):=D.int.injEq a b
theorem s_bl (a b:Bool):(D.bl a=D.bl b)=(a=b):=D.bl.injEq a b
theorem s_str (a b:Str):(D.str a=D.str b)=(a=b):=D.str.injEq a b
theorem s_tup (a b:List D):(D.tup a=D.tup b)=(a=b):=D.tup.injEq a b
theorem s_ref (a b:Nat):(D.ref a=D.ref b)=(a=b):=D.ref.injEq a b
theorem s_cons {α:Type} (a:α) (l:List α) (b:α) (m:List α):(a :: l=b :: m)=(a=b∧l=m):=List.cons.injEq a l b m
theorem s_pair {α β:Type} (a:α) (b:β) (c:α) (d:β):((a,b)=(c,d))=(a=c∧b=d):=Prod.mk.injEq a b c d
theorem s_andT (p:Prop):(p∧True)=p:=and_true p
theorem s_Tand (p:Prop):(True∧p)=p:=true_and p
theorem s_notT:(!true)=false:=rfl
theorem s_notF:(!false)=true:=rfl
theorem s_FT:(false=true)=False:=by simp
theorem s_ifF {α:Type} {h:Decidable False} (t e:α):@ite α False h t e=e:=if_false t e
theorem s_ifT {α:Type} {h:Decidable True} (t e:α):@ite α True h t e=t:=if_true t e
noncomputable def wpB:=And.intro @wp_var (And.intro @wp_c (And.intro @wp_op (And.intro @wp_un (And.intro @wp_cb (And.intro @wp_nil (And.intro @xbm (And.intro @wp_tup (And.intro @wp_lst (And.intro @Xbm (And.intro @wp_not (And.intro @wp_and (And.intro @wp_or (And.intro @wp_if (And.intro @zbn (And.intro @wp_orV (And.intro @ybn (And.intro @Xa2 (And.intro @Zbn (And.intro @wp_sl (And.intro @wp_bm (And.intro @wp_add (And.intro @wp_sub (And.intro @wp_lt (And.intro @wp_le (And.intro @wp_gt (And.intro @wp_ge (And.intro @wp_neg (And.intro @wp_mul (And.intro @Ybn (And.intro @wp_mod (And.intro @wp_pow (And.intro @wp_eqI (And.intro @wp_eqS (And.intro @wp_ixT (And.intro @wp_ixL (And.intro @wp_slT (And.intro @wp_slL (And.intro @xbn (And.intro @wp_cat (And.intro @wp_len (And.intro @Xbn (And.intro @Zba (And.intro @zbo (And.intro @ybo (And.intro @Zbo (And.intro @Yba (And.intro @za3 (And.intro @ya3 (And.intro @Za3 (And.intro @Ybo (And.intro @xbo (And.intro @wp_din (And.intro @Xbo (And.intro @xba (And.intro @zbp (And.intro @zaB (And.intro @Za4 (And.intro @zaU (And.intro @Xba (And.intro @yaU (And.intro @zbb (And.intro @Ya4 (And.intro @ybp (And.intro @Zbp (And.intro @ybb (And.intro @xa4 (And.intro @wp_rep (And.intro @Zbb (And.intro @Xa4 (And.intro @Ybb (And.intro @wp_all (And.intro @wp_ixS (And.intro @Ybp (And.intro @xbp (And.intro @Xbp (And.intro @xbb (And.intro @Xbb (And.intro @yaH (And.intro @zbq (And.intro @zbc (And.intro @ybq (And.intro @Zbq (And.intro @za5 (And.intro @XaN (And.intro @at0 (And.intro @at1 (And.intro @s_get0 (And.intro @s_getS (And.intro @s_set0 (And.intro @s_setS (And.intro @s_some (And.intro @s_ex' (And.intro @s_ex (And.intro @s_exa (And.intro @s_int (And.intro @s_bl (And.intro @s_str (And.intro @s_tup (And.intro @s_ref (And.intro @s_cons (And.intro @s_pair (And.intro @s_andT (And.intro @s_Tand (And.intro @s_notT (And.intro @s_notF (And.intro @s_FT (And.intro @s_ifF (@s_ifT))))))))))))))))))))))))))))))))))))))))))))))))))))))))))))))))))))))))))))))))))))))))))))))))))))))))))))
theorem Yab {α:Type} {m:Option (α×Store)} {Q:α→Store→Prop} (h:∀ Q':α→Store→Prop,(∀ a st,Q a st→Q' a st)→Wp m Q'):Wp m Q:=h Q fun _ _ h=>h
end L4
namespace L4
open PySem PySem.Spec L2
section
variable {X:Cx} {K:PySem.W.Frag}
end
section
variable {st:Store} {Q:D→Store→Prop}
theorem ybc (n:Nat) (L:List Int):mapO (toP st (n + 1)) (L.map D.int)=some (intsD L):=xaz (f:=toP st (n + 1)) (g:=D.int) (k:=PyData.int) (fun _=>by simp only [toP]) L
theorem YaR (a b:List PyData):PyData.eqv (.tuple a) (.tuple b)=PyData.eqvAll a b:=by simp only [PyData.eqv]
theorem Ybq {neg:Bool} {L M:List Int}:Wp (gEqD neg (.tup (L.map D.int)) (.tup (M.map D.int)) st) Q↔Q (.bl (if neg then !decide (L=M) else decide (L=M))) st:=by
 have p1:∀ (N:List Int),toP st 20 (.tup (N.map D.int))=some (.tuple (intsD N)):=fun N=>by
  simp only [toP]
  rw [ybc];rfl
 have dp:∀ N:List Int,PyData.depth (.tuple (intsD N))≤1:=fun N=>by show PyData.depthAll (intsD N) + 1≤1;rw [YaD];omega
 rw [zbi]
 constructor
 ·rintro ⟨p,q,h1,h2,_,h⟩
  rw [p1 L] at h1
  rw [p1 M] at h2
  cases h1
  cases h2
  rw [YaR,zaG] at h
  exact h
 ·intro h
  refine ⟨_,_,p1 L,p1 M,⟨xaw L,xaw M,by have:=dp L;omega⟩,?_⟩
  rw [YaR,zaG]
  exact h
end
end L4
namespace L4
open PySem PySem.Spec L2
noncomputable def FeedIs (st:Store) (f:Nat):Prop:=∃ o m:Int,st[f]?=some (.lst [.int o,.int m])∧0≤o∧0≤m∧m < 4294967296
theorem ix2_0:ixN 2 0=some 0:=by decide
theorem ix2_1:ixN 2 1=some 1:=by decide
theorem FeedIs.keep {st st':Store} {f:Nat} (h:FeedIs st f) (e:Ex [] st st'):FeedIs st' f:=by
 obtain ⟨o,m,e1,r⟩:=h
 exact ⟨o,m,e.keep _ _ e1 (by simp),r⟩
theorem FeedIs.lt {st:Store} {f:Nat} (h:FeedIs st f):f < st.length:=let ⟨_,_,e,_⟩:=h;Zai e
section
variable {st0 st st':Store} {f r u n:Nat} {X Y Z:List Int} {o:O}
end
noncomputable def SrcOk (S:Src) (ds:List D) (st:Store):Prop:=∀ (i:Nat) (st2:Store),i≤ds.length→Ex [] st st2→S.at i st2=some ds[i]?
theorem ZaU {st st':Store} {r:Nat} {ds:List D} (h:items st r=some ds) (e:Ex [] st st'):items st' r=some ds:=by
 unfold items at h ⊢
 cases hx:st[r]? with
 | none=>rw [hx] at h;cases h
 | some o=>rw [e.keep _ _ hx (by simp)];rw [hx] at h;exact h
theorem xbq (ds:List D) (st:Store):SrcOk (.fix ds) ds st:=fun i st2 hi _=>by
 show (if i≤ds.length then some ds[i]? else none)=_
 rw [if_pos hi]
theorem Zbc {ds:List D} {st:Store} {r:Nat} (h:items st r=some ds):SrcOk (.live r) ds st:=fun i st2 hi e=>by
 show (items st2 r).map _=_
 rw [ZaU h e];rfl
theorem YaU {δ:DSt} {st:Store} {fi:DSt→Dm Src} {js:List Nat} {f:DSt→Dm D} {Q:D→Store→Prop} (ds:List D) (h:D→D) (hi:Wp (fi δ st) fun S st1=>SrcOk S ds st1∧Ex [] st st1) (hl:ds.length < 100000)
  (step:∀ d∈ds,∀ st1,Ex [] st st1→Wp (f (some d :: js.map fun j=>δ.getD j none) st1) fun y st2=>y=h d∧Ex [] st1 st2) (fin:∀ st',Ex [] st st'→Q (.ref st'.length) (st' ++ [.lst (ds.map h)])):Wp (fComp fi 1 js (hName 0) fTrue f δ st) Q:=by
 obtain ⟨S,st1,e1,hS,k1⟩:=hi
 refine za4 ds (fun i ys δ' st8=>(∃ v,δ'=v :: js.map fun j=>δ.getD j none)∧ys=(ds.take i).map h∧Ex [] st1 st8) ⟨S,st1,e1,fun i ys δ' st8 hi' hp=>hS i st8 hi' hp.2.2,⟨none,rfl⟩,rfl,Ex.refl⟩ hl ?_ ?_ ?_
 ·rintro i ys δ' st8 ⟨_,rfl,_⟩
  rw [List.length_map,List.length_take];omega
 ·rintro i d ys δ' st8 hd ⟨⟨v,rfl⟩,rfl,k8⟩
  rw [yaH]
  show Wp (fTrue _ _) _
  rw [XaN]
  refine ⟨fun _=>?_,fun h=>absurd h (by decide)⟩
  refine xab (step d (List.mem_of_getElem? hd) st8 (k1.trans k8)) ?_
  rintro y st9 ⟨rfl,k9⟩
  refine ⟨⟨some d,rfl⟩,?_,k8.trans k9⟩
  obtain ⟨hlt,e⟩:=List.getElem?_eq_some_iff.mp hd
  rw [List.take_succ_eq_append_getElem hlt,List.map_append,e];rfl
 ·rintro ys δ' st8 ⟨_,rfl,k8⟩
  rw [List.take_length]
  exact fin st8 (k1.trans k8)
section
variable {st:Store} {Q:D→Store→Prop}
theorem wp_eqP {neg:Bool} {a b c d:Int}:Wp (gEqD neg (.tup [.int a,.int b]) (.tup [.int c,.int d]) st) Q↔Q (.bl (if neg then !decide ([a,b]=[c,d]) else decide ([a,b]=[c,d]))) st:=Ybq (L:=[a,b]) (M:=[c,d])
end
end L4
namespace L4
open PySem PySem.Spec L2
end L4
namespace L4
open PySem PySem.Spec L2
abbrev Stp:=Bool×Int
noncomputable def stD (s:Stp):D:=.tup [.str (if s.1 then "s" else "t"),.int s.2]
end L4
namespace L4
open PySem PySem.Spec L2
section
variable {X:Cx} {K:PySem.W.Frag}
end
end L4
namespace L4
open PySem PySem.Spec L2
section
variable {K:PySem.W.Frag}
noncomputable def gAbs:List D→Dm D
 | [.int i],st=>some (.int (if i < 0 then -i else i),st)
 | _,_=>none
theorem ybi:SoC K (fun xs H Q=>∃ i,xs=[V.int i]∧Q (.int (if i < 0 then -i else i)) H) gAbs:=by
 intro ρ H st xs as b st' Q l rx e q
 unfold gAbs at e
 split at e
 ·cases e
  obtain ⟨v,rfl,r⟩:=rx.one'
  cases r
  exact ⟨_,rfl,q _ H ρ .refl l (.int _)⟩
 ·cases e
end
section
variable {X:Cx}
end
theorem at2 {α:Type} (x y z:α) (xs:List α):atI (x :: y :: z :: xs) 2=some z:=by
 unfold atI ixN
 rw [if_pos (by decide),if_pos (by simp only [List.length_cons];omega)]
 rfl
theorem at3 {α:Type} (x y z u:α) (xs:List α):atI (x :: y :: z :: u :: xs) 3=some u:=by
 unfold atI ixN
 rw [if_pos (by decide),if_pos (by simp only [List.length_cons];omega)]
 rfl
section
variable {st:Store} {Q:D→Store→Prop}
theorem Zbi {i:Int}:Wp (gAbs [.int i] st) Q↔Q (.int (if i < 0 then -i else i)) st:=Yaa
end
theorem Xbq {st:Store} {Q:D→Store→Prop} {k:Nat}:Wp (gRevL (.ref k) st) Q↔∃ ds,items st k=some ds∧Q (.ref st.length) (st ++ [.lst ds.reverse]):=by
 show Wp (match items st k with | some ds=>some (D.ref st.length,st ++ [O.lst ds.reverse]) | none=>none) Q↔_
 cases items st k with
 | none=>rw [Yac];exact ⟨False.elim,fun ⟨_,e,_⟩=>by cases e⟩
 | some ds=>rw [Yaa];exact ⟨fun q=>⟨ds,rfl,q⟩,fun ⟨_,e,q⟩=>by cases e;exact q⟩
theorem Ybc {δ:DSt} {st:Store} {fi:DSt→Dm Src} {js:List Nat} {f:DSt→Dm D} {Q:D→Store→Prop} (ds:List D) (P:Nat→D→Prop) (I:Store→Prop)
  (hi:Wp (fi δ st) fun S st1=>(∀ i st2,i≤ds.length→I st2→S.at i st2=some ds[i]?)∧I st1) (hl:ds.length < 100000)
  (step:∀ i d,ds[i]?=some d→∀ st1,I st1→Wp (f (some d :: js.map fun j=>δ.getD j none) st1) fun y st2=>P i y∧I st2)
  (fin:∀ ys st',I st'→ys.length=ds.length→(∀ i y,ys[i]?=some y→P i y)→Q (.ref st'.length) (st' ++ [.lst ys])):Wp (fComp fi 1 js (hName 0) fTrue f δ st) Q:=by
 obtain ⟨S,st1,e1,hS,k1⟩:=hi
 refine za4 ds (fun i ys δ' st8=>(∃ v,δ'=v :: js.map fun j=>δ.getD j none)∧ys.length=i∧(∀ i y,ys[i]?=some y→P i y)∧I st8) ⟨S,st1,e1,fun i ys δ' st8 hi' hp=>hS i st8 hi' hp.2.2.2,⟨none,rfl⟩,rfl,(fun i y h=>by simp at h),k1⟩ hl ?_ ?_ ?_
 ·rintro i ys δ' st8 ⟨_,h,_⟩
  omega
 ·rintro i d ys δ' st8 hd ⟨⟨v,rfl⟩,hlen,hP,k8⟩
  rw [yaH]
  show Wp (fTrue _ _) _
  rw [XaN]
  refine ⟨fun _=>?_,fun h=>absurd h (by decide)⟩
  refine xab (step i d hd st8 k8) ?_
  rintro y st9 ⟨hp,k9⟩
  refine ⟨⟨some d,rfl⟩,by rw [List.length_append,hlen];rfl,fun j z hz=>?_,k9⟩
  by_cases hj:j < ys.length
  ·rw [List.getElem?_append_left hj] at hz;exact hP j z hz
  ·have hb:=Zai hz
   rw [List.length_append,List.length_singleton] at hb
   have e:j=ys.length:=by omega
   subst e
   rw [List.getElem?_append_right (Nat.le_refl _),Nat.sub_self] at hz
   cases hz
   rw [hlen];exact hp
 ·rintro ys δ' st8 ⟨_,hlen,hP,k8⟩
  exact fin ys st8 k8 hlen hP
theorem or_if {a b:Bool} {R:Bool→Prop} (h:R (a || b)):if a=true then R true else R b:=by cases a <;> exact h
theorem and_if {a b:Bool} {R:Bool→Prop} (h:R (a && b)):if a=true then R b else R false:=by cases a <;> exact h
theorem Ex.drop {st st1 st2:Store} {f:Nat} (a:Ex [] st st1) (b:Ex [f] st1 st2) (h:st.length≤f):Ex [] st st2:=⟨Nat.le_trans a.len b.len,fun i o e n=>b.keep i o (a.keep i o e n) (by have:=Zai e;simp;omega)⟩
end L4
namespace L4
open PySem PySem.Spec L2
noncomputable def sO (L:List Nat):Str:=⟨L.toArray⟩
theorem sO_len (L:List Nat):(sO L).length=L.length:=by simp [sO,Str.length]
theorem Ybi (L M:List Nat):sO L ++ sO M=sO (L ++ M):=by
 show Str.append (sO L) (sO M)=_
 simp [sO,Str.append]
theorem join0:∀ (Ls:List (List Nat)),Str.join (sO []) (Ls.map sO)=sO Ls.flatten
 | []=>rfl
 | [L]=>by
  show sO L=sO ([L].flatten)
  rw [List.flatten_cons,List.flatten_nil,List.append_nil]
 | L :: M :: r=>by
  have ih:=join0 (M :: r)
  show sO L ++ sO [] ++ Str.join (sO []) ((M :: r).map sO)=_
  rw [ih,Ybi,Ybi,List.append_nil,List.flatten_cons (l:=L)]
noncomputable def strD:D→Option Str
 | .str x=>some x
 | _=>none
theorem xbc (xs:List Str):mapO strD (xs.map D.str)=some xs:=by
 have:=xaz (f:=strD) (g:=D.str) (k:=id) (fun _=>rfl) xs
 rw [this,List.map_id]
noncomputable def gJoin:D→List D→Dm D
 | .str sep,[.ref i],st=>match (items st i).bind (mapO strD) with
  | some xs=>if xs.length≤100000∧sep.length≤10∧∀ x∈xs,x.length≤100 then some (.str (Str.join sep xs),st) else none
  | none=>none
 | _,_,_=>none
noncomputable def chD (x:Str):List D:=x.cps.toList.map fun c=>.str ⟨#[c]⟩
section
variable {K:PySem.W.Frag}
theorem xaR {ρ:List Addr} {H:Hp}:∀ {ws:List V} {ds:List D} {ns:List Str},Rps K ρ H ws ds→mapO strD ds=some ns→ws=ns.map V.str
 | _,_,_,.nil,h=>by cases h;rfl
 | _,_,_,.cons a b,h=>by
  obtain ⟨x,t,h1,h2,rfl⟩:=Yax h
  rw [xaR b h2]
  cases a <;> first | (cases h1;rfl) | cases h1
theorem zbr:SoM K "str" (rJoin K) gJoin:=by
 intro ρ H st x xs a as b st' Q l rx rxs e q
 unfold gJoin at e
 split at e
 ·split at e
  ·next ts hd =>
   split at e
   ·next ok =>
    cases e
    obtain ⟨v,rfl,r⟩:=rxs.one'
    obtain ⟨ds,h3,h4⟩:=Option.bind_eq_some_iff.mp hd
    cases rx
    cases r with
    | ref hi =>
     obtain ⟨vs,s,r⟩:=l.items hi h3
     cases xaR r h4
     exact ⟨_,_,_,rfl,rfl,s,ok.1,ok.2.1,ok.2.2,q _ H ρ .refl l (.str _)⟩
   ·cases e
  ·cases e
 ·cases e
end
section
variable {st:Store} {Q:D→Store→Prop}
theorem ybr {sep:Str} {k:Nat} {xs:List Str} (h:items st k=some (xs.map D.str)) (hl:xs.length≤100000) (hs:sep.length≤10) (hb:∀ x∈xs,x.length≤100):Wp (gJoin (.str sep) [.ref k] st) Q↔Q (.str (Str.join sep xs)) st:=by
 have e:gJoin (.str sep) [.ref k] st=some (.str (Str.join sep xs),st):=by
  simp only [gJoin,h,Option.bind_some,xbc]
  rw [if_pos ⟨hl,hs,hb⟩]
 rw [e,Yaa]
end
end L4
namespace L4
open PySem PySem.Spec L2
noncomputable def zsD:D→Option (List D)
 | .tup ds=>some ds
 | .str x=>some (chD x)
 | _=>none
noncomputable def zipD:List D→List D→List D
 | a :: r,b :: t=>.tup [a,b] :: zipD r t
 | _,_=>[]
noncomputable def iZipF (fa:DSt→Dm (List D)):DSt→Dm Src:=fun δ st=>bnd (fa δ st) fun as st1=>match as with
 | [a,b]=>match zsD a,zsD b with
  | some ds,some es=>some (.fix (zipD ds es),st1)
  | _,_=>none
 | _=>none
section
variable {K:PySem.W.Frag}
end
section
variable {st:Store}
end
noncomputable def isaN:List String:=["NoneType","bool","int","str","tuple","list","dict"]
noncomputable def isaC:List String:=["bool","int","str","tuple","list","dict"]
noncomputable def isaT (T c:String):Option Bool:=if isaN.contains T && isaC.contains c then some (T == c || (T == "bool" && c == "int")) else none
noncomputable def isaAny (T:String):List String→Option Bool
 | []=>some false
 | c :: r=>match isaT T c with
  | some true=>some true
  | some false=>isaAny T r
  | none=>none
noncomputable def tyS:D→Option String
 | .ty n=>some n
 | _=>none
noncomputable def tysD:D→Option (List String)
 | .ty n=>some [n]
 | .tup ds=>mapO tyS ds
 | _=>none
noncomputable def gIsA:List D→Dm D
 | [a,c],st=>match tyNm st a,tysD c with
  | some T,some cs=>match isaAny T cs with
   | some b=>some (.bl b,st)
   | none=>none
  | _,_=>none
 | _,_=>none
theorem ya5 {st:Store} {Q:D→Store→Prop} {a c:D} {T:String} {cs:List String} {b:Bool} (h:tyNm st a=some T) (hc:tysD c=some cs) (hb:isaAny T cs=some b):Wp (gIsA [a,c] st) Q↔Q (.bl b) st:=by
 have e:gIsA [a,c] st=some (.bl b,st):=by simp only [gIsA,h,hc,hb]
 rw [e,Yaa]
section
variable {X:Cx} {K:PySem.W.Frag}
theorem ZaH (K:PySem.W.Frag) {T c:String} {b:Bool} (h:isaT T c=some b):PySem.W.kitOne K (.type T) (.type c)=some b:=by
 have hh:isaN.contains T=true∧isaC.contains c=true:=by
  unfold isaT at h
  split at h
  ·next g=>simpa using g
  ·cases h
 have h1:T∈isaN:=List.contains_iff_mem.mp hh.1
 have h2:c∈isaC:=List.contains_iff_mem.mp hh.2
 unfold isaN at h1
 unfold isaC at h2
 simp only [List.mem_cons,List.not_mem_nil,or_false] at h1 h2
 rcases h1 with rfl | rfl | rfl | rfl | rfl | rfl | rfl <;> rcases h2 with rfl | rfl | rfl | rfl | rfl | rfl <;> (cases h;rfl)
theorem Za5 (K:PySem.W.Frag) {T:String}:∀ {cs:List String} {b:Bool},isaAny T cs=some b→PySem.W.kitAny K (.type T) (cs.map Value.type)=some b
 | [],b,h=>by cases h;rfl
 | c :: r,b,h=>by
  simp only [isaAny] at h
  split at h
  ·next e=>cases h;simp only [List.map_cons,PySem.W.kitAny,ZaH K e]
  ·next e=>simp only [List.map_cons,PySem.W.kitAny,ZaH K e];exact Za5 K h
  ·cases h
noncomputable def TyN (K:PySem.W.Frag) (H:Hp) (x:V) (T:String):Prop:=TyOf K H x (.type T)∨(T="tuple" ∧ ∃ a ys,x=.ref a∧SqT K H a ys)
noncomputable def rIsA (K:PySem.W.Frag):List V→Hp→VK→Prop:=fun xs H Q=>∃ x c T cs b,xs=[x,c]∧TyN K H x T∧((∃ n,c=.ty n∧cs=[n])∨∃ p,c=.ref p∧SqT K H p (cs.map V.ty))∧isaAny T cs=some b∧Q (.bl b) H
theorem Zbr {pins:List (Addr×Obj)} {σ:St} {H:Hp} {s:Shared} {x:V} {u:Value} {T:String} (I:Inv X pins σ H s) (rx:RelV x u) (ty:TyN X.K H x T):∃ Hh,PySem.W.KitX X.K u (.type T) Hh∧Hh s.heap∧u≠.builtin "__main__.__loader__#opaque" := by
 rcases ty with ty | ⟨rfl,a,ys,rfl,hs⟩
 ·generalize ht:Value.type T=t at ty
  cases ty with
  | non=>cases ht;cases (show u=Value.none from rx);exact ⟨_,PySem.W.kitx_none,True.intro,fun z=>nomatch z⟩
  | bl y=>cases ht;cases (show u=Value.bool y from rx);exact ⟨_,PySem.W.kitx_bool,True.intro,fun z=>nomatch z⟩
  | int i=>cases ht;obtain ⟨t,q⟩:=(show ∃ t,u=Value.int i t from rx);cases q;exact ⟨_,PySem.W.kitx_int,True.intro,fun z=>nomatch z⟩
  | str y=>cases ht;obtain ⟨t,q⟩:=(show ∃ t,u=Value.str y t from rx);cases q;exact ⟨_,PySem.W.kitx_str,True.intro,fun z=>nomatch z⟩
  | flt y=>cases ht;obtain ⟨t,q⟩:=(show ∃ t,u=Value.float y t from rx);cases q;exact ⟨_,PySem.W.kitx_float,True.intro,fun z=>nomatch z⟩
  | @lst a xs ea =>
   cases ht
   cases (show u=Value.ref a from rx)
   obtain ⟨_,_,n,_,h1⟩:=(show ObjOk X.prog X.w H s.heap a (.lst xs) from I.hok a _ ea)
   exact ⟨_,PySem.W.kitx_list,⟨_,h1,rfl⟩,fun z=>nomatch z⟩
  | @frz a ob xs ea =>
   cases ht
   cases (show u=Value.ref a from rx)
   obtain ⟨_,_,_,n,_,h1⟩:=(show ObjOk X.prog X.w H s.heap a (.frz ob (.lst xs)) from I.hok a _ ea)
   exact ⟨_,PySem.W.kitx_list,⟨_,h1,rfl⟩,fun z=>nomatch z⟩
  | @tup a xs ea =>
   cases ht
   cases (show u=Value.ref a from rx)
   obtain ⟨_,_,_,p⟩:=(show ObjOk X.prog X.w H s.heap a (.tup xs) from I.hok a _ ea)
   obtain ⟨o,h1,h2,_⟩:=p
   exact ⟨_,PySem.W.kitx_tuple,⟨o,h1,h2⟩,fun z=>nomatch z⟩
  | @dK a kvs ea =>
   cases ht
   cases (show u=Value.ref a from rx)
   obtain ⟨_,_,vs,_,p⟩:=(show ObjOk X.prog X.w H s.heap a (.dK kvs) from I.hok a _ ea)
   obtain ⟨o,es,ep,h1,h2,_⟩:=p
   exact ⟨_,PySem.W.kitx_dict,⟨o,h1,h2.1⟩,fun z=>nomatch z⟩
  | @dT a kvs ea =>
   cases ht
   cases (show u=Value.ref a from rx)
   obtain ⟨_,_,xs,_,o,es,ep,h1,h2,_⟩:=(show ObjOk X.prog X.w H s.heap a (.dT kvs) from I.hok a _ ea)
   exact ⟨_,PySem.W.kitx_dict,⟨o,h1,h2.1⟩,fun z=>nomatch z⟩
  | ins=>cases ht
 ·cases (show u=Value.ref a from rx)
  obtain ⟨its,_,⟨o,h1,h2,_⟩,_⟩:=I.tuple hs
  exact ⟨_,PySem.W.kitx_tuple,⟨o,h1,h2⟩,fun z=>nomatch z⟩
theorem xbi:∀ {cs:List String} {us:List Value},Vals (cs.map V.ty) us→us=cs.map Value.type
 | [],us,h=>by
  cases us with
  | nil=>rfl
  | cons a b=>cases h
 | x :: xs,us,h=>by
  cases us with
  | nil=>cases h
  | cons u us =>
   cases h with
   | cons r t =>
    rw [xbi t]
    cases (show u=Value.type x from r)
    rfl
theorem YaH:CallR X (.builtin "isinstance") (rIsA X.K):=by
 intro pins s σ H xs us Q I r h
 obtain ⟨x,c,T,cs,b,rfl,ty,hc,hb,q⟩:=h
 obtain ⟨u,u',rfl,ru,ru'⟩:=vals2 r
 obtain ⟨Hh,Z,hh,hx⟩:=Zbr I ru ty
 have fin:∀ tk,EP X pins σ Q (.bool b) { s with toks:=tk }:=fun tk=>⟨.bl b,H,I.tok tk,rfl,q⟩
 have ka:=Za5 X.K hb
 rcases hc with ⟨n,rfl,rfl⟩ | ⟨p,rfl,hp⟩
 ·cases (show u'=Value.type n from ru')
  refine PySem.W.kia_one Z I.kIn hh ?_ hx fin
  simp only [isaAny] at hb
  split at hb
  ·next e=>cases hb;exact ZaH _ e
  ·next e=>cases hb;exact ZaH _ e
  ·cases hb
 ·cases (show u'=Value.ref p from ru')
  obtain ⟨its,rv,⟨⟨oc,od,odt,osl⟩,e,h2,h3,n,h4⟩,_⟩:=I.tupleP hp
  cases (show oc=.type "tuple" from h2)
  cases (show odt=.seq its.toArray n from h4)
  cases xbi rv
  exact PySem.W.kia_tup Z I.kIn hh e ka hx fin
theorem tyN_of {ρ:List Addr} {H:Hp} {st:Store} {v:V} {a:D} {T:String} (l:Rl K ρ H st) (r1:Rp K ρ H v a) (hT:tyNm st a=some T):TyN K H v T:=by
 cases r1 <;> simp only [tyNm] at hT
 ·cases hT;exact .inl .non
 ·cases hT;exact .inl (.bl _)
 ·cases hT;exact .inl (.int _)
 ·cases hT;exact .inl (.str _)
 ·cases hT
 ·next hi =>
  split at hT
  ·next ds hs=>cases hT;obtain ⟨vs,e1,_⟩:=l.obj _ _ _ hi hs;exact .inl (.lst e1)
  ·next ds hs=>cases hT;obtain ⟨vs,e1,_⟩:=l.obj _ _ _ hi hs;exact .inl (.dK e1)
  ·cases hT
 ·next hs hr=>cases hT;exact .inr ⟨rfl,_,_,rfl,hs⟩
theorem Ya5 {ρ:List Addr} {H:Hp}:∀ {ws:List V} {ds:List D} {ns:List String},Rps K ρ H ws ds→mapO tyS ds=some ns→ws=ns.map V.ty
 | _,_,_,.nil,h=>by cases h;rfl
 | _,_,_,.cons a b,h=>by
  obtain ⟨x,t,h1,h2,rfl⟩:=Yax h
  rw [Ya5 b h2]
  cases a <;> first | (cases h1;rfl) | cases h1
theorem xa5:SoC K (rIsA K) gIsA:=by
 intro ρ H st xs as b st' Q l rx e q
 unfold gIsA at e
 split at e
 ·next a c =>
  split at e
  ·next T cs h1 h2 =>
   split at e
   ·next bb hb =>
    cases e
    obtain ⟨v,w,rfl,r1,r2⟩:=rx.two'
    refine ⟨v,w,T,cs,bb,rfl,tyN_of l r1 h1,?_,hb,q _ H ρ .refl l (.bl _)⟩
    cases r2 with
    | non=>cases h2
    | bl _=>cases h2
    | int _=>cases h2
    | str _=>cases h2
    | ref _=>cases h2
    | ty n=>cases h2;exact .inl ⟨n,rfl,rfl⟩
    | tup s r=>exact .inr ⟨_,rfl,Ya5 r h2 ▸ s⟩
   ·cases e
  ·cases e
 ·cases e
end
structure Con (K:PySem.W.Frag) (mg:Str→Option Value) (x:Str) (v:V) (d:D):Prop where
 ex:∃ u,mg x=some u∧RelV v u
 rp:∀ (ρ:List Addr) (H:Hp),Rp K ρ H v d
theorem Xa5 {X:Cx} {K:PySem.W.Frag} {mg:Str→Option Value} {x:Str} {v:V} {d:D} {pos:Pos} (C:Con K mg x v d) (hg:Gl X x) (hX:X.mg=mg) (hd:(x == ("__debug__" : Str))=false):PE X (.Name x pos) (tC v):=by
 obtain ⟨u,h,r⟩:=C.ex
 subst hX
 exact yaW hg h r hd
theorem za6 {K:PySem.W.Frag} {mg:Str→Option Value} {x:Str} {v:V} {d:D} (C:Con K mg x v d):SoE K (tC v) (fC d):=so_c C.rp
theorem ya6 {K:PySem.W.Frag} {h:Heap} {mg:Str→Option Value} (X:K.In h) (G:h.Ns mainGlobals mg) {x:Str} {a:Addr} {od:Option Addr} {its:Array Value} {n:Nat} {sl:Array (Option Value)} {vs:List V} {ds:List D} (e:PySem.W.nsIn K mainGlobals x=some (some (.ref a))) (l:K.lookup a=some ⟨.type "tuple",od,.seq its n,sl⟩)
  (ho:od=none) (hz:its.size≤sizeLine) (hv:Vals vs its.toList) (hd:∀ (ρ:List Addr) (H:Hp),Rps K ρ H vs ds):∃ v,Con K mg x v (.tup ds) :=
 ⟨.ref a,⟨_,PySem.W.mg_of X G e,rfl⟩,fun ρ H=>.tup (.inr ⟨_,its,n,l,rfl,ho,rfl,hz,hv⟩) (hd ρ H)⟩
end L4
namespace L4
open PySem PySem.Spec L2
end L4
namespace L4
open PySem PySem.Spec L2
section
variable {K:PySem.W.Frag}
end
end L4
namespace L4
open PySem PySem.Spec L2
section
variable {K:PySem.W.Frag}
end
section
variable {st:Store}
end
end L4
namespace L4
open PySem PySem.Spec L2
noncomputable def mulOkW (i j:Int):Bool:=(decide (-18446744073709551616 < i∧i < 18446744073709551616) || decide (-18446744073709551616 < j∧j < 18446744073709551616)) || (decide (i.natAbs < bigN) && decide (j.natAbs < bigN))
noncomputable def gMulW:D→D→Dm D:=gIC mulOkW fun i j=>.int (i * j)
section
variable {K:PySem.W.Frag}
theorem yao:So2 K (rI CMulW fun i j=>.int (i * j)) gMulW:=xaT (fun i j h=>by
 unfold mulOkW at h
 rw [Bool.or_eq_true,Bool.or_eq_true,Bool.and_eq_true,decide_eq_true_eq,decide_eq_true_eq,decide_eq_true_eq,decide_eq_true_eq] at h
 exact h) fun _ _ _ _=>.int _
end
section
variable {st:Store} {Q:D→Store→Prop}
theorem Za6 {i j:Int}:Wp (gMulW (.int i) (.int j) st) Q↔mulOkW i j=true∧Q (.int (i * j)) st:=by
 unfold gMulW;rw [XaT]
theorem Xbc {i j:Int} (h:i.natAbs < 18446744073709551616):mulOkW i j=true:=by
 unfold mulOkW
 rw [decide_eq_true (show -18446744073709551616 < i∧i < 18446744073709551616 by omega)]
 rfl
end
end L4
namespace L4
open PySem PySem.Spec L2
section
variable {K:PySem.W.Frag}
end
end L4
namespace L4
open PySem PySem.Spec L2
section
variable {K:PySem.W.Frag}
end
end L4
namespace L4
open PySem PySem.Spec L2
section
variable {K:PySem.W.Frag}
end
end L4
namespace L4
open PySem PySem.Spec L2
section
variable {K:PySem.W.Frag}
end
section
variable {δ:DSt} {st:Store} {N B C:DSt→Store→Prop} {R:D→Store→Prop}
end
end L4
namespace L4
open PySem PySem.Spec L2
section
variable {K:PySem.W.Frag}
end
section
variable {δ:DSt} {st:Store} {N B C:DSt→Store→Prop} {R:D→Store→Prop}
end
theorem Ybr {st:Store} {Q:D→Store→Prop} {z:Str}:Wp (gLenS [.str z] st) Q↔lim z.length=true∧Q (.int z.length) st:=by
 show Wp (if lim z.length=true then some (D.int z.length,st) else none) Q↔_
 rw [zak,Yaa,Yac]
 split
 ·next h=>exact ⟨fun q=>⟨h,q⟩,fun q=>q.2⟩
 ·next h=>exact ⟨False.elim,fun q=>h q.1⟩
end L4
namespace L4
open PySem PySem.Spec L2
section
variable {K:PySem.W.Frag}
end
end L4
namespace L4
open PySem PySem.Spec L2
section
variable {K:PySem.W.Frag}
end
end L4
namespace L4
open PySem PySem.Spec L2
section
variable {K:PySem.W.Frag}
end
section
variable {st:Store} {Q:D→Store→Prop} {i:Nat}
end
end L4
namespace L4
open PySem PySem.Spec L2
section
variable {K:PySem.W.Frag}
end
section
variable {st:Store} {Q:D→Store→Prop} {δ:DSt}
end
end L4
namespace L4
open PySem PySem.Spec L2
section
variable {K:PySem.W.Frag}
end
section
variable {st:Store} {Q:D→Store→Prop}
end
end L4
namespace L4
open PySem PySem.Spec L2
section
variable {K:PySem.W.Frag}
end
section
variable {st:Store} {δ:DSt}
end
end L4
namespace L4
open PySem PySem.Spec L2
section
variable {K:PySem.W.Frag}
end
end L4
namespace L4
open PySem PySem.Spec L2
section
variable {K:PySem.W.Frag}
end
end L4
namespace L4
open PySem PySem.Spec L2
section
variable {K:PySem.W.Frag}
noncomputable def gFdivN:D→D→Dm D:=gIC (fun i j=>decide (j≠0∧j.natAbs < 1073741824)) fun i j=>.int (i.fdiv j)
theorem zbd:So2 K (rI CDivN fun i j=>.int (i.fdiv j)) gFdivN:=xaT (fun i j h=>of_decide_eq_true (p:=j≠0∧j.natAbs < 1073741824) h) fun _ _ _ _=>.int _
end
section
variable {st:Store} {Q:D→Store→Prop}
theorem ybd {i j:Int}:Wp (gFdivN (.int i) (.int j) st) Q↔(j≠0∧j.natAbs < 1073741824)∧Q (.int (i.fdiv j)) st:=by unfold gFdivN;rw [XaT,decide_eq_true_eq]
end
end L4
namespace L4
open PySem PySem.Spec L2
section
variable {K:PySem.W.Frag}
end
end L4
namespace L4
open PySem PySem.Spec L2
section
variable {K:PySem.W.Frag} {ρ:List Addr} {H:Hp} {st:Store}
end
section
variable {K:PySem.W.Frag}
end
section
variable {st:Store} {δ:DSt} {Q:D→Store→Prop}
end
end L4
namespace L4
open PySem PySem.Spec L2
section
variable {K:PySem.W.Frag}
end
section
variable {st:Store} {δ:DSt} {Q:D→Store→Prop}
end
end L4
namespace L4
open PySem PySem.Spec L2
section
variable {K:PySem.W.Frag} {ρ:List Addr} {H:Hp} {st:Store} {a:Addr} {i:Nat} {ho:HO} {o:O}
end
section
variable {K:PySem.W.Frag}
end
section
variable {st:Store} {δ:DSt}
end
end L4
namespace L4
open PySem PySem.Spec L2
noncomputable def raisedD (d:D) (st:Store):Bool:=match d with
 | .ref i=>match st[i]? with
  | some (.exc _ _)=>true
  | _=>false
 | _=>false
theorem xaU {d:D} {st:Store} (h:raisedD d st=true):∃ i c fs,d=.ref i∧st[i]?=some (.exc c fs):=by
 unfold raisedD at h
 split at h
 ·next i =>
  split at h
  ·next c fs e=>exact ⟨i,c,fs,rfl,e⟩
  ·cases h
 ·cases h
theorem Zbd {a C:Addr} {dx tr:Option Addr} {xs:List (List Int×Addr×Value)} (e:DU a xs=XO a C dx tr):False:=by
 unfold DU XO at e
 injection e with q
 let ob:Obj:={ cls:=.ref C,dict:=dx,data:=.fields #[.none,trV tr] }
 let h0:Heap:={ objs:=Array.replicate (a + 1) ob }
 have e0:h0.get? a=some ob:=by
  refine Heap.get?_some_iff.mpr ⟨?_,rfl⟩
  simp [h0]
 have z:=(congrFun q h0).mpr ⟨ob,_,e0,rfl,rfl,rfl,rfl⟩
 obtain ⟨_,_,o,es,ep,e1,_,e2,_⟩:=z
 rw [e0] at e1;cases e1
 cases e2
section
variable {K:PySem.W.Frag} {ρ ρ':List Addr} {H H' H2:Hp} {st st':Store} {a:Addr}
theorem xaH (y:XS a H H2) {b:Addr} {u:HO} (h:H b=some u) (n:∀ φ,u≠.ext φ):H2 b=some u:=by
 obtain ⟨⟨C,dx,tr,tr',e1,e2⟩,k⟩:=y
 exact k b (fun z=>by rw [z,e1] at h;cases h;exact n _ rfl) u h
theorem Mn.xs (y:XS a H H2):Mn K ρ H ρ H2:=⟨fun _ _ h=>h,fun b vs q=>by
  rcases q with (q | ⟨o,q⟩) | q
  ·exact .inl (.inl (xaH y q fun φ z=>nomatch z))
  ·exact .inl (.inr ⟨o,xaH y q fun φ z=>nomatch z⟩)
  ·exact .inr q
  ,fun b o u h=>xaH y h (fun φ z=>by cases z),fun b ws h=>xaH y h (fun φ z=>by cases z)⟩
theorem Rl.xs (l:Rl K ρ H st) (y:XS a H H2):Rl K ρ H2 st:=by
 have m:Mn K ρ H ρ H2:=Mn.xs y
 refine ⟨l.len,l.nd,fun i b o h1 h2=>?_⟩
 have r:=l.obj i b o h1 h2
 by_cases hb:b=a
 ·subst hb
  have y0:=y
  obtain ⟨⟨C,dx,tr,tr',e1,e2⟩,k⟩:=y0
  cases o with
  | lst ds=>obtain ⟨vs,e,_⟩:=r;rw [e1] at e;cases e
  | fzn ds =>
   obtain ⟨vs,e,q⟩:=r
   refine ⟨vs,?_,q.mn m⟩
   rcases e with ⟨u,e⟩ | e
   ·rw [e1] at e;cases e
   ·exact .inr e
  | dct kvs=>obtain ⟨vs,e,_⟩:=r;rw [e1] at e;cases e
  | dcu kvs=>obtain ⟨vs,e,_⟩:=r;rw [e1] at e;exact (Zbd (Option.some.inj e).symm).elim
  | exc c fs =>
   obtain ⟨C',dx',tr2,n,e,q⟩:=r
   rw [e1] at e
   obtain ⟨rfl,rfl⟩:=XO.inj (Option.some.inj e)
   exact ⟨C,dx,tr',n,e2,q.mn m⟩
  | any=>trivial
  | rng lo hi=>have z:H b=some (.rng lo hi):=r;rw [e1] at z;cases z
 ·exact r.keep m fun u e=>y.2 b hb u e
noncomputable def GoX (K:PySem.W.Frag) (W:Addr→Hp→Prop) (ρ:List Addr) (H:Hp) (st':Store) (E:Ends):Fl→Prop
 | .rt d=>(raisedD d st'=true→∀ a H' ρ',Mn K ρ H ρ' H'→Rl K ρ' H' st'→Rp K ρ' H' (.ref a) d→W a H')∧(raisedD d st'=false→Go K ρ H st' E (.rt d))
 | fl=>Go K ρ H st' E fl
theorem GoX.mn {W:Addr→Hp→Prop} {ρ1:List Addr} {H1:Hp} {E:Ends} {fl:Fl} (g:GoX K W ρ H st' E fl) (m:Mn K ρ H ρ1 H1):GoX K W ρ1 H1 st' E fl:=by
 cases fl with
 | rt d=>exact ⟨fun h a H' ρ' m' l r=>g.1 h a H' ρ' (m.trans m') l r,fun h=>Go.mn (g.2 h) m⟩
 | nx δ=>exact Go.mn (fl:=.nx δ) g m
 | bk δ=>exact Go.mn (fl:=.bk δ) g m
 | ct δ=>exact Go.mn (fl:=.ct δ) g m
noncomputable def SoX (K:PySem.W.Frag) (W:Addr→Hp→Prop) (t:TS) (f:DSt→Dm Fl):Prop :=
 ∀ (ρ:List Addr) (σ:St) (H:Hp) (δ:DSt) (st:Store) (fl:Fl) (st':Store) (E:Ends),Rl K ρ H st→Rs K ρ H σ δ→f δ st=some (fl,st')→GoX K W ρ H st' E fl→t E σ H
noncomputable def fPl (f:DSt→Dm Fl):DSt→Dm Fl:=fun δ st=>bnd (f δ st) fun fl st1=>match fl with
 | .rt d=>if raisedD d st1=true then none else some (.rt d,st1)
 | x=>some (x,st1)
theorem YaE {W:Addr→Hp→Prop} {t:TS} {f:DSt→Dm Fl} (hf:SoS K t f):SoX K W t (fPl f):=by
 intro ρ σ H δ st fl st' E l rs e q
 obtain ⟨x,st1,e1,e⟩:=Zab e
 cases x with
 | rt d =>
  dsimp only at e
  split at e
  ·cases e
  ·next hn=>cases e;exact hf ρ σ H δ st _ _ E l rs e1 (q.2 (by simpa using hn))
 | nx δ1=>cases e;exact hf ρ σ H δ st _ _ E l rs e1 q
 | bk δ1=>cases e;exact hf ρ σ H δ st _ _ E l rs e1 q
 | ct δ1=>cases e;exact hf ρ σ H δ st _ _ E l rs e1 q
theorem XaH {W:Addr→Hp→Prop} {t u:TS} {f g:DSt→Dm Fl} (hf:SoX K W t f) (hg:SoX K W u g):SoX K W (tSeq t u) (fSeq f g):=by
 intro ρ σ H δ st fl st' E l rs e q
 obtain ⟨x,st1,e1,e⟩:=Zab e
 refine hf ρ σ H δ st x st1 _ l rs e1 ?_
 cases x with
 | nx δ1=>exact fun σ1 H1 ρ1 m1 l1 r1=>hg ρ1 σ1 H1 δ1 st1 fl st' E l1 r1 e (q.mn m1)
 | bk δ1=>cases e;exact q
 | ct δ1=>cases e;exact q
 | rt d=>cases e;exact q
theorem xbr {W:Addr→Hp→Prop} {c:TT} {t u:TS} {fc:DSt→Dm Bool} {f g:DSt→Dm Fl} (hc:SoT K c fc) (hf:SoX K W t f) (hg:SoX K W u g):SoX K W (tIfS c t u) (fIf fc f g):=by
 intro ρ σ H δ st fl st' E l rs e q
 obtain ⟨a,st1,e1,e⟩:=Zab e
 refine hc ρ σ H δ st _ _ _ l rs e1 fun x H1 ρ1 m1 l1 r1=>?_
 subst r1
 cases x with
 | true =>
  refine iteT ?_
  rw [if_pos rfl] at e
  exact hf ρ1 σ H1 δ st1 fl st' E l1 (rs.mn m1) e (q.mn m1)
 | false =>
  refine iteF ?_
  rw [if_neg Bool.false_ne_true] at e
  exact hg ρ1 σ H1 δ st1 fl st' E l1 (rs.mn m1) e (q.mn m1)
noncomputable def fRaise0 (c:Str):DSt→Dm Fl:=fun _ st=>some (.rt (.ref st.length),st ++ [.exc c []])
theorem XaU {c:Str} {fs:List (Str×D)}:raisedD (.ref st.length) (st ++ [.exc c fs])=true:=by
 simp [raisedD]
theorem zaV {C:Addr} {c:Str} {E0:XK} (hc:PySem.W.nsIn K mainGlobals c=some (some (.ref C))):SoX K (fun a H'=>E0 (.ref a) none H') (tRaise C E0) (fRaise0 c):=by
 intro ρ σ H δ st fl st' E l rs e q
 cases e
 intro a H2 hn y
 have l1:Rl K (ρ ++ [a]) (upd H a (XO a C none none)) (st ++ [.exc c []]):=l.new hn ⟨C,none,none,hc,xah,rfl⟩
 exact q.1 XaU a H2 (ρ ++ [a]) ((Mn.new hn).trans (Mn.xs y)) (l1.xs y) (.ref (newR l))
noncomputable def spX (K:PySem.W.Frag) (n:Nat) (F:List D→Dm D):Sp:=fun vs H Q E=>vs.length=n∧∃ (ρ:List Addr) (st:Store) (ds:List D) (b:D) (st':Store),Rl K ρ H st∧Rps K ρ H vs ds∧F ds st=some (b,st') ∧
 (raisedD b st'=true→∀ a H' ρ',Mn K ρ H ρ' H'→Rl K ρ' H' st'→Rp K ρ' H' (.ref a) b→E (.ref a) none H')∧(raisedD b st'=false→∀ v H' ρ',Mn K ρ H ρ' H'→Rl K ρ' H' st'→Rp K ρ' H' v b→Q v H')
theorem fn_okX {N:List Str} {k n:Nat} {t:TS} {b:DSt→Dm Fl} {vs:List V} {H:Hp} {Q:VK} {E:XK} (hb:SoX K (fun a H'=>E (.ref a) none H') t b) (hn:N.length=n) (h:spX K k (fnF n b) vs H Q E):t { nx:=fun _ H'=>Q .non H',rt:=Q } (start N vs) H:=by
 obtain ⟨hk,ρ,st,ds,d,st',l,r,e,q1,q2⟩:=h
 subst hn
 obtain ⟨fl,st1,e1,e⟩:=Zab e
 refine hb ρ _ H _ st fl st1 _ l (Rs.start r N) e1 ?_
 cases fl with
 | rt v=>cases e;exact ⟨q1,q2⟩
 | nx δ=>cases e;exact fun σ' H' ρ' m l' r'=>q2 rfl .non H' ρ' m l' .non
 | bk δ=>cases e
 | ct δ=>cases e
noncomputable def SoY (K:PySem.W.Frag) (t:(St→Addr→Hp→Prop)→TS) (f:DSt→Dm Fl):Prop :=
 ∀ (ρ:List Addr) (σ:St) (H:Hp) (δ:DSt) (st:Store) (fl:Fl) (st':Store) (E:Ends) (W:St→Addr→Hp→Prop),Rl K ρ H st→Rs K ρ H σ δ→f δ st=some (fl,st')→GoX K (W σ) ρ H st' E fl→t W E σ H
theorem soY_pl {t:TS} {f:DSt→Dm Fl} (hf:SoS K t f):SoY K (fun _=>t) (fPl f):=fun ρ σ H δ st fl st' E W l rs e q=>YaE (W:=W σ) hf ρ σ H δ st fl st' E l rs e q
noncomputable def fRetX (d:D) (F:List D→Dm D) (fa:DSt→Dm (List D)):DSt→Dm Fl:=fun δ st=>bnd (fa δ st) fun as st1=>bnd (F as st1) fun b st2=>if raisedD b st2=true then some (.rt b,st2) else some (.rt (.tup [d,b]),st2)
theorem Xbr {n:Nat} {v0:V} {d:D} {F:List D→Dm D} {ta:TA} {fa:DSt→Dm (List D)} (hv:∀ ρ H,Rp K ρ H v0 d) (ha:SoA K ta fa) (hn:∀ δ st as st',fa δ st=some (as,st')→as.length=n) :
  SoY K (fun W=>tRet (tTup (tCons (tC v0) (tCons (tCallX (spX K n F) W ta) tNil)))) (fRetX d F fa):=by
 intro ρ σ H δ st fl st' E W l rs e q
 obtain ⟨as,st1,e1,e⟩:=Zab e
 obtain ⟨b,st2,e2,e⟩:=Zab e
 refine ha ρ σ H δ st as st1 _ l rs e1 fun vs H1 ρ1 m1 l1 r1=>⟨by rw [r1.length];exact hn _ _ _ _ e1,ρ1,st1,as,b,st2,l1,r1,e2,fun hr a H3 ρ3 m3 l3 r3=>?_,fun hr v H3 ρ3 m3 l3 r3=>?_⟩
 ·rw [if_pos hr] at e
  cases e
  exact ⟨a,rfl,q.1 hr a H3 ρ3 (m1.trans m3) l3 r3⟩
 ·rw [hr,if_neg Bool.false_ne_true] at e
  cases e
  refine ⟨by show 2≤sizeLine;decide,fun p hp=>?_⟩
  have m4:Mn K ρ3 H3 ρ3 (upd H3 p (.tup [v0,v])):=Mn.same (Same.up hp)
  exact q.2 rfl _ _ ρ3 ((m1.trans m3).trans m4) (l3.same (Same.up hp)) (.tup (SqT.of xah) (.cons (hv _ _) (.cons (r3.mn m4) .nil)))
noncomputable def fIfRet (c:DSt→Dm Bool) (f g:DSt→Dm Fl):DSt→Dm Fl:=fun δ st=>bnd (c δ st) fun a st1=>if a=true then bnd (f δ st1) fun fl st2=>match fl with
  | .rt d=>some (.rt d,st2)
  | _=>none
 else g δ st1
theorem Ya6 {c:TT} {t u:(St→Addr→Hp→Prop)→TS} {fc:DSt→Dm Bool} {f g:DSt→Dm Fl} (hc:SoT K c fc) (hf:SoY K t f) (hg:SoY K u g):SoY K (fun W=>tSeq (tIfS c (t W) tNext) (u W)) (fIfRet fc f g):=by
 intro ρ σ H δ st fl st' E W l rs e q
 obtain ⟨a,st1,e1,e⟩:=Zab e
 refine hc ρ σ H δ st _ _ _ l rs e1 fun x H1 ρ1 m1 l1 r1=>?_
 subst r1
 cases x with
 | true =>
  refine iteT ?_
  rw [if_pos rfl] at e
  obtain ⟨x,st2,e2,e⟩:=Zab e
  cases x with
  | rt d=>cases e;exact hf ρ1 σ H1 δ st1 _ _ _ W l1 (rs.mn m1) e2 (q.mn m1)
  | nx δ1=>cases e
  | bk δ1=>cases e
  | ct δ1=>cases e
 | false =>
  refine iteF ?_
  rw [if_neg Bool.false_ne_true] at e
  exact hg ρ1 σ H1 δ st1 fl st' E W l1 (rs.mn m1) e (q.mn m1)
noncomputable def catches (sub:Str→Bool) (d:D) (st:Store):Bool:=match d with
 | .ref i=>match st[i]? with
  | some (.exc c _)=>sub c
  | _=>false
 | _=>false
noncomputable def fTry (f:DSt→Dm Fl) (sub:Str→Bool) (i:Nat) (fs:DSt→Dm Fl):DSt→Dm Fl:=fun δ st=>bnd (f δ st) fun fl st1=>match fl with
 | .rt d=>if raisedD d st1=true then (if catches sub d st1=true then bnd (fs (δ.set i (some d)) st1) (fun fl2 st2=>match fl2 with
   | .nx δ2=>some (.nx (δ2.set i none),st2)
   | .rt x=>some (.rt x,st2)
   | _=>none) else none) else some (.rt d,st1)
 | x=>some (x,st1)
theorem Rs.unset {σ:St} {δ:DSt} {i:Nat} (h:Rs K ρ H σ δ):Rs K ρ H (σ.set i none) (δ.set i none):=by
 refine ⟨by rw [List.length_set,List.length_set];exact h.1,fun j e hj=>?_⟩
 by_cases hij:i=j
 ·subst hij
  have hl:i < δ.length:=by
   have:=(List.getElem?_eq_some_iff.mp hj).1
   rwa [List.length_set] at this
  rw [List.getElem?_set_self hl] at hj
  cases hj
 ·rw [List.getElem?_set_ne hij] at hj
  obtain ⟨w,hw,rw'⟩:=h.2 j e hj
  exact ⟨w,by rw [List.getElem?_set_ne hij];exact hw,rw'⟩
theorem so_try {t:(St→Addr→Hp→Prop)→TS} {ts:TS} {f fs:DSt→Dm Fl} {sub:Str→Bool} {F:Addr} {i:Nat} (hf:SoY K t f) (hs:SoS K ts fs) (hsub:∀ c C,sub c=true→PySem.W.nsIn K mainGlobals c=some (some (.ref C))→PySem.W.mroIn K C (.ref F)=some true) :
  SoS K (tTry K t F i ts) (fTry f sub i fs):=by
 intro ρ σ H δ st fl st' E l rs e q
 obtain ⟨x,st1,e1,e⟩:=Zab e
 refine hf ρ σ H δ st x st1 E _ l rs e1 ?_
 cases x with
 | nx δ1=>cases e;exact q
 | bk δ1=>cases e;exact q
 | ct δ1=>cases e;exact q
 | rt d =>
  dsimp only at e
  refine ⟨fun hr a H' ρ' m' l' r'=>?_,fun hr=>?_⟩
  ·rw [if_pos hr] at e
   obtain ⟨j,c,gs,rfl,hj⟩:=xaU hr
   split at e
   ·next hca =>
    have hc:sub c=true:=by simpa [catches,hj] using hca
    obtain ⟨y,st2,e2,e⟩:=Zab e
    cases r' with
    | ref hra =>
     obtain ⟨C,dx,tr,hn,ea,_⟩:=l'.obj j a _ hra hj
     refine ⟨C,dx,tr,ea,hsub c C hc hn,hs ρ' _ H' _ st1 y st2 _ l' ((rs.mn m').set (.ref hra)) e2 ?_⟩
     cases y with
     | nx δ2=>cases e;exact fun σ3 H3 ρ3 m3 l3 r3=>q _ H3 ρ3 (m'.trans m3) l3 r3.unset
     | rt v=>cases e;exact fun v3 H3 ρ3 m3 l3 r3=>q v3 H3 ρ3 (m'.trans m3) l3 r3
     | bk δ2=>cases e
     | ct δ2=>cases e
   ·cases e
  ·rw [hr,if_neg Bool.false_ne_true] at e
   cases e
   exact q
noncomputable def fIsX (ans:Str→Option Bool) (f:DSt→Dm D):DSt→Dm D:=fun δ st=>bnd (f δ st) fun d st1=>match d with
 | .ref i=>match st1[i]? with
  | some (.exc c _)=>match ans c with
   | some b=>some (.bl b,st1)
   | none=>none
  | _=>none
 | _=>none
theorem XaR {dx:Option Addr} {fs:List (Str×D)} (h:Xd K ρ H dx fs):∀ d,dx=some d→∃ ws,H d=some (.xd ws):=fun d e=>by
 subst e;obtain ⟨ws,e,_⟩:=h;exact ⟨ws,e⟩
theorem Xbi {te:TE} {f:DSt→Dm D} {v:V} {cv:Value} {ans:Str→Option Bool} (hf:SoE K te f) (hv:clsV v=some cv)
  (h:∀ c C b,ans c=some b→PySem.W.nsIn K mainGlobals c=some (some (.ref C))→ExI K C∧PySem.W.kitOne K (.ref C) cv=some b):SoE K (tCB (rIsX K) (tCons te (tCons (tC v) tNil))) (fIsX ans f):=by
 intro ρ σ H δ st b st' Q l rs e q
 obtain ⟨d,st1,e1,e⟩:=Zab e
 refine hf ρ σ H δ st d st1 _ l rs e1 fun x H1 ρ1 m1 l1 r1=>?_
 split at e
 ·split at e
  ·next c fs hj =>
   split at e
   ·next b0 hb =>
    cases e
    cases r1 with
    | ref hra =>
     obtain ⟨C,dx,tr,hn,ea,hx⟩:=l1.obj _ _ _ hra hj
     obtain ⟨ei,k⟩:=h c C b0 hb hn
     exact ⟨_,C,dx,tr,v,b0,rfl,ea,XaR hx,ei,.inl ⟨cv,hv,k⟩,q _ H1 ρ1 m1 l1 (.bl b0)⟩
   ·cases e
  ·cases e
 ·cases e
theorem so_isT {te:TE} {f:DSt→Dm D} {tcs:TA} {vs:List V} {cs:List Value} {ans:Str→Option Bool} (hf:SoE K te f) (ht:∀ σ H Q,Q vs H→tcs σ H Q) (hl:vs.length≤sizeLine) (hv:clsVs vs=some cs)
  (h:∀ c C b,ans c=some b→PySem.W.nsIn K mainGlobals c=some (some (.ref C))→ExI K C∧PySem.W.kitAny K (.ref C) cs=some b):SoE K (tCB (rIsX K) (tCons te (tCons (tTup tcs) tNil))) (fIsX ans f):=by
 intro ρ σ H δ st b st' Q l rs e q
 obtain ⟨d,st1,e1,e⟩:=Zab e
 refine hf ρ σ H δ st d st1 _ l rs e1 fun x H1 ρ1 m1 l1 r1=>ht σ H1 _ ⟨hl,fun p hp=>?_⟩
 have sm:Same H1 (upd H1 p (.tup vs)):=Same.up hp
 have m2:Mn K ρ1 H1 ρ1 (upd H1 p (.tup vs)):=Mn.same sm
 have l2:=l1.same sm
 have r2:=r1.mn m2
 split at e
 ·split at e
  ·next c fs hj =>
   split at e
   ·next b0 hb =>
    cases e
    cases r2 with
    | ref hra =>
     obtain ⟨C,dx,tr,hn,ea,hx⟩:=l2.obj _ _ _ hra hj
     obtain ⟨ei,k⟩:=h c C b0 hb hn
     exact ⟨_,C,dx,tr,_,b0,rfl,ea,XaR hx,ei,.inr ⟨p,vs,cs,rfl,xah,hv,k⟩,q _ _ ρ1 (m1.trans m2) l2 (.bl b0)⟩
   ·cases e
  ·cases e
 ·cases e
noncomputable def ans1 (x:Str) (b:Bool):Str→Option Bool:=fun c=>if c=x then some b else none
noncomputable def sub1 (x:Str):Str→Bool:=fun c=>decide (c=x)
theorem zaO {x:Str} {C0:Addr} {b0:Bool} {R:Addr→Bool→Prop} (hn:PySem.W.nsIn K mainGlobals x=some (some (.ref C0))) (k:R C0 b0):∀ c C b,ans1 x b0 c=some b→PySem.W.nsIn K mainGlobals c=some (some (.ref C))→R C b:=fun c C b h n=>by
 unfold ans1 at h
 split at h
 ·next e=>subst e;cases h;rw [hn] at n;cases n;exact k
 ·cases h
theorem zbs {x:Str} {C0 F:Addr} (hn:PySem.W.nsIn K mainGlobals x=some (some (.ref C0))) (k:PySem.W.mroIn K C0 (.ref F)=some true):∀ c C,sub1 x c=true→PySem.W.nsIn K mainGlobals c=some (some (.ref C))→PySem.W.mroIn K C (.ref F)=some true:=fun c C h n=>by
 have e:c=x:=of_decide_eq_true h
 subst e
 rw [hn] at n;cases n;exact k
abbrev bmV:List Value:=[.type "ValueError",.type "Exception",.type "BaseException",.type "object"]
theorem zaI:bootBuiltins "ValueError" = some (.type "ValueError"):=by decide +kernel
noncomputable def IsXQ (ans:Str→Option Bool) (d:D) (st1:Store) (Q:D→Store→Prop):Prop:=∃ i c fs b,d=.ref i∧st1[i]?=some (.exc c fs)∧ans c=some b∧Q (.bl b) st1
theorem isxq {x:Str} {b:Bool} {i:Nat} {fs:List (Str×D)} {st:Store} {Q:D→Store→Prop} (hi:st[i]?=some (.exc x fs)) (q:Q (.bl b) st):IsXQ (ans1 x b) (.ref i) st Q:=⟨i,x,fs,b,rfl,hi,by unfold ans1;rw [if_pos rfl],q⟩
theorem zbj {f:DSt→Dm D} {δ:DSt} {st:Store} {ans:Str→Option Bool} {Q:D→Store→Prop}:Wp (fIsX ans f δ st) Q↔Wp (f δ st) fun d st1=>IsXQ ans d st1 Q:=by
 constructor
 ·rintro ⟨d,st',e,q⟩
  obtain ⟨x,st1,e1,e⟩:=Zab e
  refine ⟨x,st1,e1,?_⟩
  split at e
  ·split at e
   ·next c fs hj =>
    split at e
    ·next b hb=>cases e;exact ⟨_,c,fs,b,rfl,hj,hb,q⟩
    ·cases e
   ·cases e
  ·cases e
 ·rintro ⟨x,st1,e1,i,c,fs,b,rfl,hj,hb,q⟩
  refine ⟨.bl b,st1,?_,q⟩
  unfold fIsX
  rw [e1]
  simp [bnd,hj,hb]
end
section
variable {st:Store} {δ:DSt} {N B C:DSt→Store→Prop} {R:D→Store→Prop} {f g:DSt→Dm Fl}
theorem yaO (h:Ws (f δ st) N B C (fun d s=>raisedD d s=false∧R d s)):Ws (fPl f δ st) N B C R:=by
 obtain ⟨fl,s1,e,q⟩:=h
 unfold fPl
 rw [e]
 cases fl with
 | rt d=>refine ⟨.rt d,s1,?_,q.2⟩;simp [bnd,q.1]
 | nx δ1=>exact ⟨.nx δ1,s1,rfl,q⟩
 | bk δ1=>exact ⟨.bk δ1,s1,rfl,q⟩
 | ct δ1=>exact ⟨.ct δ1,s1,rfl,q⟩
theorem xa6 {c:Str} (h:R (.ref st.length) (st ++ [.exc c []])):Ws (fRaise0 c δ st) N B C R:=Yaa.mpr h
theorem ybj {sub:Str→Bool} {i:Nat} {fs:DSt→Dm Fl} (h:Ws (f δ st) N B C (fun d s=>(raisedD d s=false→R d s)∧(raisedD d s=true→catches sub d s=true∧Ws (fs (δ.set i (some d)) s) (fun δ2 s2=>N (δ2.set i none) s2) (fun _ _=>False) (fun _ _=>False) R))) :
  Ws (fTry f sub i fs δ st) N B C R:=by
 obtain ⟨fl,s1,e,q⟩:=h
 unfold fTry
 rw [e]
 cases fl with
 | rt d =>
  cases hr:raisedD d s1 with
  | false=>refine ⟨.rt d,s1,?_,q.1 hr⟩;simp [bnd,hr]
  | true =>
   obtain ⟨hc,fl2,s2,e2,q2⟩:=q.2 hr
   cases fl2 with
   | rt x=>refine ⟨.rt x,s2,?_,q2⟩;simp [bnd,hr,hc,e2]
   | nx δ1=>refine ⟨.nx (δ1.set i none),s2,?_,q2⟩;simp [bnd,hr,hc,e2]
   | bk δ1=>exact q2.elim
   | ct δ1=>exact q2.elim
 | nx δ1=>exact ⟨.nx δ1,s1,rfl,q⟩
 | bk δ1=>exact ⟨.bk δ1,s1,rfl,q⟩
 | ct δ1=>exact ⟨.ct δ1,s1,rfl,q⟩
theorem zaS {c:DSt→Dm Bool} (h:Wp (c δ st) fun b s1=>(b=true→Ws (f δ s1) (fun _ _=>False) (fun _ _=>False) (fun _ _=>False) R)∧(b=false→Ws (g δ s1) N B C R)):Ws (fIfRet c f g δ st) N B C R:=by
 obtain ⟨b,s1,e,q⟩:=h
 unfold fIfRet
 rw [e]
 cases b with
 | false=>exact q.2 rfl
 | true =>
  obtain ⟨fl,s2,e2,q2⟩:=q.1 rfl
  cases fl with
  | rt d=>refine ⟨.rt d,s2,?_,q2⟩;simp [bnd,e2]
  | nx δ1=>exact q2.elim
  | bk δ1=>exact q2.elim
  | ct δ1=>exact q2.elim
theorem ybs {d:D} {F:List D→Dm D} {fa:DSt→Dm (List D)} (h:Wp (fa δ st) fun as s1=>Wp (F as s1) fun b s2=>(raisedD b s2=true→R b s2)∧(raisedD b s2=false→R (.tup [d,b]) s2)):Ws (fRetX d F fa δ st) N B C R:=by
 obtain ⟨as,s1,e,b,s2,e2,q⟩:=h
 unfold fRetX
 rw [e]
 cases hr:raisedD b s2 with
 | true=>refine ⟨.rt b,s2,?_,q.1 hr⟩;simp [bnd,e2,hr]
 | false=>refine ⟨.rt (.tup [d,b]),s2,?_,q.2 hr⟩;simp [bnd,e2,hr]
end
end L4
namespace L4
open PySem PySem.Spec L2
section
variable {K:PySem.W.Frag}
noncomputable def gCount:D→List D→Dm D
 | .str a,[.str b],st=>some (.int (PySem.Txt.count a b),st)
 | _,_,_=>none
theorem yaS:SoM K "str" rCount gCount:=by
 intro ρ H st x xs a as b st' Q l rx rxs e q
 unfold gCount at e
 split at e
 ·next a b =>
  cases e
  obtain ⟨v,rfl,r⟩:=rxs.one'
  cases r
  cases rx
  exact ⟨a,b,rfl,rfl,q _ H ρ .refl l (.int _)⟩
 ·cases e
theorem Ybd {st:Store} {Q:D→Store→Prop} {a b:Str}:Wp (gCount (.str a) [.str b] st) Q↔Q (.int (PySem.Txt.count a b)) st:=Yaa
end
end L4
namespace L4
open PySem PySem.Spec L2
noncomputable def fr (c:Nat) (ws:List Str):Prop:=∀ w∈ws,c ∉ w.cps.toList
end L4
namespace My
open PySem L2 L4
noncomputable def top (i:Nat):Stmt:=PySem.Challenge.pw_shearfloor_k32_tables_of_slopes.main.body.getD i (.Pass ⟨0,0,0,0⟩)
structure Txt (mg:Str→Option Value):Prop where
 n_ValueError:mg "ValueError" = none
 n_abs:mg "abs" = none
 n_all:mg "all" = none
 n_bool:mg "bool" = none
 n_int:mg "int" = none
 n_isinstance:mg "isinstance" = none
 n_len:mg "len" = none
 n_max:mg "max" = none
 n_min:mg "min" = none
 n_range:mg "range" = none
 n_tuple:mg "tuple" = none
structure XF (K:PySem.W.Frag) (mg:Str→Option Value) (cNoSlope cFloorError cNoFloor cNoName cNoRow cNoTable cNoText cTooMany:Addr):Prop where
 m_NoSlope:mg "NoSlope" = some (.ref cNoSlope)
 m_FloorError:mg "FloorError" = some (.ref cFloorError)
 m_NoFloor:mg "NoFloor" = some (.ref cNoFloor)
 m_NoName:mg "NoName" = some (.ref cNoName)
 m_NoRow:mg "NoRow" = some (.ref cNoRow)
 m_NoTable:mg "NoTable" = some (.ref cNoTable)
 m_NoText:mg "NoText" = some (.ref cNoText)
 m_TooMany:mg "TooMany" = some (.ref cTooMany)
 n_NoSlope:PySem.W.nsIn K mainGlobals "NoSlope" = some (some (.ref cNoSlope))
 n_FloorError:PySem.W.nsIn K mainGlobals "FloorError" = some (some (.ref cFloorError))
 n_NoFloor:PySem.W.nsIn K mainGlobals "NoFloor" = some (some (.ref cNoFloor))
 n_NoName:PySem.W.nsIn K mainGlobals "NoName" = some (some (.ref cNoName))
 n_NoRow:PySem.W.nsIn K mainGlobals "NoRow" = some (some (.ref cNoRow))
 n_NoTable:PySem.W.nsIn K mainGlobals "NoTable" = some (some (.ref cNoTable))
 n_NoText:PySem.W.nsIn K mainGlobals "NoText" = some (some (.ref cNoText))
 n_TooMany:PySem.W.nsIn K mainGlobals "TooMany" = some (some (.ref cTooMany))
 x_FloorError:PySem.W.excIn K cFloorError bmV "ValueError.__new__" = true
 x_NoSlope:PySem.W.excIn K cNoSlope bmV "ValueError.__new__" = true
 s_FloorError:PySem.W.mroIn K cNoSlope (.ref cFloorError)=some true
 i_NoSlope:ExI K cNoSlope
 k0:PySem.W.kitAny K (.ref cNoSlope) [.ref cNoFloor,.ref cNoName,.ref cNoRow,.ref cNoTable,.ref cNoText,.ref cTooMany]=some false
 k1:PySem.W.kitOne K (.ref cNoSlope) (.ref cNoSlope)=some true
 k2:PySem.W.kitOne K (.ref cNoSlope) (.type "ValueError")=some true
theorem xf_mk {K:PySem.W.Frag} {mg:Str→Option Value} {h:Heap} {cNoSlope cFloorError cNoFloor cNoName cNoRow cNoTable cNoText cTooMany:Addr} (KX:K.In h) (G:h.Ns mainGlobals mg) (n_NoSlope:PySem.W.nsIn K mainGlobals "NoSlope" = some (some (.ref cNoSlope))) (n_FloorError:PySem.W.nsIn K mainGlobals "FloorError" = some (some (.ref cFloorError))) (n_NoFloor:PySem.W.nsIn K mainGlobals "NoFloor" = some (some (.ref cNoFloor))) (n_NoName:PySem.W.nsIn K mainGlobals "NoName" = some (some (.ref cNoName))) (n_NoRow:PySem.W.nsIn K mainGlobals "NoRow" = some (some (.ref cNoRow))) (n_NoTable:PySem.W.nsIn K mainGlobals "NoTable" = some (some (.ref cNoTable))) (n_NoText:PySem.W.nsIn K mainGlobals "NoText" = some (some (.ref cNoText))) (n_TooMany:PySem.W.nsIn K mainGlobals "TooMany" = some (some (.ref cTooMany))) (x_FloorError:PySem.W.excIn K cFloorError bmV "ValueError.__new__" = true) (x_NoSlope:PySem.W.excIn K cNoSlope bmV "ValueError.__new__" = true) (s_FloorError:PySem.W.mroIn K cNoSlope (.ref cFloorError)=some true) (k0:PySem.W.kitAny K (.ref cNoSlope) [.ref cNoFloor,.ref cNoName,.ref cNoRow,.ref cNoTable,.ref cNoText,.ref cTooMany]=some false) (k1:PySem.W.kitOne K (.ref cNoSlope) (.ref cNoSlope)=some true) (k2:PySem.W.kitOne K (.ref cNoSlope) (.type "ValueError")=some true) (i_NoSlope:ExI K cNoSlope):XF K mg cNoSlope cFloorError cNoFloor cNoName cNoRow cNoTable cNoText cTooMany :=
 ⟨PySem.W.mg_of KX G n_NoSlope,PySem.W.mg_of KX G n_FloorError,PySem.W.mg_of KX G n_NoFloor,PySem.W.mg_of KX G n_NoName,PySem.W.mg_of KX G n_NoRow,PySem.W.mg_of KX G n_NoTable,PySem.W.mg_of KX G n_NoText,PySem.W.mg_of KX G n_TooMany,n_NoSlope,n_FloorError,n_NoFloor,n_NoName,n_NoRow,n_NoTable,n_NoText,n_TooMany,x_FloorError,x_NoSlope,s_FloorError,i_NoSlope,k0,k1,k2⟩
section
variable {P:Program} {w:World} {K:PySem.W.Frag} {mg:Str→Option Value} {base:Heap}
noncomputable def zat:DSt→Dm Fl :=
 (fSeq (fIf (fTest (fOp gGt (fOp gIxL (fVar 0) (fC (.int 0))) (fC (.int 0)))) (fSeq (fAsg (fOp gMod (fOp gIxL (fVar 0) (fC (.int 0))) (fVar 1)) (hName 2))
 (fSeq (fAsg (fOp gFdiv (fOp gIxL (fVar 0) (fC (.int 0))) (fVar 1)) (hSub (fVar 0) (fC (.int 0))))
 (fRet (fVar 2)))) fNext)
 (fSeq (fAsg (fOp gMod (fOp gMul (fOp gIxL (fVar 0) (fC (.int 1))) (fC (.int 48271))) (fC (.int 2147483647))) (hName 3))
 (fSeq (fAsg (fOp gAdd (fOp gMod (fOp gAdd (fOp gMul (fVar 3) (fC (.int 40692))) (fC (.int 30103))) (fC (.int 2147483399))) (fC (.int 1))) (hSub (fVar 0) (fC (.int 1))))
 (fRet (fOp gMod (fOp gFdiv (fOp gAdd (fOp gMul (fVar 3) (fC (.int 2147483647))) (fOp gIxL (fVar 0) (fC (.int 1)))) (fC (.int 8191))) (fVar 1))))))
noncomputable def zae:List D→Dm D:=fnF 4 zat
noncomputable def xaq:Stmt:=top 26
theorem Xau:FnScope ["_law_feed_here","_law_many","_law_digit","_law_one"] ["_law_feed_here","_law_many"] (defScope xaq):=⟨rfl,rfl,rfl,by decide +kernel,rfl,by decide +kernel,by decide +kernel⟩
theorem yaL {f:Addr} {fd:FuncData} (D:Def K mg "_law_take" xaq ["_law_feed_here","_law_many"] f fd) (T:Txt mg)  :FnOk P w K mg base CX0 1 f fd ["_law_feed_here","_law_many"] (spF K 2 zae):=by
 refine D.F.ok Xau (fun vs H Q E h=>h.1) (fun cdv A outer s H vs Q E hr h=>?_)
 have hu:=hr.units
 have hu1:=Yaw hr
 refine ⟨_,(yab (xat (Xae Ya8 (Zaf zaq (pv 0) xaa (fun _ _=>rfl)) xaa (nomark _)) (yab (yaf (i:=2) Xau.nd rfl (by first | exact Or.inl rfl | exact Or.inr rfl) (zad yax (Zaf zaq (pv 0) xaa (fun _ _=>rfl)) (pv 1)))
  (yab (ZaP (zad YaF (Zaf zaq (pv 0) xaa (fun _ _=>rfl)) (pv 1)) (zbf (pv 0) xaa XaP))
  (Xac (xag (pv 2))))) yaj)
  (yab (yaf (i:=3) Xau.nd rfl (by first | exact Or.inl rfl | exact Or.inr rfl) (zad yax (zad Yaj (Zaf zaq (pv 0) xaa (fun _ _=>rfl)) xaa) xaa))
  (yab (ZaP (zad Xai (zad yax (zad Xai (zad Yaj (pv 3) xaa) xaa) xaa) xaa) (zbf (pv 0) xaa XaP))
  (Xac (xag (zad yax (zad YaF (zad Xai (zad Yaj (pv 3) xaa) (Zaf zaq (pv 0) xaa (fun _ _=>rfl))) xaa) (pv 1))))))),?_⟩
 exact Xaw (b:=zat) (Zad (Yaq (Zae (zab Xa9 (zab zau (yaa 0) (Xaa _)) (Xaa _))) (Zad (Yad (zab Zax (zab zau (yaa 0) (Xaa _)) (yaa 1)) (zac 2))
  (Zad (Yad (zab YaG (zab zau (yaa 0) (Xaa _)) (yaa 1)) (Xa1 (yaa 0) (Xaa _)))
  (Xag (yaa 2)))) zal)
  (Zad (Yad (zab Zax (zab Xaj (zab zau (yaa 0) (Xaa _)) (Xaa _)) (Xaa _)) (zac 3))
  (Zad (Yad (zab zaj (zab Zax (zab zaj (zab Xaj (yaa 3) (Xaa _)) (Xaa _)) (Xaa _)) (Xaa _)) (Xa1 (yaa 0) (Xaa _)))
  (Xag (zab Zax (zab YaG (zab zaj (zab Xaj (yaa 3) (Xaa _)) (zab zau (yaa 0) (Xaa _))) (Xaa _)) (yaa 1)))))) rfl h
noncomputable def xao:DSt→Dm Fl :=
 (fSeq (fPar 0 1 (fCons (fCB gMax2 (fCons (fVar 0) (fCons (fOp gSub (fC (.int 0)) (fVar 0)) fNil))) (fCons (fCB gMax2 (fCons (fVar 1) (fCons (fOp gSub (fC (.int 0)) (fVar 1)) fNil))) fNil)))
 (fSeq (fWhile (fTest (fOp (gEq true) (fVar 1) (fC (.int 0)))) (fPar 0 1 (fCons (fVar 1) (fCons (fOp gMod (fVar 0) (fVar 1)) fNil))))
 (fRet (fVar 0))))
noncomputable def Yag:List D→Dm D:=fnF 2 xao
noncomputable def Yai:Stmt:=top 27
theorem Yas:FnScope ["_law_a","_law_c"] ["_law_a","_law_c"] (defScope Yai):=⟨rfl,rfl,rfl,by decide +kernel,rfl,by decide +kernel,by decide +kernel⟩
theorem ZaC {f:Addr} {fd:FuncData} (D:Def K mg "_law_common" Yai ["_law_a","_law_c"] f fd) (T:Txt mg)  :FnOk P w K mg base CX0 1 f fd ["_law_a","_law_c"] (spF K 2 Yag):=by
 refine D.F.ok Yas (fun vs H Q E h=>h.1) (fun cdv A outer s H vs Q E hr h=>?_)
 have hu:=hr.units
 have hu1:=Yaw hr
 refine ⟨_,(yab (ybf (i:=0) (j:=1) rfl Yas.nd rfl rfl (by decide) rfl rfl (zaa (yae (Xam rfl) (by rfl) T.n_max Xay (zaa (pv 0) (zaa (zad xay xaa (pv 0)) Xab))) (zaa (yae (Xam rfl) (by rfl) T.n_max Xay (zaa (pv 1) (zaa (zad xay xaa (pv 1)) Xab))) Xab)) rfl)
  (yab (ZaF PassesOwn.never (Xae zaC (pv 1) xaa (nomark _)) (Xac (ybf (i:=0) (j:=1) rfl Yas.nd rfl rfl (by decide) rfl rfl (zaa (pv 1) (zaa (zad yax (pv 0) (pv 1)) Xab)) rfl)))
  (Xac (xag (pv 0))))),?_⟩
 exact Xaw (b:=xao) (Zad (xbh (Zaa (xar yau (Zaa (yaa 0) (Zaa (zab Zaz (Xaa _) (yaa 0)) yac))) (Zaa (xar yau (Zaa (yaa 1) (Zaa (zab Zaz (Xaa _) (yaa 1)) yac))) yac)))
  (Zad (XaG (Zae (zab yaC (yaa 1) (Xaa _))) (xbh (Zaa (yaa 1) (Zaa (zab Zax (yaa 0) (yaa 1)) yac))))
  (Xag (yaa 0)))) rfl h
noncomputable def yat:DSt→Dm Fl :=
 (fSeq (fAsg (fCB zae (fCons (fVar 0) (fCons (fC (.int 6)) fNil))) (hName 1))
 (fSeq (fAsg (fOp gIxL (fLst (fCons (fC (.int 9)) (fCons (fC (.int 1001)) fNil))) (fCB zae (fCons (fVar 0) (fCons (fC (.int 2)) fNil)))) (hName 2))
 (fSeq (fAsg (fOp gMul (fCB zae (fCons (fVar 0) (fCons (fVar 2) fNil))) (fOp gIxL (fLst (fCons (fC (.int 1)) (fCons (fUn gNeg (fC (.int 1))) fNil))) (fCB zae (fCons (fVar 0) (fCons (fC (.int 2)) fNil))))) (hName 3))
 (fSeq (fAsg (fOp gMul (fCB zae (fCons (fVar 0) (fCons (fVar 2) fNil))) (fOp gIxL (fLst (fCons (fC (.int 1)) (fCons (fC (.int 1)) (fCons (fC (.int 1)) (fCons (fUn gNeg (fC (.int 1))) fNil))))) (fCB zae (fCons (fVar 0) (fCons (fC (.int 4)) fNil))))) (hName 4))
 (fSeq (fAsg (fCB gMax2 (fCons (fC (.int 1)) (fCons (fCB Yag (fCons (fVar 3) (fCons (fVar 4) fNil))) fNil))) (hName 5))
 (fSeq (fIf (fTest (fOp gLt (fVar 1) (fC (.int 3)))) (fRet (fTup (fCons (fOp gFdiv (fVar 3) (fVar 5)) (fCons (fOp gFdiv (fVar 4) (fVar 5)) fNil)))) fNext)
 (fRet (fOp gIxL (fLst (fCons (fTup (fCons (fVar 3) (fCons (fVar 4) fNil))) (fCons (fTup (fCons (fVar 3) (fCons (fC (.int 0)) fNil))) (fCons (fTup (fCons (fC (.int 0)) (fCons (fVar 4) fNil))) fNil)))) (fOp gSub (fVar 1) (fC (.int 3)))))))))))
noncomputable def Xaq:List D→Dm D:=fnF 6 yat
noncomputable def zar:Stmt:=top 28
theorem yak:FnScope ["_law_feed_here","_law_form","_law_great","_law_a","_law_c","_law_common_here"] ["_law_feed_here"] (defScope zar):=⟨rfl,rfl,rfl,by decide +kernel,rfl,by decide +kernel,by decide +kernel⟩
theorem ZaL {f:Addr} {fd:FuncData} (D:Def K mg "_law_pair" zar ["_law_feed_here"] f fd) (T:Txt mg)  {f_law_take:Addr} {d_law_take:FuncData} (D_law_take:Def K mg "_law_take" xaq ["_law_feed_here","_law_many"] f_law_take d_law_take) (G_law_take:FnOk P w K mg base CX0 1 f_law_take d_law_take ["_law_feed_here","_law_many"] (spF K 2 zae)) {f_law_common:Addr} {d_law_common:FuncData} (D_law_common:Def K mg "_law_common" Yai ["_law_a","_law_c"] f_law_common d_law_common) (G_law_common:FnOk P w K mg base CX0 1 f_law_common d_law_common ["_law_a","_law_c"] (spF K 2 Yag)):FnOk P w K mg base CX0 2 f fd ["_law_feed_here"] (spF K 1 Xaq):=by
 refine D.F.ok yak (fun vs H Q E h=>h.1) (fun cdv A outer s H vs Q E hr h=>?_)
 have hu:=hr.units
 have hu1:=Yaw hr
 refine ⟨_,(yab (yaf (i:=1) yak.nd rfl (by first | exact Or.inl rfl | exact Or.inr rfl) (Xaf G_law_take (hr.mono (by decide)) rfl D_law_take.m D_law_take.F.kp D_law_take.b .nil pass0 (zaa (pv 0) (zaa xaa Xab))))
  (yab (yaf (i:=2) yak.nd rfl (by first | exact Or.inl rfl | exact Or.inr rfl) (Zaf zaq (yaD (zaa xaa (zaa xaa Xab))) (Xaf G_law_take (hr.mono (by decide)) rfl D_law_take.m D_law_take.F.kp D_law_take.b .nil pass0 (zaa (pv 0) (zaa xaa Xab))) (fun _ _=>rfl)))
  (yab (yaf (i:=3) yak.nd rfl (by first | exact Or.inl rfl | exact Or.inr rfl) (zad Yaj (Xaf G_law_take (hr.mono (by decide)) rfl D_law_take.m D_law_take.F.kp D_law_take.b .nil pass0 (zaa (pv 0) (zaa (pv 2) Xab))) (Zaf zaq (yaD (zaa xaa (zaa (xaS zaD xaa) Xab))) (Xaf G_law_take (hr.mono (by decide)) rfl D_law_take.m D_law_take.F.kp D_law_take.b .nil pass0 (zaa (pv 0) (zaa xaa Xab))) (fun _ _=>rfl))))
  (yab (yaf (i:=4) yak.nd rfl (by first | exact Or.inl rfl | exact Or.inr rfl) (zad Yaj (Xaf G_law_take (hr.mono (by decide)) rfl D_law_take.m D_law_take.F.kp D_law_take.b .nil pass0 (zaa (pv 0) (zaa (pv 2) Xab))) (Zaf zaq (yaD (zaa xaa (zaa xaa (zaa xaa (zaa (xaS zaD xaa) Xab))))) (Xaf G_law_take (hr.mono (by decide)) rfl D_law_take.m D_law_take.F.kp D_law_take.b .nil pass0 (zaa (pv 0) (zaa xaa Xab))) (fun _ _=>rfl))))
  (yab (yaf (i:=5) yak.nd rfl (by first | exact Or.inl rfl | exact Or.inr rfl) (yae (Xam rfl) (by rfl) T.n_max Xay (zaa xaa (zaa (Xaf G_law_common (hr.mono (by decide)) rfl D_law_common.m D_law_common.F.kp D_law_common.b .nil pass0 (zaa (pv 3) (zaa (pv 4) Xab))) Xab))))
  (yab (xat (Xae xaF (pv 1) xaa (nomark _)) (Xac (xag (xai (zaa (zad YaF (pv 3) (pv 5)) (zaa (zad YaF (pv 4) (pv 5)) Xab))))) yaj)
  (Xac (xag (Zaf zaq (yaD (zaa (xai (zaa (pv 3) (zaa (pv 4) Xab))) (zaa (xai (zaa (pv 3) (zaa xaa Xab))) (zaa (xai (zaa xaa (zaa (pv 4) Xab))) Xab)))) (zad xay (pv 1) xaa) (fun _ _=>rfl)))))))))),?_⟩
 exact Xaw (b:=yat) (Zad (Yad (zag (F:=zae) (Zaa (yaa 0) (Zaa (Xaa _) yac)) (Zac (Zac (fun _ _ _ _ h=>xaf h)))) (zac 1))
  (Zad (Yad (zab zau (yaE (Zaa (Xaa _) (Zaa (Xaa _) yac))) (zag (F:=zae) (Zaa (yaa 0) (Zaa (Xaa _) yac)) (Zac (Zac (fun _ _ _ _ h=>xaf h))))) (zac 2))
  (Zad (Yad (zab Xaj (zag (F:=zae) (Zaa (yaa 0) (Zaa (yaa 2) yac)) (Zac (Zac (fun _ _ _ _ h=>xaf h)))) (zab zau (yaE (Zaa (Xaa _) (Zaa (yaT YaK (Xaa _)) yac))) (zag (F:=zae) (Zaa (yaa 0) (Zaa (Xaa _) yac)) (Zac (Zac (fun _ _ _ _ h=>xaf h)))))) (zac 3))
  (Zad (Yad (zab Xaj (zag (F:=zae) (Zaa (yaa 0) (Zaa (yaa 2) yac)) (Zac (Zac (fun _ _ _ _ h=>xaf h)))) (zab zau (yaE (Zaa (Xaa _) (Zaa (Xaa _) (Zaa (Xaa _) (Zaa (yaT YaK (Xaa _)) yac))))) (zag (F:=zae) (Zaa (yaa 0) (Zaa (Xaa _) yac)) (Zac (Zac (fun _ _ _ _ h=>xaf h)))))) (zac 4))
  (Zad (Yad (xar yau (Zaa (Xaa _) (Zaa (zag (F:=Yag) (Zaa (yaa 3) (Zaa (yaa 4) yac)) (Zac (Zac (fun _ _ _ _ h=>xaf h)))) yac))) (zac 5))
  (Zad (Yaq (Zae (zab xaG (yaa 1) (Xaa _))) (Xag (xaj (Zaa (zab YaG (yaa 3) (yaa 5)) (Zaa (zab YaG (yaa 4) (yaa 5)) yac)))) zal)
  (Xag (zab zau (yaE (Zaa (xaj (Zaa (yaa 3) (Zaa (yaa 4) yac))) (Zaa (xaj (Zaa (yaa 3) (Zaa (Xaa _) yac))) (Zaa (xaj (Zaa (Xaa _) (Zaa (yaa 4) yac))) yac)))) (zab Zaz (yaa 1) (Xaa _)))))))))) rfl h
noncomputable def Zat:DSt→Dm Fl :=
 (fSeq (fAsg (fOp gAdd (fOp gMul (fC (.int 7901)) (fVar 1)) (fC (.int 24697))) (hName 2))
 (fSeq (fIf (fTest (fOp gLt (fVar 1) (fCB gLen (fCons (fVar 0) fNil)))) (fAsg (fOp gIxL (fVar 0) (fVar 1)) (hName 2)) (fIf (fTest (fOp gGt (fCB gLen (fCons (fVar 0) fNil)) (fC (.int 0)))) (fAsg (fOp gAdd (fOp gMul (fOp gMod (fOp gIxL (fVar 0) (fOp gMod (fVar 1) (fCB gLen (fCons (fVar 0) fNil)))) (fC (.int 2147483629))) (fC (.int 31))) (fOp gMul (fC (.int 7901)) (fVar 1))) (hName 2)) fNext))
 (fSeq (fAsg (fC (.int 0)) (hName 3))
 (fSeq (fIf (fTest (fOp gGe (fVar 2) (fOp gPow (fC (.int 10)) (fC (.int 18))))) (fAsg (fVar 2) (hName 3)) fNext)
 (fRet (fLst (fCons (fVar 3) (fCons (fOp gAdd (fOp gMod (fOp gPow (fOp gAdd (fOp gMul (fOp gMod (fVar 2) (fC (.int 2147483629))) (fC (.int 48271))) (fOp gMul (fC (.int 40692)) (fVar 1))) (fC (.int 5))) (fC (.int 2147483629))) (fC (.int 1))) fNil))))))))
noncomputable def yar:List D→Dm D:=fnF 4 Zat
noncomputable def Zar:Stmt:=top 25
theorem Zak:FnScope ["_law_script","_law_k","_law_cell","_law_own"] ["_law_script","_law_k"] (defScope Zar):=⟨rfl,rfl,rfl,by decide +kernel,rfl,by decide +kernel,by decide +kernel⟩
theorem YaL {f:Addr} {fd:FuncData} (D:Def K mg "_law_feed" Zar ["_law_script","_law_k"] f fd) (T:Txt mg)  :FnOk P w K mg base CX0 1 f fd ["_law_script","_law_k"] (spF K 2 yar):=by
 refine D.F.ok Zak (fun vs H Q E h=>h.1) (fun cdv A outer s H vs Q E hr h=>?_)
 have hu:=hr.units
 have hu1:=Yaw hr
 refine ⟨_,(yab (yaf (i:=2) Zak.nd rfl (by first | exact Or.inl rfl | exact Or.inr rfl) (zad Xai (zad Yaj xaa (pv 1)) xaa))
  (yab (xat (Xae xaF (pv 1) (yae zan (by rfl) T.n_len ZaD (zaa (pv 0) Xab)) (nomark _)) (Xac (yaf (i:=2) Zak.nd rfl (by first | exact Or.inl rfl | exact Or.inr rfl) (Zaf zaq (pv 0) (pv 1) (fun _ _=>rfl)))) (Xac (xat (Xae Ya8 (yae zan (by rfl) T.n_len ZaD (zaa (pv 0) Xab)) xaa (nomark _)) (Xac (yaf (i:=2) Zak.nd rfl (by first | exact Or.inl rfl | exact Or.inr rfl) (zad Xai (zad Yaj (zad yax (Zaf zaq (pv 0) (zad yax (pv 1) (yae zan (by rfl) T.n_len ZaD (zaa (pv 0) Xab))) (fun _ _=>rfl)) xaa) xaa) (zad Yaj xaa (pv 1))))) yaj)))
  (yab (yaf (i:=3) Zak.nd rfl (by first | exact Or.inl rfl | exact Or.inr rfl) xaa)
  (yab (xat (Xae op_ge (pv 2) (zad Ybf xaa xaa) (nomark _)) (Xac (yaf (i:=3) Zak.nd rfl (by first | exact Or.inl rfl | exact Or.inr rfl) (pv 2))) yaj)
  (Xac (xag (yaD (zaa (pv 3) (zaa (zad Xai (zad yax (zad Ybf (zad Xai (zad Yaj (zad yax (pv 2) xaa) xaa) (zad Yaj xaa (pv 1))) xaa) xaa) xaa) Xab))))))))),?_⟩
 exact Xaw (b:=Zat) (Zad (Yad (zab zaj (zab Xaj (Xaa _) (yaa 1)) (Xaa _)) (zac 2))
  (Zad (Yaq (Zae (zab xaG (yaa 1) (xar xaK (Zaa (yaa 0) yac)))) (Yad (zab zau (yaa 0) (yaa 1)) (zac 2)) (Yaq (Zae (zab Xa9 (xar xaK (Zaa (yaa 0) yac)) (Xaa _))) (Yad (zab zaj (zab Xaj (zab Zax (zab zau (yaa 0) (zab Zax (yaa 1) (xar xaK (Zaa (yaa 0) yac)))) (Xaa _)) (Xaa _)) (zab Xaj (Xaa _) (yaa 1))) (zac 2)) zal))
  (Zad (Yad (Xaa _) (zac 3))
  (Zad (Yaq (Zae (zab so_ge (yaa 2) (zab ybh (Xaa _) (Xaa _)))) (Yad (yaa 2) (zac 3)) zal)
  (Xag (yaE (Zaa (yaa 3) (Zaa (zab zaj (zab Zax (zab ybh (zab zaj (zab Xaj (zab Zax (yaa 2) (Xaa _)) (Xaa _)) (zab Xaj (Xaa _) (yaa 1))) (Xaa _)) (Xaa _)) (Xaa _)) yac)))))))) rfl h
noncomputable def Xao:DSt→Dm Fl :=
 (fSeq (fAsg (fCB gAbs (fCons (fOp gIxT (fVar 0) (fC (.int 0))) fNil)) (hName 1))
 (fSeq (fAsg (fOp gIxT (fVar 0) (fC (.int 1))) (hName 2))
 (fSeq (fAsg (fIf (fTest (fOp gLt (fOp gIxT (fVar 0) (fC (.int 0))) (fC (.int 0)))) (fC (.str "l")) (fC (.str "r"))) (hName 3))
 (fSeq (fAsg (fLst fNil) (hName 4))
 (fSeq (fAsg (fC (.int 0)) (hName 5))
 (fSeq (fAsg (fC (.int 0)) (hName 6))
 (fSeq (fWhile (fOr (fTest (fOp gLt (fVar 5) (fVar 1))) (fTest (fOp gLt (fVar 6) (fVar 2)))) (fIf (fAnd (fTest (fOp gLe (fOp gMul (fOp gAdd (fVar 6) (fC (.int 1))) (fVar 1)) (fOp gMul (fVar 2) (fVar 5)))) (fTest (fOp gLt (fVar 6) (fVar 2)))) (fSeq (fDrop (fBM "list" gAppend (fVar 4) (fCons (fC (.str "u")) fNil)))
 (fAsg (fOp gAdd (fVar 6) (fC (.int 1))) (hName 6))) (fSeq (fDrop (fBM "list" gAppend (fVar 4) (fCons (fVar 3) fNil)))
 (fAsg (fOp gAdd (fVar 5) (fC (.int 1))) (hName 5)))))
 (fRet (fBM "str" gJoin (fC (.str "")) (fCons (fVar 4) fNil))))))))))
noncomputable def Zal:List D→Dm D:=fnF 7 Xao
noncomputable def Yal:Stmt:=top 23
theorem Yaf:FnScope ["slope","width","height","level_step","steps","x","y"] ["slope"] (defScope Yal):=⟨rfl,rfl,rfl,by decide +kernel,rfl,by decide +kernel,by decide +kernel⟩
theorem YaC {f:Addr} {fd:FuncData} (D:Def K mg "slope_steps" Yal ["slope"] f fd) (T:Txt mg)  :FnOk P w K mg base CX0 1 f fd ["slope"] (spF K 1 Zal):=by
 refine D.F.ok Yaf (fun vs H Q E h=>h.1) (fun cdv A outer s H vs Q E hr h=>?_)
 have hu:=hr.units
 have hu1:=Yaw hr
 refine ⟨_,(yab (yaf (i:=1) Yaf.nd rfl (by first | exact Or.inl rfl | exact Or.inr rfl) (yae YaP (by rfl) T.n_abs Zbg (zaa (Zaf xad (pv 0) xaa (fun _ _=>rfl)) Xab)))
  (yab (yaf (i:=2) Yaf.nd rfl (by first | exact Or.inl rfl | exact Or.inr rfl) (Zaf xad (pv 0) xaa (fun _ _=>rfl)))
  (yab (yaf (i:=3) Yaf.nd rfl (by first | exact Or.inl rfl | exact Or.inr rfl) (za8 (Xae xaF (Zaf xad (pv 0) xaa (fun _ _=>rfl)) xaa (nomark _)) Zao Zao))
  (yab (yaf (i:=4) Yaf.nd rfl (by first | exact Or.inl rfl | exact Or.inr rfl) (yaD Xab))
  (yab (yaf (i:=5) Yaf.nd rfl (by first | exact Or.inl rfl | exact Or.inr rfl) xaa)
  (yab (yaf (i:=6) Yaf.nd rfl (by first | exact Or.inl rfl | exact Or.inr rfl) xaa)
  (yab (ZaF PassesOwn.never (PW.pt (yay (Xae xaF (pv 5) (pv 1) (nomark _)) (ZaA (Xae xaF (pv 6) (pv 2) (nomark _))))) (Xac (xat (PW.pt (Ybe (Xae op_le (zad Yaj (zad Xai (pv 6) xaa) (pv 1)) (zad Yaj (pv 2) (pv 5)) (nomark _)) (ZaW (Xae xaF (pv 6) (pv 2) (nomark _))))) (yab (YaW (XaY PySem.F.plainAttrs_list PySem.F.slot_list_append PySem.F.type_list_append XaJ (pv 4) (zaa Zao Xab)))
  (Xac (yaf (i:=6) Yaf.nd rfl (by first | exact Or.inl rfl | exact Or.inr rfl) (zad Xai (pv 6) xaa)))) (yab (YaW (XaY PySem.F.plainAttrs_list PySem.F.slot_list_append PySem.F.type_list_append XaJ (pv 4) (zaa (pv 3) Xab)))
  (Xac (yaf (i:=5) Yaf.nd rfl (by first | exact Or.inl rfl | exact Or.inr rfl) (zad Xai (pv 5) xaa)))))))
  (Xac (xag (XaY PySem.F.plainAttrs_str PySem.F.slot_str_join PySem.F.type_str_join Zbl Zao (zaa (pv 4) Xab))))))))))),?_⟩
 exact Xaw (b:=Xao) (Zad (Yad (xar ybi (Zaa (zab Xad (yaa 0) (Xaa _)) yac)) (zac 1))
  (Zad (Yad (zab Xad (yaa 0) (Xaa _)) (zac 2))
  (Zad (Yad (so_if (Zae (zab xaG (zab Xad (yaa 0) (Xaa _)) (Xaa _))) (Zaq _) (Zaq _)) (zac 3))
  (Zad (Yad (yaE yac) (zac 4))
  (Zad (Yad (Xaa _) (zac 5))
  (Zad (Yad (Xaa _) (zac 6))
  (Zad (XaG (Zay (Zae (zab xaG (yaa 5) (yaa 1))) (Zae (zab xaG (yaa 6) (yaa 2)))) (Yaq (zbh (Zae (zab so_le (zab Xaj (zab zaj (yaa 6) (Xaa _)) (yaa 1)) (zab Xaj (yaa 2) (yaa 5)))) (Zae (zab xaG (yaa 6) (yaa 2)))) (Zad (za2 (Za1 XaK (yaa 4) (Zaa (Zaq _) yac)))
  (Yad (zab zaj (yaa 6) (Xaa _)) (zac 6))) (Zad (za2 (Za1 XaK (yaa 4) (Zaa (yaa 3) yac)))
  (Yad (zab zaj (yaa 5) (Xaa _)) (zac 5)))))
  (Xag (Za1 zbr (Zaq _) (Zaa (yaa 4) yac)))))))))) rfl h
noncomputable def yaw:DSt→Dm Fl :=
 (fRet (fTup (fCons (fOp gAdd (fOp gMulW (fOp gIxT (fVar 0) (fC (.int 0))) (fOp gIxT (fVar 1) (fC (.int 0)))) (fOp gMulW (fOp gIxT (fVar 0) (fC (.int 1))) (fOp gIxT (fVar 1) (fC (.int 1))))) (fCons (fOp gAdd (fOp gMulW (fOp gIxT (fVar 0) (fC (.int 2))) (fOp gIxT (fVar 1) (fC (.int 0)))) (fOp gMulW (fOp gIxT (fVar 0) (fC (.int 3))) (fOp gIxT (fVar 1) (fC (.int 1))))) fNil))))
noncomputable def Yak:List D→Dm D:=fnF 2 yaw
noncomputable def Yap:Stmt:=top 11
theorem ZaO:FnScope ["table","pair"] ["table","pair"] (defScope Yap):=⟨rfl,rfl,rfl,by decide +kernel,rfl,by decide +kernel,by decide +kernel⟩
theorem YaO {f:Addr} {fd:FuncData} (D:Def K mg "led_pair" Yap ["table","pair"] f fd) (T:Txt mg)  :FnOk P w K mg base CX0 1 f fd ["table","pair"] (spF K 2 Yak):=by
 refine D.F.ok ZaO (fun vs H Q E h=>h.1) (fun cdv A outer s H vs Q E hr h=>?_)
 have hu:=hr.units
 have hu1:=Yaw hr
 refine ⟨_,(Xac (xag (xai (zaa (zad Xai (zad zao (Zaf xad (pv 0) xaa (fun _ _=>rfl)) (Zaf xad (pv 1) xaa (fun _ _=>rfl))) (zad zao (Zaf xad (pv 0) xaa (fun _ _=>rfl)) (Zaf xad (pv 1) xaa (fun _ _=>rfl)))) (zaa (zad Xai (zad zao (Zaf xad (pv 0) xaa (fun _ _=>rfl)) (Zaf xad (pv 1) xaa (fun _ _=>rfl))) (zad zao (Zaf xad (pv 0) xaa (fun _ _=>rfl)) (Zaf xad (pv 1) xaa (fun _ _=>rfl)))) Xab))))),?_⟩
 exact Xaw (b:=yaw) (Xag (xaj (Zaa (zab zaj (zab yao (zab Xad (yaa 0) (Xaa _)) (zab Xad (yaa 1) (Xaa _))) (zab yao (zab Xad (yaa 0) (Xaa _)) (zab Xad (yaa 1) (Xaa _)))) (Zaa (zab zaj (zab yao (zab Xad (yaa 0) (Xaa _)) (zab Xad (yaa 1) (Xaa _))) (zab yao (zab Xad (yaa 0) (Xaa _)) (zab Xad (yaa 1) (Xaa _)))) yac)))) rfl h
noncomputable def Xaz:DSt→Dm Fl :=
 (fSeq (fIf (fTest (fOp (gEq false) (fVar 0) (fC (.int 0)))) (fRet (fTup fNil)) fNext)
 (fRet (fTup (fCons (fTup (fCons (fC (.str "s")) (fCons (fVar 0) fNil))) fNil))))
noncomputable def xax:List D→Dm D:=fnF 1 Xaz
noncomputable def Xax:Stmt:=top 20
theorem Xa6:FnScope ["k"] ["k"] (defScope Xax):=⟨rfl,rfl,rfl,by decide +kernel,rfl,by decide +kernel,by decide +kernel⟩
theorem za7 {f:Addr} {fd:FuncData} (D:Def K mg "shears" Xax ["k"] f fd) (T:Txt mg)  :FnOk P w K mg base CX0 1 f fd ["k"] (spF K 1 xax):=by
 refine D.F.ok Xa6 (fun vs H Q E h=>h.1) (fun cdv A outer s H vs Q E hr h=>?_)
 have hu:=hr.units
 have hu1:=Yaw hr
 refine ⟨_,(yab (xat (Xae yaM (pv 0) xaa (nomark _)) (Xac (xag (xai Xab))) yaj)
  (Xac (xag (xai (zaa (xai (zaa Zao (zaa (pv 0) Xab))) Xab))))),?_⟩
 exact Xaw (b:=Xaz) (Zad (Yaq (Zae (zab YaN (yaa 0) (Xaa _))) (Xag (xaj yac)) zal)
  (Xag (xaj (Zaa (xaj (Zaa (Zaq _) (Zaa (yaa 0) yac))) yac)))) rfl h
noncomputable def yaI:DSt→Dm Fl :=
 (fRet (fTup (fCons (fOp gAdd (fOp gMulW (fOp gIxT (fVar 0) (fC (.int 0))) (fOp gIxT (fVar 1) (fC (.int 0)))) (fOp gMulW (fOp gIxT (fVar 0) (fC (.int 1))) (fOp gIxT (fVar 1) (fC (.int 2))))) (fCons (fOp gAdd (fOp gMulW (fOp gIxT (fVar 0) (fC (.int 0))) (fOp gIxT (fVar 1) (fC (.int 1)))) (fOp gMulW (fOp gIxT (fVar 0) (fC (.int 1))) (fOp gIxT (fVar 1) (fC (.int 3))))) (fCons (fOp gAdd (fOp gMulW (fOp gIxT (fVar 0) (fC (.int 2))) (fOp gIxT (fVar 1) (fC (.int 0)))) (fOp gMulW (fOp gIxT (fVar 0) (fC (.int 3))) (fOp gIxT (fVar 1) (fC (.int 2))))) (fCons (fOp gAdd (fOp gMulW (fOp gIxT (fVar 0) (fC (.int 2))) (fOp gIxT (fVar 1) (fC (.int 1)))) (fOp gMulW (fOp gIxT (fVar 0) (fC (.int 3))) (fOp gIxT (fVar 1) (fC (.int 3))))) fNil))))))
noncomputable def zav:List D→Dm D:=fnF 2 yaI
noncomputable def Yay:Stmt:=top 10
theorem xbd:FnScope ["one","other"] ["one","other"] (defScope Yay):=⟨rfl,rfl,rfl,by decide +kernel,rfl,by decide +kernel,by decide +kernel⟩
theorem Xbd {f:Addr} {fd:FuncData} (D:Def K mg "times" Yay ["one","other"] f fd) (T:Txt mg)  :FnOk P w K mg base CX0 1 f fd ["one","other"] (spF K 2 zav):=by
 refine D.F.ok xbd (fun vs H Q E h=>h.1) (fun cdv A outer s H vs Q E hr h=>?_)
 have hu:=hr.units
 have hu1:=Yaw hr
 refine ⟨_,(Xac (xag (xai (zaa (zad Xai (zad zao (Zaf xad (pv 0) xaa (fun _ _=>rfl)) (Zaf xad (pv 1) xaa (fun _ _=>rfl))) (zad zao (Zaf xad (pv 0) xaa (fun _ _=>rfl)) (Zaf xad (pv 1) xaa (fun _ _=>rfl)))) (zaa (zad Xai (zad zao (Zaf xad (pv 0) xaa (fun _ _=>rfl)) (Zaf xad (pv 1) xaa (fun _ _=>rfl))) (zad zao (Zaf xad (pv 0) xaa (fun _ _=>rfl)) (Zaf xad (pv 1) xaa (fun _ _=>rfl)))) (zaa (zad Xai (zad zao (Zaf xad (pv 0) xaa (fun _ _=>rfl)) (Zaf xad (pv 1) xaa (fun _ _=>rfl))) (zad zao (Zaf xad (pv 0) xaa (fun _ _=>rfl)) (Zaf xad (pv 1) xaa (fun _ _=>rfl)))) (zaa (zad Xai (zad zao (Zaf xad (pv 0) xaa (fun _ _=>rfl)) (Zaf xad (pv 1) xaa (fun _ _=>rfl))) (zad zao (Zaf xad (pv 0) xaa (fun _ _=>rfl)) (Zaf xad (pv 1) xaa (fun _ _=>rfl)))) Xab))))))),?_⟩
 exact Xaw (b:=yaI) (Xag (xaj (Zaa (zab zaj (zab yao (zab Xad (yaa 0) (Xaa _)) (zab Xad (yaa 1) (Xaa _))) (zab yao (zab Xad (yaa 0) (Xaa _)) (zab Xad (yaa 1) (Xaa _)))) (Zaa (zab zaj (zab yao (zab Xad (yaa 0) (Xaa _)) (zab Xad (yaa 1) (Xaa _))) (zab yao (zab Xad (yaa 0) (Xaa _)) (zab Xad (yaa 1) (Xaa _)))) (Zaa (zab zaj (zab yao (zab Xad (yaa 0) (Xaa _)) (zab Xad (yaa 1) (Xaa _))) (zab yao (zab Xad (yaa 0) (Xaa _)) (zab Xad (yaa 1) (Xaa _)))) (Zaa (zab zaj (zab yao (zab Xad (yaa 0) (Xaa _)) (zab Xad (yaa 1) (Xaa _))) (zab yao (zab Xad (yaa 0) (Xaa _)) (zab Xad (yaa 1) (Xaa _)))) yac)))))) rfl h
noncomputable def Xar:DSt→Dm Fl :=
 (fSeq (fIf (fTest (fOp (gEq false) (fOp gIxT (fVar 0) (fC (.int 0))) (fC (.str "s")))) (fRet (fTup (fCons (fC (.int 1)) (fCons (fOp gIxT (fVar 0) (fC (.int 1))) (fCons (fC (.int 0)) (fCons (fC (.int 1)) fNil)))))) fNext)
 (fSeq (fAsg (fC (.tup [(.int 1),(.int 0),(.int 0),(.int 1)])) (hName 1))
 (fSeq (fFor (iRng1F (fCons (fOp gIxT (fVar 0) (fC (.int 1))) fNil)) (hName 2) (fAsg (fCB zav (fCons (fC (.tup [(.int 0),(.int (-1)),(.int 1),(.int 0)])) (fCons (fVar 1) fNil))) (hName 1)))
 (fRet (fVar 1)))))
noncomputable def yan:List D→Dm D:=fnF 3 Xar
noncomputable def Zan:Stmt:=top 15
theorem zap:FnScope ["step","table","turn"] ["step"] (defScope Zan):=⟨rfl,rfl,rfl,by decide +kernel,rfl,by decide +kernel,by decide +kernel⟩
theorem ZaI {f:Addr} {fd:FuncData} (D:Def K mg "step_table" Zan ["step"] f fd) (T:Txt mg) {vQUARTER:V} (CQUARTER:Con K mg "QUARTER" vQUARTER (.tup [(.int 0),(.int (-1)),(.int 1),(.int 0)])) {vUNMOVED:V} (CUNMOVED:Con K mg "UNMOVED" vUNMOVED (.tup [(.int 1),(.int 0),(.int 0),(.int 1)])) {ftimes:Addr} {dtimes:FuncData} (Dtimes:Def K mg "times" Yay ["one","other"] ftimes dtimes) (Gtimes:FnOk P w K mg base CX0 1 ftimes dtimes ["one","other"] (spF K 2 zav)):FnOk P w K mg base CX0 2 f fd ["step"] (spF K 1 yan):=by
 refine D.F.ok zap (fun vs H Q E h=>h.1) (fun cdv A outer s H vs Q E hr h=>?_)
 have hu:=hr.units
 have hu1:=Yaw hr
 refine ⟨_,(yab (xat (Xae yaM (Zaf xad (pv 0) xaa (fun _ _=>rfl)) Zao (nomark _)) (Xac (xag (xai (zaa xaa (zaa (Zaf xad (pv 0) xaa (fun _ _=>rfl)) (zaa xaa (zaa xaa Xab))))))) yaj)
  (yab (yaf (i:=1) zap.nd rfl (by first | exact Or.inl rfl | exact Or.inr rfl) (Xa5 CUNMOVED rfl rfl (by decide)))
  (yab (yaX PassesOwn.never rfl (XaI rfl T.n_range (zaa (Zaf xad (pv 0) xaa (fun _ _=>rfl)) Xab)) (Xap (i:=2) zap.nd rfl (by first | exact Or.inl rfl | exact Or.inr rfl)) (Xac (yaf (i:=1) zap.nd rfl (by first | exact Or.inl rfl | exact Or.inr rfl) (Xaf Gtimes (hr.mono (by decide)) rfl Dtimes.m Dtimes.F.kp Dtimes.b .nil pass0 (zaa (Xa5 CQUARTER rfl rfl (by decide)) (zaa (pv 1) Xab))))))
  (Xac (xag (pv 1)))))),?_⟩
 exact Xaw (b:=Xar) (Zad (Yaq (Zae (zab YaN (zab Xad (yaa 0) (Xaa _)) (Zaq _))) (Xag (xaj (Zaa (Xaa _) (Zaa (zab Xad (yaa 0) (Xaa _)) (Zaa (Xaa _) (Zaa (Xaa _) yac)))))) zal)
  (Zad (Yad (za6 CUNMOVED) (zac 1))
  (Zad (ya2 (yaR (Zaa (zab Xad (yaa 0) (Xaa _)) yac)) (zac 2) (Yad (zag (F:=zav) (Zaa (za6 CQUARTER) (Zaa (yaa 1) yac)) (Zac (Zac (fun _ _ _ _ h=>xaf h)))) (zac 1)))
  (Xag (yaa 1))))) rfl h
noncomputable def Zaw:DSt→Dm Fl :=
 (fSeq (fAsg (fC (.tup [(.int 1),(.int 0),(.int 0),(.int 1)])) (hName 1))
 (fSeq (fFor (iTupF (fVar 0)) (hName 2) (fAsg (fCB zav (fCons (fCB yan (fCons (fVar 2) fNil)) (fCons (fVar 1) fNil))) (hName 1)))
 (fRet (fVar 1))))
noncomputable def Zah:List D→Dm D:=fnF 3 Zaw
noncomputable def xap:Stmt:=top 16
theorem Yat:FnScope ["word","table","step"] ["word"] (defScope xap):=⟨rfl,rfl,rfl,by decide +kernel,rfl,by decide +kernel,by decide +kernel⟩
theorem xaO {f:Addr} {fd:FuncData} (D:Def K mg "table_of" xap ["word"] f fd) (T:Txt mg) {vUNMOVED:V} (CUNMOVED:Con K mg "UNMOVED" vUNMOVED (.tup [(.int 1),(.int 0),(.int 0),(.int 1)])) {ftimes:Addr} {dtimes:FuncData} (Dtimes:Def K mg "times" Yay ["one","other"] ftimes dtimes) (Gtimes:FnOk P w K mg base CX0 1 ftimes dtimes ["one","other"] (spF K 2 zav)) {fstep_table:Addr} {dstep_table:FuncData} (Dstep_table:Def K mg "step_table" Zan ["step"] fstep_table dstep_table) (Gstep_table:FnOk P w K mg base CX0 2 fstep_table dstep_table ["step"] (spF K 1 yan)):FnOk P w K mg base CX0 3 f fd ["word"] (spF K 1 Zah):=by
 refine D.F.ok Yat (fun vs H Q E h=>h.1) (fun cdv A outer s H vs Q E hr h=>?_)
 have hu:=hr.units
 have hu1:=Yaw hr
 refine ⟨_,(yab (yaf (i:=1) Yat.nd rfl (by first | exact Or.inl rfl | exact Or.inr rfl) (Xa5 CUNMOVED rfl rfl (by decide)))
  (yab (yaX PassesOwn.never rfl (Zbf (pv 0)) (Xap (i:=2) Yat.nd rfl (by first | exact Or.inl rfl | exact Or.inr rfl)) (Xac (yaf (i:=1) Yat.nd rfl (by first | exact Or.inl rfl | exact Or.inr rfl) (Xaf Gtimes (hr.mono (by decide)) rfl Dtimes.m Dtimes.F.kp Dtimes.b .nil pass0 (zaa (Xaf Gstep_table (hr.mono (by decide)) rfl Dstep_table.m Dstep_table.F.kp Dstep_table.b .nil pass0 (zaa (pv 2) Xab)) (zaa (pv 1) Xab))))))
  (Xac (xag (pv 1))))),?_⟩
 exact Xaw (b:=Zaw) (Zad (Yad (za6 CUNMOVED) (zac 1))
  (Zad (ya2 (Za2 (yaa 0)) (zac 2) (Yad (zag (F:=zav) (Zaa (zag (F:=yan) (Zaa (yaa 2) yac) (Zac (fun _ _ _ _ h=>xaf h))) (Zaa (yaa 1) yac)) (Zac (Zac (fun _ _ _ _ h=>xaf h)))) (zac 1)))
  (Xag (yaa 1)))) rfl h
noncomputable def zay:DSt→Dm Fl :=
 (fRet (fOp gFdivN (fOp gAdd (fOp gMul (fC (.int 2)) (fVar 0)) (fVar 1)) (fOp gMul (fC (.int 2)) (fVar 1))))
noncomputable def yav:List D→Dm D:=fnF 2 zay
noncomputable def Zav:Stmt:=top 19
theorem yaV:FnScope ["number","divisor"] ["number","divisor"] (defScope Zav):=⟨rfl,rfl,rfl,by decide +kernel,rfl,by decide +kernel,by decide +kernel⟩
theorem ZaV {f:Addr} {fd:FuncData} (D:Def K mg "nearest" Zav ["number","divisor"] f fd) (T:Txt mg)  :FnOk P w K mg base CX0 1 f fd ["number","divisor"] (spF K 2 yav):=by
 refine D.F.ok yaV (fun vs H Q E h=>h.1) (fun cdv A outer s H vs Q E hr h=>?_)
 have hu:=hr.units
 have hu1:=Yaw hr
 refine ⟨_,(Xac (xag (zad Za8 (zad Xai (zad Yaj xaa (pv 0)) (pv 1)) (zad Yaj xaa (pv 1))))),?_⟩
 exact Xaw (b:=zay) (Xag (zab zbd (zab zaj (zab Xaj (Xaa _) (yaa 0)) (yaa 1)) (zab Xaj (Xaa _) (yaa 1)))) rfl h
noncomputable def yap:DSt→Dm Fl :=
 (fSeq (fAsg (fTup fNil) (hName 1))
 (fSeq (fAsg (fVar 0) (hName 2))
 (fSeq (fWhile (fTest (fOp (gEq true) (fOp gIxT (fVar 2) (fC (.int 1))) (fC (.int 0)))) (fSeq (fAsg (fOp gCatT (fCB xax (fCons (fUn gNeg (fCB yav (fCons (fOp gIxT (fVar 2) (fC (.int 0))) (fCons (fOp gIxT (fVar 2) (fC (.int 1))) fNil)))) fNil)) (fTup (fCons (fTup (fCons (fC (.str "t")) (fCons (fC (.int 1)) fNil))) fNil))) (hName 3))
 (fSeq (fAsg (fCB Yak (fCons (fCB Zah (fCons (fVar 3) fNil)) (fCons (fVar 2) fNil))) (hName 2))
 (fAsg (fOp gCatT (fVar 1) (fVar 3)) (hName 1)))))
 (fRet (fVar 1)))))
noncomputable def xal:List D→Dm D:=fnF 4 yap
noncomputable def Xal:Stmt:=top 18
theorem Yah:FnScope ["pair","gone","left","steps"] ["pair"] (defScope Xal):=⟨rfl,rfl,rfl,by decide +kernel,rfl,by decide +kernel,by decide +kernel⟩
theorem xaC {f:Addr} {fd:FuncData} (D:Def K mg "level_steps" Xal ["pair"] f fd) (T:Txt mg)  {fled_pair:Addr} {dled_pair:FuncData} (Dled_pair:Def K mg "led_pair" Yap ["table","pair"] fled_pair dled_pair) (Gled_pair:FnOk P w K mg base CX0 1 fled_pair dled_pair ["table","pair"] (spF K 2 Yak)) {fshears:Addr} {dshears:FuncData} (Dshears:Def K mg "shears" Xax ["k"] fshears dshears) (Gshears:FnOk P w K mg base CX0 1 fshears dshears ["k"] (spF K 1 xax)) {ftable_of:Addr} {dtable_of:FuncData} (Dtable_of:Def K mg "table_of" xap ["word"] ftable_of dtable_of) (Gtable_of:FnOk P w K mg base CX0 3 ftable_of dtable_of ["word"] (spF K 1 Zah)) {fnearest:Addr} {dnearest:FuncData} (Dnearest:Def K mg "nearest" Zav ["number","divisor"] fnearest dnearest) (Gnearest:FnOk P w K mg base CX0 1 fnearest dnearest ["number","divisor"] (spF K 2 yav)):FnOk P w K mg base CX0 4 f fd ["pair"] (spF K 1 xal):=by
 refine D.F.ok Yah (fun vs H Q E h=>h.1) (fun cdv A outer s H vs Q E hr h=>?_)
 have hu:=hr.units
 have hu1:=Yaw hr
 refine ⟨_,(yab (yaf (i:=1) Yah.nd rfl (by first | exact Or.inl rfl | exact Or.inr rfl) (xai Xab))
  (yab (yaf (i:=2) Yah.nd rfl (by first | exact Or.inl rfl | exact Or.inr rfl) (pv 0))
  (yab (ZaF PassesOwn.never (Xae zaC (Zaf xad (pv 2) xaa (fun _ _=>rfl)) xaa (nomark _)) (yab (yaf (i:=3) Yah.nd rfl (by first | exact Or.inl rfl | exact Or.inr rfl) (zad XaF (Xaf Gshears (hr.mono (by decide)) rfl Dshears.m Dshears.F.kp Dshears.b .nil pass0 (zaa (xaS zaD (Xaf Gnearest (hr.mono (by decide)) rfl Dnearest.m Dnearest.F.kp Dnearest.b .nil pass0 (zaa (Zaf xad (pv 2) xaa (fun _ _=>rfl)) (zaa (Zaf xad (pv 2) xaa (fun _ _=>rfl)) Xab)))) Xab)) (xai (zaa (xai (zaa Zao (zaa xaa Xab))) Xab))))
  (yab (yaf (i:=2) Yah.nd rfl (by first | exact Or.inl rfl | exact Or.inr rfl) (Xaf Gled_pair (hr.mono (by decide)) rfl Dled_pair.m Dled_pair.F.kp Dled_pair.b .nil pass0 (zaa (Xaf Gtable_of (hr.mono (by decide)) rfl Dtable_of.m Dtable_of.F.kp Dtable_of.b .nil pass0 (zaa (pv 3) Xab)) (zaa (pv 2) Xab))))
  (Xac (yaf (i:=1) Yah.nd rfl (by first | exact Or.inl rfl | exact Or.inr rfl) (zad XaF (pv 1) (pv 3)))))))
  (Xac (xag (pv 1)))))),?_⟩
 exact Xaw (b:=yap) (Zad (Yad (xaj yac) (zac 1))
  (Zad (Yad (yaa 0) (zac 2))
  (Zad (XaG (Zae (zab yaC (zab Xad (yaa 2) (Xaa _)) (Xaa _))) (Zad (Yad (zab xaN (zag (F:=xax) (Zaa (yaT YaK (zag (F:=yav) (Zaa (zab Xad (yaa 2) (Xaa _)) (Zaa (zab Xad (yaa 2) (Xaa _)) yac)) (Zac (Zac (fun _ _ _ _ h=>xaf h))))) yac) (Zac (fun _ _ _ _ h=>xaf h))) (xaj (Zaa (xaj (Zaa (Zaq _) (Zaa (Xaa _) yac))) yac))) (zac 3))
  (Zad (Yad (zag (F:=Yak) (Zaa (zag (F:=Zah) (Zaa (yaa 3) yac) (Zac (fun _ _ _ _ h=>xaf h))) (Zaa (yaa 2) yac)) (Zac (Zac (fun _ _ _ _ h=>xaf h)))) (zac 2))
  (Yad (zab xaN (yaa 1) (yaa 3)) (zac 1)))))
  (Xag (yaa 1))))) rfl h
noncomputable def Zap:DSt→Dm Fl :=
 (fSeq (fPl (fAsg (fCB xal (fCons (fVar 0) fNil)) (hName 1)))
 (fSeq (fPl (fAsg (fCB Yak (fCons (fCB Zah (fCons (fVar 1) fNil)) (fCons (fVar 0) fNil))) (hName 2)))
 (fSeq (fIf (fOr (fTest (fOp gLt (fOp gIxT (fVar 0) (fC (.int 1))) (fC (.int 0)))) (fOr (fTest (fOp (gEq true) (fCB gAbs (fCons (fOp gIxT (fVar 2) (fC (.int 0))) fNil)) (fC (.int 1)))) (fTest (fOp (gEqD false) (fVar 0) (fTup (fCons (fUn gNeg (fC (.int 1))) (fCons (fC (.int 0)) fNil))))))) (fRaise0 "NoSlope") (fPl fNext))
 (fSeq (fPl (fIf (fTest (fOp (gEq false) (fOp gIxT (fVar 2) (fC (.int 0))) (fUn gNeg (fC (.int 1))))) (fAsg (fOp gCatT (fVar 1) (fTup (fCons (fTup (fCons (fC (.str "t")) (fCons (fC (.int 2)) fNil))) fNil))) (hName 1)) fNext))
 (fPl (fRet (fCB Zah (fCons (fVar 1) fNil))))))))
noncomputable def zam:List D→Dm D:=fnF 3 Zap
noncomputable def yam:Stmt:=top 22
theorem xam:FnScope ["slope","steps","led"] ["slope"] (defScope yam):=⟨rfl,rfl,rfl,by decide +kernel,rfl,by decide +kernel,by decide +kernel⟩
theorem XaC {f:Addr} {fd:FuncData} (D:Def K mg "slope_table" yam ["slope"] f fd) (T:Txt mg)  {cNoSlope cFloorError cNoFloor cNoName cNoRow cNoTable cNoText cTooMany:Addr} (Z:XF K mg cNoSlope cFloorError cNoFloor cNoName cNoRow cNoTable cNoText cTooMany) {flevel_steps:Addr} {dlevel_steps:FuncData} (Dlevel_steps:Def K mg "level_steps" Xal ["pair"] flevel_steps dlevel_steps) (Glevel_steps:FnOk P w K mg base CX0 4 flevel_steps dlevel_steps ["pair"] (spF K 1 xal)) {fled_pair:Addr} {dled_pair:FuncData} (Dled_pair:Def K mg "led_pair" Yap ["table","pair"] fled_pair dled_pair) (Gled_pair:FnOk P w K mg base CX0 1 fled_pair dled_pair ["table","pair"] (spF K 2 Yak)) {ftable_of:Addr} {dtable_of:FuncData} (Dtable_of:Def K mg "table_of" xap ["word"] ftable_of dtable_of) (Gtable_of:FnOk P w K mg base CX0 3 ftable_of dtable_of ["word"] (spF K 1 Zah)):FnOk P w K mg base (CXE P w) 5 f fd ["slope"] (spX K 1 zam):=by
 refine D.F.okX xam (fun vs H Q E h=>h.1) (fun cdv A outer s H vs Q E hr h=>?_)
 have hu:=hr.units
 have hu1:=Yaw hr
 refine ⟨_,(yab (yaf (i:=1) xam.nd rfl (by first | exact Or.inl rfl | exact Or.inr rfl) (Xaf Glevel_steps (hr.mono (by decide)) rfl Dlevel_steps.m Dlevel_steps.F.kp Dlevel_steps.b .nil pass0 (zaa (pv 0) Xab)))
  (yab (yaf (i:=2) xam.nd rfl (by first | exact Or.inl rfl | exact Or.inr rfl) (Xaf Gled_pair (hr.mono (by decide)) rfl Dled_pair.m Dled_pair.F.kp Dled_pair.b .nil pass0 (zaa (Xaf Gtable_of (hr.mono (by decide)) rfl Dtable_of.m Dtable_of.F.kp Dtable_of.b .nil pass0 (zaa (pv 1) Xab)) (zaa (pv 0) Xab))))
  (yab (xat (PW.pt (yay (Xae xaF (Zaf xad (pv 0) xaa (fun _ _=>rfl)) xaa (nomark _)) (yay (Xae zaC (yae YaP (by rfl) T.n_abs Zbg (zaa (Zaf xad (pv 2) xaa (fun _ _=>rfl)) Xab)) xaa (nomark _)) (ZaA (Xae (zbg hu) (pv 0) (xai (zaa (xaS zaD xaa) (zaa xaa Xab))) (nomark _)))))) (Xac (XaZ PySem.F.excBase_ValueError ⟨Z.m_NoSlope,Z.x_NoSlope⟩ rfl)) yaj)
  (yab (xat (Xae yaM (Zaf xad (pv 2) xaa (fun _ _=>rfl)) (xaS zaD xaa) (nomark _)) (Xac (yaf (i:=1) xam.nd rfl (by first | exact Or.inl rfl | exact Or.inr rfl) (zad XaF (pv 1) (xai (zaa (xai (zaa Zao (zaa xaa Xab))) Xab))))) yaj)
  (Xac (xag (Xaf Gtable_of (hr.mono (by decide)) rfl Dtable_of.m Dtable_of.F.kp Dtable_of.b .nil pass0 (zaa (pv 1) Xab)))))))),?_⟩
 exact fn_okX (b:=Zap) (XaH (YaE (Yad (zag (F:=xal) (Zaa (yaa 0) yac) (Zac (fun _ _ _ _ h=>xaf h))) (zac 1)))
  (XaH (YaE (Yad (zag (F:=Yak) (Zaa (zag (F:=Zah) (Zaa (yaa 1) yac) (Zac (fun _ _ _ _ h=>xaf h))) (Zaa (yaa 0) yac)) (Zac (Zac (fun _ _ _ _ h=>xaf h)))) (zac 2)))
  (XaH (xbr (Zay (Zae (zab xaG (zab Xad (yaa 0) (Xaa _)) (Xaa _))) (Zay (Zae (zab yaC (xar ybi (Zaa (zab Xad (yaa 2) (Xaa _)) yac)) (Xaa _))) (Zae (zab (Zbh false) (yaa 0) (xaj (Zaa (yaT YaK (Xaa _)) (Zaa (Xaa _) yac))))))) (zaV Z.n_NoSlope) (YaE zal))
  (XaH (YaE (Yaq (Zae (zab YaN (zab Xad (yaa 2) (Xaa _)) (yaT YaK (Xaa _)))) (Yad (zab xaN (yaa 1) (xaj (Zaa (xaj (Zaa (Zaq _) (Zaa (Xaa _) yac))) yac))) (zac 1)) zal))
  (YaE (Xag (zag (F:=Zah) (Zaa (yaa 1) yac) (Zac (fun _ _ _ _ h=>xaf h))))))))) rfl h
noncomputable def Yam:DSt→Dm Fl :=
 (fSeq (fAsg (fC .non) (hName 2))
 (fSeq (fTry (fIfRet (fTest (fVar 1)) (fRetX (.str "told") zam (fCons (fVar 0) fNil)) (fPl (fRet (fTup (fCons (fC (.str "told")) (fCons (fCB Zal (fCons (fVar 0) fNil)) fNil)))))) (sub1 "NoSlope") 3 (fAsg (fVar 3) (hName 2)))
 (fSeq (fAsg (fIsX (ans1 "NoSlope" false) (fVar 2)) (hName 4))
 (fSeq (fIf (fOr (fTest (fVar 4)) (fOr (fNot (fTest (fIsX (ans1 "NoSlope" true) (fVar 2)))) (fNot (fTest (fIsX (ans1 "NoSlope" true) (fVar 2)))))) (fRet (fTup (fCons (fC (.str "refused")) (fCons (fC (.bl false)) fNil)))) fNext)
 (fRet (fTup (fCons (fC (.str "refused")) (fCons (fC (.bl true)) fNil))))))))
noncomputable def zai:List D→Dm D:=fnF 5 Yam
noncomputable def Yar:Stmt:=top 29
theorem Yan:FnScope ["_law_pair_here","_law_table","_law_caught","e","_law_others"] ["_law_pair_here","_law_table"] (defScope Yar):=⟨rfl,rfl,rfl,by decide +kernel,rfl,by decide +kernel,by decide +kernel⟩
theorem xaL {f:Addr} {fd:FuncData} (D:Def K mg "_law_told" Yar ["_law_pair_here","_law_table"] f fd) (T:Txt mg)  {cNoSlope cFloorError cNoFloor cNoName cNoRow cNoTable cNoText cTooMany:Addr} (Z:XF K mg cNoSlope cFloorError cNoFloor cNoName cNoRow cNoTable cNoText cTooMany) {fslope_steps:Addr} {dslope_steps:FuncData} (Dslope_steps:Def K mg "slope_steps" Yal ["slope"] fslope_steps dslope_steps) (Gslope_steps:FnOk P w K mg base CX0 1 fslope_steps dslope_steps ["slope"] (spF K 1 Zal)) {fslope_table:Addr} {dslope_table:FuncData} (Dslope_table:Def K mg "slope_table" yam ["slope"] fslope_table dslope_table) (Gslope_table:FnOk P w K mg base (CXE P w) 5 fslope_table dslope_table ["slope"] (spX K 1 zam)):FnOk P w K mg base CX0 6 f fd ["_law_pair_here","_law_table"] (spF K 2 zai):=by
 refine D.F.ok Yan (fun vs H Q E h=>h.1) (fun cdv A outer s H vs Q E hr h=>?_)
 have hu:=hr.units
 have hu1:=Yaw hr
 refine ⟨_,(yab (yaf (i:=2) Yan.nd rfl (by first | exact Or.inl rfl | exact Or.inr rfl) pe_non)
  (yab (ps_try (i:=3) (F:=cFloorError) ⟨Z.m_FloorError,Z.x_FloorError⟩ (by decide) rfl Yan.nd rfl rfl (fun pins W=>(yab (xat (yaA (pv 1)) (Xac (xag (xai (zaa Zao (zaa (ya9 Gslope_table (hr.mono (by decide)) rfl Dslope_table.m Dslope_table.F.kp Dslope_table.b (zaa (pv 0) Xab)) Xab))))) yaj)
  (Xac (xag (xai (zaa Zao (zaa (Xaf Gslope_steps (hr.mono (by decide)) rfl Dslope_steps.m Dslope_steps.F.kp Dslope_steps.b .nil pass0 (zaa (pv 0) Xab)) Xab))))))) (fun a=>(Xac (yaf (i:=2) Yan.nd rfl (by first | exact Or.inl rfl | exact Or.inr rfl) (pv 3)))))
  (yab (yaf (i:=4) Yan.nd rfl (by first | exact Or.inl rfl | exact Or.inr rfl) (yae yaG (by rfl) T.n_isinstance yai (zaa (pv 2) (zaa (xai (zaa (yaz (ClsN.own Z.m_NoFloor) rfl) (zaa (yaz (ClsN.own Z.m_NoName) rfl) (zaa (yaz (ClsN.own Z.m_NoRow) rfl) (zaa (yaz (ClsN.own Z.m_NoTable) rfl) (zaa (yaz (ClsN.own Z.m_NoText) rfl) (zaa (yaz (ClsN.own Z.m_TooMany) rfl) Xab))))))) Xab))))
  (yab (xat (PW.pt (yay (yaA (pv 4)) (yay (yaP (yaA (yae yaG (by rfl) T.n_isinstance yai (zaa (pv 2) (zaa (yaz (ClsN.own Z.m_NoSlope) rfl) Xab))))) (ZaA (yaP (yaA (yae yaG (by rfl) T.n_isinstance yai (zaa (pv 2) (zaa (yaz (ClsN.blt T.n_ValueError zaI (by decide)) rfl) Xab))))))))) (Xac (xag (xai (zaa Zao (zaa zaF Xab))))) yaj)
  (Xac (xag (xai (zaa Zao (zaa zaF Xab))))))))),?_⟩
 exact Xaw (b:=Yam) (Zad (Yad so_non (zac 2))
  (Zad (so_try (Ya6 (ZaN (yaa 1)) (Xbr (F:=zam) (fun _ _=>.str _) (Zaa (yaa 0) yac) (Zac (fun _ _ _ _ h=>xaf h))) (soY_pl (Xag (xaj (Zaa (Zaq _) (Zaa (zag (F:=Zal) (Zaa (yaa 0) yac) (Zac (fun _ _ _ _ h=>xaf h))) yac)))))) (Yad (yaa 3) (zac 2)) (zbs Z.n_NoSlope Z.s_FloorError))
  (Zad (Yad (so_isT (yaa 2) (fun _ _ _ q=>q) (by show 6≤sizeLine;decide) rfl (zaO (R:=fun C b=>ExI K C∧PySem.W.kitAny K (.ref C) _=some b) Z.n_NoSlope ⟨Z.i_NoSlope,Z.k0⟩)) (zac 4))
  (Zad (Yaq (Zay (ZaN (yaa 4)) (Zay (XaQ (ZaN (Xbi (yaa 2) rfl (zaO (R:=fun C b=>ExI K C∧PySem.W.kitOne K (.ref C) _=some b) Z.n_NoSlope ⟨Z.i_NoSlope,Z.k1⟩)))) (XaQ (ZaN (Xbi (yaa 2) rfl (zaO (R:=fun C b=>ExI K C∧PySem.W.kitOne K (.ref C) _=some b) Z.n_NoSlope ⟨Z.i_NoSlope,Z.k2⟩)))))) (Xag (xaj (Zaa (Zaq _) (Zaa (ZaG _) yac)))) zal)
  (Xag (xaj (Zaa (Zaq _) (Zaa (ZaG _) yac)))))))) rfl h
noncomputable def zas:DSt→Dm Fl :=
 (fSeq (fAsg (fVar 0) (hTup 2 (hCons (hName 1) (hCons (hName 2) hNil))))
 (fSeq (fAsg (fCB zai (fCons (fVar 0) (fCons (fC (.bl true)) fNil))) (hName 3))
 (fSeq (fIf (fOr (fTest (fOp (gEq true) (fCB Yag (fCons (fVar 1) (fCons (fVar 2) fNil))) (fC (.int 1)))) (fOr (fTest (fOp gLt (fVar 2) (fC (.int 0)))) (fAnd (fTest (fOp (gEq false) (fVar 2) (fC (.int 0)))) (fTest (fOp (gEq true) (fVar 1) (fC (.int 1))))))) (fRet (fOp (gEqD false) (fVar 3) (fTup (fCons (fC (.str "refused")) (fCons (fC (.bl true)) fNil))))) fNext)
 (fSeq (fIf (fOr (fTest (fOp (gEq true) (fOp gIxT (fVar 3) (fC (.int 0))) (fC (.str "told")))) (fOr (fNot (fTest (fCB gIsA (fCons (fOp gIxT (fVar 3) (fC (.int 1))) (fCons (fC (.ty "tuple")) fNil))))) (fTest (fOp (gEq true) (fCB gLen (fCons (fOp gIxT (fVar 3) (fC (.int 1))) fNil)) (fC (.int 4)))))) (fRet (fC (.bl false))) fNext)
 (fSeq (fFor (iTupF (fOp gIxT (fVar 3) (fC (.int 1)))) (hName 4) (fIf (fOr (fTest (fCB gIsA (fCons (fVar 4) (fCons (fC (.ty "bool")) fNil)))) (fOr (fNot (fTest (fCB gIsA (fCons (fVar 4) (fCons (fC (.ty "int")) fNil))))) (fTest (fOp gGt (fCB gMax2 (fCons (fVar 4) (fCons (fOp gSub (fC (.int 0)) (fVar 4)) fNil))) (fC (.int 1000000)))))) (fRet (fC (.bl false))) fNext))
 (fSeq (fAsg (fOp gIxT (fVar 3) (fC (.int 1))) (hTup 4 (hCons (hName 5) (hCons (hName 6) (hCons (hName 7) (hCons (hName 8) hNil))))))
 (fSeq (fIf (fOr (fTest (fOp (gEq true) (fOp gSub (fOp gMul (fVar 5) (fVar 8)) (fOp gMul (fVar 6) (fVar 7))) (fC (.int 1)))) (fOr (fTest (fOp (gEq true) (fOp gAdd (fOp gMul (fVar 5) (fVar 1)) (fOp gMul (fVar 6) (fVar 2))) (fC (.int 1)))) (fTest (fOp (gEq true) (fOp gAdd (fOp gMul (fVar 7) (fVar 1)) (fOp gMul (fVar 8) (fVar 2))) (fC (.int 0)))))) (fRet (fC (.bl false))) fNext)
 (fSeq (fIf (fTest (fOp gGt (fOp gAdd (fCB gMax2 (fCons (fVar 1) (fCons (fOp gSub (fC (.int 0)) (fVar 1)) fNil))) (fVar 2)) (fC (.int 24)))) (fRet (fC (.bl true))) fNext)
 (fSeq (fAsg (fOp gIxT (fCB zai (fCons (fVar 0) (fCons (fC (.bl false)) fNil))) (fC (.int 1))) (hName 9))
 (fSeq (fAsg (fOp gIxS (fC (.str "rl")) (fCB gInt1 (fCons (fOp gLt (fVar 1) (fC (.int 0))) fNil))) (hName 10))
 (fRet (fAndV (fOp (gEq false) (fBM "str" gCount (fVar 9) (fCons (fVar 10) fNil)) (fCB gMax2 (fCons (fVar 1) (fCons (fOp gSub (fC (.int 0)) (fVar 1)) fNil)))) (fAndV (fOp (gEq false) (fBM "str" gCount (fVar 9) (fCons (fC (.str "u")) fNil)) (fVar 2)) (fOp (gEq false) (fCB gLenS (fCons (fVar 9) fNil)) (fOp gAdd (fCB gMax2 (fCons (fVar 1) (fCons (fOp gSub (fC (.int 0)) (fVar 1)) fNil))) (fVar 2))))))))))))))))
noncomputable def xan:List D→Dm D:=fnF 11 zas
noncomputable def Xan:Stmt:=top 30
theorem zaf:FnScope ["_law_pair_here","_law_a","_law_c","_law_found","_law_one","_law_x","_law_y","_law_z","_law_w","_law_steps","_law_aside"] ["_law_pair_here"] (defScope Xan):=⟨rfl,rfl,rfl,by decide +kernel,rfl,by decide +kernel,by decide +kernel⟩
theorem YaI {f:Addr} {fd:FuncData} (D:Def K mg "_law_right" Xan ["_law_pair_here"] f fd) (T:Txt mg)  {f_law_told:Addr} {d_law_told:FuncData} (D_law_told:Def K mg "_law_told" Yar ["_law_pair_here","_law_table"] f_law_told d_law_told) (G_law_told:FnOk P w K mg base CX0 6 f_law_told d_law_told ["_law_pair_here","_law_table"] (spF K 2 zai)) {f_law_common:Addr} {d_law_common:FuncData} (D_law_common:Def K mg "_law_common" Yai ["_law_a","_law_c"] f_law_common d_law_common) (G_law_common:FnOk P w K mg base CX0 1 f_law_common d_law_common ["_law_a","_law_c"] (spF K 2 Yag)):FnOk P w K mg base CX0 7 f fd ["_law_pair_here"] (spF K 1 xan):=by
 refine D.F.ok zaf (fun vs H Q E h=>h.1) (fun cdv A outer s H vs Q E hr h=>?_)
 have hu:=hr.units
 have hu1:=Yaw hr
 refine ⟨_,(yab (ZaP (pv 0) (Xbe (n:=2) rfl (Yav (Xap (i:=1) zaf.nd rfl (by first | exact Or.inl rfl | exact Or.inr rfl)) (Yav (Xap (i:=2) zaf.nd rfl (by first | exact Or.inl rfl | exact Or.inr rfl)) xaW))))
  (yab (yaf (i:=3) zaf.nd rfl (by first | exact Or.inl rfl | exact Or.inr rfl) (Xaf G_law_told (hr.mono (by decide)) rfl D_law_told.m D_law_told.F.kp D_law_told.b .nil pass0 (zaa (pv 0) (zaa zaF Xab))))
  (yab (xat (PW.pt (yay (Xae zaC (Xaf G_law_common (hr.mono (by decide)) rfl D_law_common.m D_law_common.F.kp D_law_common.b .nil pass0 (zaa (pv 1) (zaa (pv 2) Xab))) xaa (nomark _)) (yay (Xae xaF (pv 2) xaa (nomark _)) (ZaA (PW.pt (Ybe (Xae yaM (pv 2) xaa (nomark _)) (ZaW (Xae zaC (pv 1) xaa (nomark _))))))))) (Xac (xag (YaA (zbg hu) (pv 3) (xai (zaa Zao (zaa zaF Xab))) (nomark _)))) yaj)
  (yab (xat (PW.pt (yay (Xae zaC (Zaf xad (pv 3) xaa (fun _ _=>rfl)) Zao (nomark _)) (yay (yaP (yaA (yae YaH (by rfl) T.n_isinstance yai (zaa (Zaf xad (pv 3) xaa (fun _ _=>rfl)) (zaa (yaF (v:=.ty "tuple") rfl T.n_tuple za9 rfl) Xab))))) (ZaA (Xae zaC (yae zan (by rfl) T.n_len ZaD (zaa (Zaf xad (pv 3) xaa (fun _ _=>rfl)) Xab)) xaa (nomark _)))))) (Xac (xag zaF)) yaj)
  (yab (yaX PassesOwn.never rfl (Zbf (Zaf xad (pv 3) xaa (fun _ _=>rfl))) (Xap (i:=4) zaf.nd rfl (by first | exact Or.inl rfl | exact Or.inr rfl)) (Xac (xat (PW.pt (yay (yaA (yae YaH (by rfl) T.n_isinstance yai (zaa (pv 4) (zaa (yaF (v:=.ty "bool") rfl T.n_bool xbk rfl) Xab)))) (yay (yaP (yaA (yae YaH (by rfl) T.n_isinstance yai (zaa (pv 4) (zaa (yaF (v:=.ty "int") rfl T.n_int Xbf rfl) Xab))))) (ZaA (Xae Ya8 (yae (Xam rfl) (by rfl) T.n_max Xay (zaa (pv 4) (zaa (zad xay xaa (pv 4)) Xab))) xaa (nomark _)))))) (Xac (xag zaF)) yaj)))
  (yab (ZaP (Zaf xad (pv 3) xaa (fun _ _=>rfl)) (Xbe (n:=4) rfl (Yav (Xap (i:=5) zaf.nd rfl (by first | exact Or.inl rfl | exact Or.inr rfl)) (Yav (Xap (i:=6) zaf.nd rfl (by first | exact Or.inl rfl | exact Or.inr rfl)) (Yav (Xap (i:=7) zaf.nd rfl (by first | exact Or.inl rfl | exact Or.inr rfl)) (Yav (Xap (i:=8) zaf.nd rfl (by first | exact Or.inl rfl | exact Or.inr rfl)) xaW))))))
  (yab (xat (PW.pt (yay (Xae zaC (zad xay (zad Yaj (pv 5) (pv 8)) (zad Yaj (pv 6) (pv 7))) xaa (nomark _)) (yay (Xae zaC (zad Xai (zad Yaj (pv 5) (pv 1)) (zad Yaj (pv 6) (pv 2))) xaa (nomark _)) (ZaA (Xae zaC (zad Xai (zad Yaj (pv 7) (pv 1)) (zad Yaj (pv 8) (pv 2))) xaa (nomark _)))))) (Xac (xag zaF)) yaj)
  (yab (xat (Xae Ya8 (zad Xai (yae (Xam rfl) (by rfl) T.n_max Xay (zaa (pv 1) (zaa (zad xay xaa (pv 1)) Xab))) (pv 2)) xaa (nomark _)) (Xac (xag zaF)) yaj)
  (yab (yaf (i:=9) zaf.nd rfl (by first | exact Or.inl rfl | exact Or.inr rfl) (Zaf xad (Xaf G_law_told (hr.mono (by decide)) rfl D_law_told.m D_law_told.F.kp D_law_told.b .nil pass0 (zaa (pv 0) (zaa zaF Xab))) xaa (fun _ _=>rfl)))
  (yab (yaf (i:=10) zaf.nd rfl (by first | exact Or.inl rfl | exact Or.inr rfl) (Zaf ix_str Zao (ZaY zaY (by rfl) T.n_int Xbf (zaa (YaA xaF (pv 1) xaa (nomark _)) Xab)) (fun _ _=>rfl)))
  (Xac (xag (xbe (YaA yaM (XaY PySem.F.plainAttrs_str PySem.F.slot_str_count PySem.F.type_str_count YaQ (pv 9) (zaa (pv 10) Xab)) (yae (Xam rfl) (by rfl) T.n_max Xay (zaa (pv 1) (zaa (zad xay xaa (pv 1)) Xab))) (nomark _)) (xbe (YaA yaM (XaY PySem.F.plainAttrs_str PySem.F.slot_str_count PySem.F.type_str_count YaQ (pv 9) (zaa Zao Xab)) (pv 2) (nomark _)) (pe_one (YaA yaM (yae xaJ (by rfl) T.n_len ZaD (zaa (pv 9) Xab)) (zad Xai (yae (Xam rfl) (by rfl) T.n_max Xay (zaa (pv 1) (zaa (zad xay xaa (pv 1)) Xab))) (pv 2)) (nomark _))))))))))))))))),?_⟩
 exact Xaw (b:=zas) (Zad (Yad (yaa 0) (xa1 (zaw (zac 1) (zaw (zac 2) Ya1))))
  (Zad (Yad (zag (F:=zai) (Zaa (yaa 0) (Zaa (ZaG _) yac)) (Zac (Zac (fun _ _ _ _ h=>xaf h)))) (zac 3))
  (Zad (Yaq (Zay (Zae (zab yaC (zag (F:=Yag) (Zaa (yaa 1) (Zaa (yaa 2) yac)) (Zac (Zac (fun _ _ _ _ h=>xaf h)))) (Xaa _))) (Zay (Zae (zab xaG (yaa 2) (Xaa _))) (zbh (Zae (zab YaN (yaa 2) (Xaa _))) (Zae (zab yaC (yaa 1) (Xaa _)))))) (Xag (zab (Zbh false) (yaa 3) (xaj (Zaa (Zaq _) (Zaa (ZaG _) yac))))) zal)
  (Zad (Yaq (Zay (Zae (zab yaC (zab Xad (yaa 3) (Xaa _)) (Zaq _))) (Zay (XaQ (ZaN (xar xa5 (Zaa (zab Xad (yaa 3) (Xaa _)) (Zaa (Xbl _) yac))))) (Zae (zab yaC (xar xaK (Zaa (zab Xad (yaa 3) (Xaa _)) yac)) (Xaa _))))) (Xag (ZaG _)) zal)
  (Zad (ya2 (Za2 (zab Xad (yaa 3) (Xaa _))) (zac 4) (Yaq (Zay (ZaN (xar xa5 (Zaa (yaa 4) (Zaa (Xbl _) yac)))) (Zay (XaQ (ZaN (xar xa5 (Zaa (yaa 4) (Zaa (Xbl _) yac))))) (Zae (zab Xa9 (xar yau (Zaa (yaa 4) (Zaa (zab Zaz (Xaa _) (yaa 4)) yac))) (Xaa _))))) (Xag (ZaG _)) zal))
  (Zad (Yad (zab Xad (yaa 3) (Xaa _)) (xa1 (zaw (zac 5) (zaw (zac 6) (zaw (zac 7) (zaw (zac 8) Ya1))))))
  (Zad (Yaq (Zay (Zae (zab yaC (zab Zaz (zab Xaj (yaa 5) (yaa 8)) (zab Xaj (yaa 6) (yaa 7))) (Xaa _))) (Zay (Zae (zab yaC (zab zaj (zab Xaj (yaa 5) (yaa 1)) (zab Xaj (yaa 6) (yaa 2))) (Xaa _))) (Zae (zab yaC (zab zaj (zab Xaj (yaa 7) (yaa 1)) (zab Xaj (yaa 8) (yaa 2))) (Xaa _))))) (Xag (ZaG _)) zal)
  (Zad (Yaq (Zae (zab Xa9 (zab zaj (xar yau (Zaa (yaa 1) (Zaa (zab Zaz (Xaa _) (yaa 1)) yac))) (yaa 2)) (Xaa _))) (Xag (ZaG _)) zal)
  (Zad (Yad (zab Xad (zag (F:=zai) (Zaa (yaa 0) (Zaa (ZaG _) yac)) (Zac (Zac (fun _ _ _ _ h=>xaf h)))) (Xaa _)) (zac 9))
  (Zad (Yad (zab so_ixS (Zaq _) (xar Ybm (Zaa (zab xaG (yaa 1) (Xaa _)) yac))) (zac 10))
  (Xag (za1 (zab YaN (Za1 yaS (yaa 9) (Zaa (yaa 10) yac)) (xar yau (Zaa (yaa 1) (Zaa (zab Zaz (Xaa _) (yaa 1)) yac)))) (za1 (zab YaN (Za1 yaS (yaa 9) (Zaa (Zaq _) yac)) (yaa 2)) (zab YaN (xar ybm (Zaa (yaa 9) yac)) (zab zaj (xar yau (Zaa (yaa 1) (Zaa (zab Zaz (Xaa _) (yaa 1)) yac))) (yaa 2)))))))))))))))) rfl h
noncomputable def zbe:DSt→Dm Fl :=
 (fSeq (fAsg (fComp (iRng1F (fCons (fCB gMax2 (fCons (fC (.int 5)) (fCons (fCB gMin2 (fCons (fC (.int 12)) (fCons (fCB gLen (fCons (fVar 0) fNil)) fNil))) fNil))) fNil)) 1 [0] (hName 0) fTrue (fCB Xaq (fCons (fCB yar (fCons (fVar 1) (fCons (fVar 0) fNil))) fNil))) (hName 1))
 (fRet (fCB gAll (fCons (fComp (iListF (fOp gCat (fVar 1) (fUn gRevL (fVar 1)))) 1 [] (hName 0) fTrue (fCB xan (fCons (fVar 0) fNil))) fNil))))
noncomputable def Zbs:List D→Dm D:=fnF 2 zbe
noncomputable def ybe:Stmt:=top 31
theorem Zbj:FnScope ["_law_script","_law_some"] ["_law_script"] (defScope ybe):=⟨rfl,rfl,rfl,by decide +kernel,rfl,by decide +kernel,by decide +kernel⟩
theorem ok_law {f:Addr} {fd:FuncData} (D:Def K mg "law" ybe ["_law_script"] f fd) (T:Txt mg)  {f_law_pair:Addr} {d_law_pair:FuncData} (D_law_pair:Def K mg "_law_pair" zar ["_law_feed_here"] f_law_pair d_law_pair) (G_law_pair:FnOk P w K mg base CX0 2 f_law_pair d_law_pair ["_law_feed_here"] (spF K 1 Xaq)) {f_law_feed:Addr} {d_law_feed:FuncData} (D_law_feed:Def K mg "_law_feed" Zar ["_law_script","_law_k"] f_law_feed d_law_feed) (G_law_feed:FnOk P w K mg base CX0 1 f_law_feed d_law_feed ["_law_script","_law_k"] (spF K 2 yar)) {f_law_right:Addr} {d_law_right:FuncData} (D_law_right:Def K mg "_law_right" Xan ["_law_pair_here"] f_law_right d_law_right) (G_law_right:FnOk P w K mg base CX0 7 f_law_right d_law_right ["_law_pair_here"] (spF K 1 xan)):FnOk P w K mg base CX0 8 f fd ["_law_script"] (spF K 1 Zbs):=by
 refine D.F.ok Zbj (fun vs H Q E h=>h.1) (fun cdv A outer s H vs Q E hr h=>?_)
 have hu:=hr.units
 have hu1:=Yaw hr
 refine ⟨_,(yab (ybl (i:=1) (own:=["_law_k"]) (fr:=["_law_script"]) (js:=[0]) rfl Zbj.nd rfl rfl ⟨⟨rfl,by decide +kernel,by decide +kernel,by dsimp only [cxOf,cxComp,Cx.nox,Cx.wish,PyProof.Rows.envOfC,compEnvC,relabel,Env.kindOf];decide +kernel,by decide +kernel⟩,rfl⟩ (XaI rfl T.n_range (zaa (yae (Xam rfl) (by rfl) T.n_max Xay (zaa xaa (zaa (yae (XaX rfl) (by rfl) T.n_min bt_min (zaa xaa (zaa (yae zan (by rfl) T.n_len ZaD (zaa (pv 0) Xab)) Xab))) Xab))) Xab)) (fun _ _ _ _ _=>(Xap (i:=0) (show ((["_law_k"]:List Str) ++ (["_law_script"]:List Str)).Nodup by decide +kernel) rfl (by first | exact Or.inl rfl | exact Or.inr rfl))) (fun _ _ _ _ _=>ybg) (fun _ _ _ _ _=>(Xaf G_law_pair (hr.mono (by decide)) rfl D_law_pair.m D_law_pair.F.kp D_law_pair.b .nil pass0 (zaa (Xaf G_law_feed (hr.mono (by decide)) rfl D_law_feed.m D_law_feed.F.kp D_law_feed.b .nil pass0 (zaa (pv 1) (zaa (pv 0) Xab))) Xab))))
  (Xac (xag (yae (ZaZ rfl) (by rfl) T.n_all bt_all (zaa (zbl (own:=["_law_pair_here"]) (fr:=[]) (js:=[]) rfl ⟨⟨rfl,by decide +kernel,by decide +kernel,by dsimp only [cxOf,cxComp,Cx.nox,Cx.wish,PyProof.Rows.envOfC,compEnvC,relabel,Env.kindOf];decide +kernel,by decide +kernel⟩,rfl⟩ (zbk (zad op_cat (pv 1) (pe_rev Xbk (pv 1)))) (fun _ _ _ _ _=>(Xap (i:=0) (show ((["_law_pair_here"]:List Str) ++ ([]:List Str)).Nodup by decide +kernel) rfl (by first | exact Or.inl rfl | exact Or.inr rfl))) (fun _ _ _ _ _=>ybg) (fun _ _ _ _ _=>(Xaf G_law_right (hr.mono (by decide)) rfl D_law_right.m D_law_right.F.kp D_law_right.b .nil pass0 (zaa (pv 0) Xab)))) Xab))))),?_⟩
 exact Xaw (b:=zbe) (Zad (Yad (Ya2 (yaR (Zaa (xar yau (Zaa (Xaa _) (Zaa (xar Zbm (Zaa (Xaa _) (Zaa (xar xaK (Zaa (yaa 0) yac)) yac))) yac))) yac)) (zac 0) xa2 (zag (F:=Xaq) (Zaa (zag (F:=yar) (Zaa (yaa 1) (Zaa (yaa 0) yac)) (Zac (Zac (fun _ _ _ _ h=>xaf h)))) yac) (Zac (fun _ _ _ _ h=>xaf h)))) (zac 1))
  (Xag (xar so_all (Zaa (Ya2 (yba (zab so_cat (yaa 1) (so_un' zbm (yaa 1)))) (zac 0) xa2 (zag (F:=xan) (Zaa (yaa 0) yac) (Zac (fun _ _ _ _ h=>xaf h)))) yac)))) rfl h
end
theorem xas {st:Store} {f:Nat} {n:Int} (hf:FeedIs st f) (h0:0 < n) (h1:n < 1073741824):Wp (zae [.ref f,.int n] st) fun d st'=>∃ k:Int,d=.int k∧0≤k∧k < n∧FeedIs st' f∧Ex [f] st st':=by
 obtain ⟨o,m,e,o0,m0,m1⟩:=hf
 have hfl:=Zai e
 refine Yau ?_
 show Ws (zat [some (.ref f),some (.int n),none,none] st) _ _ _ _
 unfold zat
 refine xac (Zau ?_)
 set_option simprocs false in simp only [wpB,yag e,Zas e]
 refine ⟨fun ho=>?_,fun ho=>?_⟩
 ·refine xac (Yae ?_)
  set_option simprocs false in simp only [wpB,yag e]
  refine ⟨h0,xac (zaL ?_)⟩
  set_option simprocs false in simp only [wpB,yag e,Zas e,(show ixN [D.int o,D.int m].length 0=some 0 from ix2_0)]
  refine ⟨⟨h0,h1⟩,Xah ?_⟩
  set_option simprocs false in simp only [wpB]
  refine ⟨Int.emod_nonneg _ (by omega),Int.emod_lt_of_pos _ h0,⟨o / n,m,?_,Int.ediv_nonneg o0 (by omega),m0,m1⟩,Ex.refl.put (by simp)⟩
  rw [List.getElem?_set_self hfl]
 ·refine yal (xac (Yae ?_))
  set_option simprocs false in simp only [wpB,yag e]
  refine ⟨by omega,by omega,xac (zaL ?_)⟩
  set_option simprocs false in simp only [wpB,yag e,Zas e,(show ixN [D.int o,D.int m].length 1=some 1 from ix2_1)]
  refine ⟨by omega,by omega,Xah ?_⟩
  have e2:(st.set f (.lst [.int o,.int ((m * 48271 % 2147483647 * 40692 + 30103) % 2147483399 + 1)]))[f]?=some (.lst [.int o,.int ((m * 48271 % 2147483647 * 40692 + 30103) % 2147483399 + 1)]):=List.getElem?_set_self hfl
  set_option simprocs false in simp only [wpB,yag e2]
  refine ⟨by omega,by omega,h0,Int.emod_nonneg _ (by omega),Int.emod_lt_of_pos _ h0,⟨_,_,e2,o0,by omega,by omega⟩,Ex.refl.put (by simp)⟩
theorem ya7 {st:Store} {a:Nat} {ns:List Int} {k:Nat} (hs:items st a=some (ns.map D.int)) (hk:k≤100):Wp (yar [.ref a,.int (k:Int)] st) fun d st'=>d=.ref st.length∧FeedIs st' st.length∧Ex [] st st':=by
 refine Yau ?_
 show Ws (Zat [some (.ref a),some (.int (k:Int)),none,none] st) _ _ _ _
 unfold Zat
 refine xac (Yae ?_)
 set_option simprocs false in simp only [wpB]
 refine ⟨by omega,xac (Ya3 (N:=fun δ st1=>st1=st∧∃ c:Int,δ=[some (.ref a),some (.int (k:Int)),some (.int c),none]) (Zau ?_) ?_)⟩
 ·set_option simprocs false in simp only [wpB,hs]
  refine ⟨fun h=>Yae ?_,fun h=>Zau ?_⟩
  ·have h:=of_decide_eq_true h
   rw [List.length_map] at h
   set_option simprocs false in simp only [wpB,hs]
   refine ⟨.int (ns[k]'(by omega)),xaY (by rw [List.getElem?_map,List.getElem?_eq_getElem];rfl),_,rfl⟩
  ·set_option simprocs false in simp only [wpB,hs]
   refine ⟨fun h=>Yae ?_,fun h=>yal ⟨rfl,_,rfl⟩⟩
   have h:=of_decide_eq_true h
   obtain ⟨v,hv,hm⟩:=atI_lt (xs:=ns.map D.int) (i:=(k:Int) % ((ns.map D.int).length:Int)) (Int.emod_nonneg _ (by omega)) (Int.emod_lt_of_pos _ h)
   obtain ⟨c,_,rfl⟩:=List.mem_map.mp hm
   set_option simprocs false in simp only [wpB,hs]
   refine ⟨h,_,hv,?_⟩
   set_option simprocs false in simp only [wpB]
   exact ⟨by omega,by omega,by omega,_,rfl⟩
 ·rintro δ st1 ⟨rfl,c,rfl⟩
  refine xac (Yae ?_)
  set_option simprocs false in simp only [wpB]
  refine xac (Ya3 (N:=fun δ st2=>st2=st1∧∃ o:Int,0≤o∧δ=[some (.ref a),some (.int (k:Int)),some (.int c),some (.int o)]) (Zau ?_) ?_)
  ·set_option simprocs false in simp only [wpB]
   refine ⟨by decide,fun h=>Yae ?_,fun h=>yal ⟨rfl,0,by decide,rfl⟩⟩
   have h:=of_decide_eq_true h
   set_option simprocs false in simp only [wpB]
   exact ⟨c,Int.le_trans (by decide) h,rfl⟩
  ·rintro δ st2 ⟨rfl,o,o0,rfl⟩
   refine Xah ?_
   set_option simprocs false in simp only [wpB]
   have h1:0≤c % 2147483629:=Int.emod_nonneg _ (by decide)
   have h2:c % 2147483629 < 2147483629:=Int.emod_lt_of_pos _ (by decide)
   refine ⟨by omega,by omega,by omega,by omega,by omega,by rfl,⟨_,_,Zaj,o0,?_,?_⟩,Ex.app0 _⟩
   ·have:=Int.emod_nonneg ((c % 2147483629 * 48271 + 40692 * (k:Int)) ^ (5:Int).toNat) (show (2147483629:Int)≠0 by decide)
    omega
   ·have:=Int.emod_lt_of_pos ((c % 2147483629 * 48271 + 40692 * (k:Int)) ^ (5:Int).toNat) (show (0:Int) < 2147483629 by decide)
    omega
noncomputable def goS (w h:Nat):Nat→Nat→Nat→List Bool
 | 0,_,_=>[]
 | f + 1,x,y=>if x < w∨y < h then (if (y + 1) * w≤h * x∧y < h then true :: goS w h f x (y + 1) else false :: goS w h f (x + 1) y) else []
noncomputable def sideC (a:Int):Nat:=if a < 0 then 108 else 114
noncomputable def stC (c:Nat) (b:Bool):Nat:=if b then 117 else c
noncomputable def stepsO (a:Int) (L:List Bool):Str:=sO (L.map (stC (sideC a)))
theorem Zbe {w h f x y:Nat} (hc:x < w∨y < h):goS w h (f + 1) x y=if (y + 1) * w≤h * x∧y < h then true :: goS w h f x (y + 1) else false :: goS w h f (x + 1) y:=by
 rw [goS,if_pos hc]
theorem Ybs (a:Int):(if a < 0 then -a else a)=(a.natAbs:Int):=by split <;> omega
theorem ZaB {st:Store} {a:Int} {h:Nat} (ha:a.natAbs≤1000) (hh:h≤1000):Wp (Zal [.tup [.int a,.int (h:Int)]] st) fun d st'=>d=.str (stepsO a (goS a.natAbs h (a.natAbs + h) 0 0))∧Ex [] st st':=by
 refine Yau ?_
 show Ws (Xao [some (.tup [.int a,.int (h:Int)]),none,none,none,none,none,none] st) _ _ _ _
 unfold Xao
 refine xac (Yae ?_)
 refine Yab ?_
 intro qhQ hQ
 set_option simprocs false in simp only [wpB,Zbi,Ybs]
 refine hQ _ _ (xac (Yae ?_))
 clear hQ
 refine Yab ?_
 intro qhQ hQ
 set_option simprocs false in simp only [wpB]
 refine hQ _ _ (xac (Yae ?_))
 clear hQ
 refine Yab ?_
 intro qhQ hQ
 set_option simprocs false in simp only [wpB]
 have eside:∀ {R:D→Store→Prop} {s:Store},R (.str (sO [sideC a])) s→(if decide (a < 0)=true then R (.str "l") s else R (.str "r") s):=fun {R s} h=>by
  unfold sideC at h
  by_cases c:a < 0
  ·rw [if_pos (decide_eq_true c)];rw [if_pos c] at h;exact h
  ·rw [if_neg (by simpa using c)];rw [if_neg c] at h;exact h
 refine eside ?_
 refine hQ _ _ (xac (Yae ?_))
 clear hQ
 refine Yab ?_
 intro qhQ hQ
 set_option simprocs false in simp only [wpB]
 refine ⟨rfl,?_⟩
 refine hQ _ _ (xac (Yae ?_))
 clear hQ
 refine Yab ?_
 intro qhQ hQ
 set_option simprocs false in simp only [wpB]
 refine hQ _ _ (xac (Yae ?_))
 clear hQ
 refine Yab ?_
 intro qhQ hQ
 set_option simprocs false in simp only [wpB]
 generalize hw:a.natAbs=w at *
 refine hQ _ _ (xac (zaH (fun m δ s=>∃ (x y:Nat) (L:List Bool),m=(w - x) + (h - y)∧x≤w∧y≤h∧δ=[some (.tup [.int a,.int (h:Int)]),some (.int (w:Int)),some (.int (h:Int)),some (.str (sO [sideC a])),some (.ref st.length),some (.int (x:Int)),some (.int (y:Int))]∧s[st.length]?=some (.lst (L.map fun b=>.str (sO [stC (sideC a) b])))∧L.length + ((w - x) + (h - y))≤w + h∧goS w h (w + h) 0 0=L ++ goS w h ((w - x) + (h - y)) x y∧Ex [] st s) (w + h) (Nat.lt_of_le_of_lt (show w + h≤2000 by omega) (by decide)) ⟨0,0,[],by omega,by omega,by omega,rfl,Zaj,by simp,rfl,Ex.app0 _⟩ ?_))
 clear hQ
 rintro m δ s ⟨x,y,L,rfl,hx,hy,rfl,hL,hlen,hgo,k⟩
 have e1:decide ((x:Int) < (w:Int))=decide (x < w):=by simp
 have e2:decide ((y:Int) < (h:Int))=decide (y < h):=by simp
 refine Yab ?_
 intro qhQ hQ
 set_option simprocs false in simp only [wpB]
 refine or_if (R:=fun t=>qhQ t s) (hQ _ _ ⟨fun hc=>?_,fun hc=>?_⟩)
 ·have hc:x < w∨y < h:=by rw [e1,e2] at hc;simpa using hc
  obtain ⟨f,hf⟩:∃ f,(w - x) + (h - y)=f + 1:=⟨(w - x) + (h - y) - 1,by omega⟩
  have hmul1:(y + 1) * w≤2000000:=Nat.le_trans (Nat.mul_le_mul (show y + 1≤1001 by omega) ha) (by decide)
  have hmul2:h * x≤2000000:=Nat.le_trans (Nat.mul_le_mul hh (show x≤1000 by omega)) (by decide)
  have e3:decide (((y:Int) + 1) * (w:Int)≤(h:Int) * (x:Int))=decide ((y + 1) * w≤h * x):=by
   rw [show ((y:Int) + 1) * (w:Int)=(((y + 1) * w:Nat):Int) by push_cast;rfl,show (h:Int) * (x:Int)=((h * x:Nat):Int) by push_cast;rfl]
   simp only [Int.ofNat_le]
  rw [hf,Zbe hc] at hgo
  refine Zau ?_
  clear hQ
  refine Yab ?_
  intro qhQ hQ
  set_option simprocs false in simp only [wpB]
  refine ⟨.inl (by omega),.inl (by omega),and_if (R:=fun t=>qhQ t s) (hQ _ _ ⟨fun hc2=>?_,fun hc2=>?_⟩)⟩
  ·have hc2:(y + 1) * w≤h * x∧y < h:=by rw [e3,e2] at hc2;simpa using hc2
   rw [if_pos hc2] at hgo
   refine xac (xa3 ?_)
   clear hQ
   refine Yab ?_
   intro qhQ hQ
   set_option simprocs false in simp only [wpB,Zas hL]
   refine ⟨ZaR (by rw [yag hL];rfl),yaB (by rw [List.length_map];omega),?_⟩
   refine hQ _ _ (Yae ?_)
   clear hQ
   refine Yab ?_
   intro qhQ hQ
   set_option simprocs false in simp only [wpB]
   refine hQ _ _ ⟨(w - x) + (h - (y + 1)),by omega,x,y + 1,L ++ [true],rfl,hx,by omega,rfl,?_,by rw [List.length_append,List.length_singleton];omega,?_,k.loc (Nat.le_refl _)⟩
   ·rw [List.getElem?_set_self (Zai hL),List.map_append];rfl
   ·rw [hgo,List.append_assoc,show (w - x) + (h - (y + 1))=f by omega];rfl
  ·have hc2:¬ ((y + 1) * w≤h * x∧y < h):=by rw [e3,e2] at hc2;simpa using hc2
   have hxw:x < w:=by
    rcases hc with hc | hc
    ·exact hc
    ·by_cases hxw:x < w
     ·exact hxw
     ·exfalso
      have exw:x=w:=by omega
      refine hc2 ⟨?_,hc⟩
      rw [exw]
      exact Nat.mul_le_mul_right w hc
   rw [if_neg hc2] at hgo
   refine xac (xa3 ?_)
   clear hQ
   refine Yab ?_
   intro qhQ hQ
   set_option simprocs false in simp only [wpB,Zas hL]
   refine ⟨ZaR (by rw [yag hL];rfl),yaB (by rw [List.length_map];omega),?_⟩
   refine hQ _ _ (Yae ?_)
   clear hQ
   refine Yab ?_
   intro qhQ hQ
   set_option simprocs false in simp only [wpB]
   refine hQ _ _ ⟨(w - (x + 1)) + (h - y),by omega,x + 1,y,L ++ [false],rfl,by omega,hy,rfl,?_,by rw [List.length_append,List.length_singleton];omega,?_,k.loc (Nat.le_refl _)⟩
   ·rw [List.getElem?_set_self (Zai hL),List.map_append];rfl
   ·rw [hgo,List.append_assoc,show (w - (x + 1)) + (h - y)=f by omega];rfl
 ·have hc:¬ (x < w∨y < h):=by rw [e1,e2] at hc;simpa using hc
  have e0:(w - x) + (h - y)=0:=by omega
  rw [e0,goS,List.append_nil] at hgo
  rw [hgo]
  refine Xah ?_
  clear hQ
  have hL':items s st.length=some (((L.map fun b=>[stC (sideC a) b]).map sO).map D.str):=by rw [yag hL,List.map_map,List.map_map];rfl
  have hb:∀ x∈(L.map fun b=>[stC (sideC a) b]).map sO,x.length≤100:=fun x hx=>by
   obtain ⟨z,hz,rfl⟩:=List.mem_map.mp hx
   obtain ⟨b,_,rfl⟩:=List.mem_map.mp hz
   rw [sO_len];exact (show 1≤100 by decide)
  refine Yab ?_
  intro qhQ hQ
  set_option simprocs false in simp only [wpB,ybr (sep:=Str.ofString "") hL' (by rw [List.length_map,List.length_map];omega) (by decide) hb]
  refine ⟨rfl,hQ _ _ ⟨?_,k⟩⟩
  rw [show (Str.ofString "")=sO [] from rfl,join0]
  unfold stepsO
  congr 2
  rw [← List.flatMap_def]
  exact (List.map_eq_flatMap (f:=stC (sideC a)) (l:=L)).symm
noncomputable def t4D (T:Mth.T4):D:=.tup [.int T.a,.int T.b,.int T.c,.int T.d]
noncomputable def tOk (A B:Mth.T4):Prop:=∀ x∈[A.a,A.b,A.c,A.d],∀ y∈[B.a,B.b,B.c,B.d],mulOkW x y=true
theorem tOk_l {A B:Mth.T4} (h:A.le 18446744073709551615):tOk A B:=fun x hx y _=>by
 refine Xbc ?_
 obtain ⟨h1,h2,h3,h4⟩:=h
 simp only [List.mem_cons,List.not_mem_nil,or_false] at hx
 rcases hx with rfl | rfl | rfl | rfl <;> omega
theorem xaE {st:Store} {A B:Mth.T4} (h:tOk A B):Wp (zav [t4D A,t4D B] st) fun d st'=>d=t4D (A.mul B)∧Ex [] st st':=by
 refine Yau ?_
 show Ws (yaI [some (t4D A),some (t4D B)] st) _ _ _ _
 unfold yaI t4D
 refine Xah ?_
 have hh:∀ x y:Int,x∈[A.a,A.b,A.c,A.d]→y∈[B.a,B.b,B.c,B.d]→mulOkW x y=true:=fun x y hx hy=>h x hx y hy
 have a1:∀ y∈[B.a,B.b,B.c,B.d],mulOkW A.a y=true:=h _ (by simp)
 have a2:∀ y∈[B.a,B.b,B.c,B.d],mulOkW A.b y=true:=h _ (by simp)
 have a3:∀ y∈[B.a,B.b,B.c,B.d],mulOkW A.c y=true:=h _ (by simp)
 have a4:∀ y∈[B.a,B.b,B.c,B.d],mulOkW A.d y=true:=h _ (by simp)
 refine Yab ?_
 intro qhQ hQ
 set_option simprocs false in simp only [wpB,Za6,at2,at3]
 exact ⟨a1 _ (by simp),a2 _ (by simp),a1 _ (by simp),a2 _ (by simp),a3 _ (by simp),a4 _ (by simp),a3 _ (by simp),a4 _ (by simp),rfl,hQ _ _ ⟨rfl,Ex.refl⟩⟩
theorem XaL {st:Store} {s:Stp} (h:Mth.prS s):Wp (yan [stD s] st) fun d st'=>d=t4D (Mth.stT s)∧Ex [] st st':=by
 obtain ⟨b,k⟩:=s
 refine Yau ?_
 show Ws (Xar [some (stD (b,k)),none,none] st) _ _ _ _
 unfold Xar stD
 cases b with
 | true =>
  refine xac (Zau ?_)
  refine Yab ?_
  intro qhQ hQ
  set_option simprocs false in simp only [wpB]
  refine hQ _ _ ⟨fun _=>Xah ?_,fun h=>absurd h (by decide)⟩
  clear hQ
  refine Yab ?_
  intro qhQ hQ
  set_option simprocs false in simp only [wpB]
  exact ⟨rfl,hQ _ _ ⟨rfl,Ex.refl⟩⟩
 | false =>
  obtain ⟨k1,k3⟩:=h.1 rfl
  simp only at k1 k3
  obtain ⟨j,rfl⟩:∃ j:Nat,k=(j:Int):=⟨k.toNat,by omega⟩
  refine xac (Zau ?_)
  refine Yab ?_
  intro qhQ hQ
  set_option simprocs false in simp only [wpB]
  refine hQ _ _ ⟨fun h=>absurd h (by decide),fun _=>yal (xac (Yae ?_))⟩
  clear hQ
  refine Yab ?_
  intro qhQ hQ
  set_option simprocs false in simp only [wpB]
  refine hQ _ _ ?_
  clear hQ
  show Ws _ _ _ _ _
  refine xac (Xa3 (rangeD 0 j) (fun i δ st2=>∃ v:Option D,δ=[some (.tup [.str "t",.int (j:Int)]),some (t4D (Mth.qp i)),v]∧Ex [] st st2) ?_ (by rw [yah];omega) ?_ ?_)
  ·refine Yab ?_
   intro qhQ hQ
   set_option simprocs false in simp only [wpB]
   exact ⟨by omega,hQ _ _ ⟨by rw [Int.toNat_natCast],none,rfl,Ex.refl⟩⟩
  ·rintro i d δ st2 hd ⟨v,rfl,k2⟩
   refine Yab ?_
   intro qhQ hQ
   set_option simprocs false in simp only [wpB]
   refine hQ _ _ (Yae ?_)
   clear hQ
   refine Yab ?_
   intro qhQ hQ
   set_option simprocs false in simp only [wpB]
   refine xab (xaE (A:=Mth.T4.qt) (B:=Mth.qp i) (tOk_l ⟨by decide,by decide,by decide,by decide⟩)) ?_
   rintro d st3 ⟨rfl,k3⟩
   exact hQ _ _ ⟨_,rfl,k2.trans k3⟩
  ·rintro δ st2 ⟨v,rfl,k2⟩
   rw [yah]
   refine Xah ?_
   refine Yab ?_
   intro qhQ hQ
   set_option simprocs false in simp only [wpB]
   refine hQ _ _ ⟨?_,k2⟩
   show t4D (Mth.qp j)=t4D (Mth.qp (j:Int).toNat)
   rw [Int.toNat_natCast]
theorem stT_le {s:Stp} {B:Nat} (h:Mth.prS s) (hs:s.2.natAbs≤B):(Mth.stT s).le (B + 1):=by
 have:=Mth.st_le (T:=Mth.T4.one) (s:=s) (M:=1) (B:=B) ⟨by decide,by decide,by decide,by decide⟩ h hs
 rwa [Mth.T4.mul_one,Nat.mul_one] at this
theorem xbs {T:Mth.T4} {M N:Nat} (h:T.le M) (hn:M≤N):T.le N:=⟨Nat.le_trans h.1 hn,Nat.le_trans h.2.1 hn,Nat.le_trans h.2.2.1 hn,Nat.le_trans h.2.2.2 hn⟩
theorem yas {st:Store} {w:List Stp} (hw:∀ s∈w,Mth.prS s∧s.2.natAbs≤1099511627776) (hl:w.length≤1000):Wp (Zah [.tup (w.map stD)] st) fun d st'=>d=t4D (Mth.tabW w)∧Ex [] st st':=by
 refine Yau ?_
 show Ws (Zaw [some (.tup (w.map stD)),none,none] st) _ _ _ _
 unfold Zaw
 refine xac (Yae ?_)
 refine Yab ?_
 intro qhQ hQ
 set_option simprocs false in simp only [wpB]
 refine hQ _ _ ?_
 clear hQ
 show Ws _ _ _ _ _
 refine xac (Xa3 (w.map stD) (fun i δ st2=>∃ v:Option D,δ=[some (.tup (w.map stD)),some (t4D (Mth.tabW (w.take i))),v]∧Ex [] st st2) ?_ (by rw [List.length_map];omega) ?_ ?_)
 ·refine Yab ?_
  intro qhQ hQ
  set_option simprocs false in simp only [wpB]
  exact hQ _ _ ⟨rfl,none,rfl,Ex.refl⟩
 ·rintro i d δ st2 hd ⟨v2,rfl,k2⟩
  rw [List.getElem?_map] at hd
  obtain ⟨s,hs,rfl⟩:=Option.map_eq_some_iff.mp hd
  obtain ⟨hil,es⟩:=List.getElem?_eq_some_iff.mp hs
  have hsw:=hw s (List.mem_of_getElem? hs)
  refine Yab ?_
  intro qhQ hQ
  set_option simprocs false in simp only [wpB]
  refine hQ _ _ (Yae ?_)
  clear hQ
  refine Yab ?_
  intro qhQ hQ
  set_option simprocs false in simp only [wpB]
  refine xab (XaL hsw.1) ?_
  rintro d st3 ⟨rfl,k3⟩
  refine xab (xaE (tOk_l (xbs (stT_le hsw.1 hsw.2) (by decide)))) ?_
  rintro d st4 ⟨rfl,k4⟩
  refine hQ _ _ ⟨some (stD s),?_,(k2.trans k3).trans k4⟩
  rw [List.take_succ_eq_append_getElem hil,Mth.XaA,es]
  rfl
 ·rintro δ st2 ⟨v2,rfl,k2⟩
  rw [List.length_map,List.take_length]
  refine Xah ?_
  refine Yab ?_
  intro qhQ hQ
  set_option simprocs false in simp only [wpB]
  exact hQ _ _ ⟨rfl,k2⟩
theorem zaM {st:Store} {x y:Int} (hy:y≠0) (hb:y.natAbs < 500000000):Wp (yav [.int x,.int y] st) fun d st'=>d=.int (Mth.nr x y)∧Ex [] st st':=by
 refine Yau ?_
 show Ws (zay [some (.int x),some (.int y)] st) _ _ _ _
 unfold zay
 refine Xah ?_
 refine Yab ?_
 intro qhQ hQ
 set_option simprocs false in simp only [wpB,ybd]
 exact ⟨.inl (by decide),.inl (by decide),⟨by omega,by omega⟩,hQ _ _ ⟨rfl,Ex.refl⟩⟩
theorem XaO {st:Store} {k:Int}:Wp (xax [.int k] st) fun d st'=>d=.tup ((Mth.shW k).map stD)∧Ex [] st st':=by
 refine Yau ?_
 show Ws (Xaz [some (.int k)] st) _ _ _ _
 unfold Xaz
 refine xac (Zau ?_)
 refine Yab ?_
 intro qhQ hQ
 set_option simprocs false in simp only [wpB]
 refine hQ _ _ ⟨fun h=>Xah ?_,fun h=>yal (Xah ?_)⟩
 ·have h:k=0:=of_decide_eq_true h
  clear hQ
  refine Yab ?_
  intro qhQ hQ
  set_option simprocs false in simp only [wpB]
  refine ⟨rfl,hQ _ _ ⟨?_,Ex.refl⟩⟩
  unfold Mth.shW
  rw [if_pos h];rfl
 ·have h:¬ k=0:=of_decide_eq_false h
  clear hQ
  refine Yab ?_
  intro qhQ hQ
  set_option simprocs false in simp only [wpB]
  refine ⟨rfl,rfl,hQ _ _ ⟨?_,Ex.refl⟩⟩
  unfold Mth.shW
  rw [if_neg h];rfl
theorem Yaz {st:Store} {T:Mth.T4} {x y:Int} (hx:x.natAbs < 18446744073709551615) (hy:y.natAbs < 18446744073709551615):Wp (Yak [t4D T,.tup [.int x,.int y]] st) fun d st'=>d=.tup [.int (T.a * x + T.b * y),.int (T.c * x + T.d * y)]∧Ex [] st st':=by
 have ok:∀ i j:Int,j.natAbs < 18446744073709551615→mulOkW i j=true:=fun i j hj=>by
  unfold mulOkW
  rw [decide_eq_true (show -18446744073709551616 < j∧j < 18446744073709551616 by omega)]
  simp
 refine Yau ?_
 show Ws (yaw [some (t4D T),some (.tup [.int x,.int y])] st) _ _ _ _
 unfold yaw t4D
 refine Xah ?_
 refine Yab ?_
 intro qhQ hQ
 set_option simprocs false in simp only [wpB,Za6,at2,at3]
 exact ⟨ok _ _ hx,ok _ _ hy,ok _ _ hx,ok _ _ hy,rfl,hQ _ _ ⟨rfl,Ex.refl⟩⟩
theorem Za7 {st:Store} {Q:D→Store→Prop} {x y:Int}:Wp (gIxT (.tup [.int x,.int y]) (.int 0) st) Q↔Q (.int x) st:=Yaa
theorem Ya7 {st:Store} {Q:D→Store→Prop} {x y:Int}:Wp (gIxT (.tup [.int x,.int y]) (.int 1) st) Q↔Q (.int y) st:=Yaa
theorem YaB {st:Store} {x y:Int} (hx:x.natAbs≤16777216) (hy:y.natAbs≤16777216):Wp (xal [.tup [.int x,.int y]] st) fun d st'=>∃ g:List Stp,d=.tup (g.map stD)∧(∀ s∈g,Mth.prS s∧s.2.natAbs≤16777217)∧g.length≤52∧(Mth.tabW g).c * x + (Mth.tabW g).d * y=0∧(∃ r,Mth.Bv g ((Mth.tabW g).a * x + (Mth.tabW g).b * y) 0 r)∧Ex [] st st':=by
 refine Yau ?_
 show Ws (yap [some (.tup [.int x,.int y]),none,none,none] st) _ _ _ _
 unfold yap
 refine xac (Yae ?_)
 refine Yab ?_
 intro qhQ hQ
 set_option simprocs false in simp only [wpB]
 refine ⟨rfl,?_⟩
 refine hQ _ _ (xac (Yae ?_))
 clear hQ
 refine Yab ?_
 intro qhQ hQ
 set_option simprocs false in simp only [wpB]
 refine hQ _ _ (xac (zaH (fun m δ s=>∃ (g:List Stp) (u v:Int) (r:Nat) (v3:Option D),m=26 - r∧r≤25∧δ=[some (.tup [.int x,.int y]),some (.tup (g.map stD)),some (.tup [.int u,.int v]),v3]∧Mth.Dv 16777216 x y g u v r∧Mth.Bv g u v r∧Ex [] st s) 26 (by decide) ⟨[],x,y,0,none,rfl,by decide,rfl,Mth.Dv.zero hx hy,Mth.Bv.zero x y,Ex.refl⟩ ?_))
 clear hQ
 rintro m δ s ⟨g,u,v,r,v3,rfl,hr,rfl,dv,bv,k1⟩
 have hub:=dv.ub
 have hvb:v.natAbs≤16777216:=Nat.le_trans (Nat.le_mul_of_pos_right _ (Nat.one_le_two_pow)) dv.vb
 refine Yab ?_
 intro qhQ hQ
 set_option simprocs false in simp only [wpB,Ya7]
 refine hQ _ _ ⟨fun hc=>?_,fun hc=>?_⟩
 ·have hv:v≠0:=by simpa using hc
  have few:=dv.few (k:=25) hv (by decide)
  have dv':=dv.step hv
  refine xac (Yae ?_)
  clear hQ
  refine Yab ?_
  intro qhQ hQ
  set_option simprocs false in simp only [wpB,Za7,Ya7]
  refine xab (zaM hv (by omega)) ?_
  rintro d s1 ⟨rfl,k2⟩
  set_option simprocs false in simp only [wpB]
  refine xab (XaO) ?_
  rintro d s2 ⟨rfl,k3⟩
  set_option simprocs false in simp only [wpB]
  have hsl:=Mth.xa0 (-(Mth.nr u v))
  refine ⟨rfl,rfl,yaB (by rw [List.length_map];show _ + 1≤_;omega),?_⟩
  have e1:((Mth.shW (-(Mth.nr u v))).map stD ++ [D.tup [D.str "t",D.int 1]])=(Mth.dvW u v).map stD:=by
   unfold Mth.dvW
   rw [List.map_append];rfl
  rw [e1]
  have hpr:=Mth.Ybg (x:=u) hv
  refine hQ _ _ (xac (Yae ?_))
  clear hQ
  refine Yab ?_
  intro qhQ hQ
  set_option simprocs false in simp only [wpB]
  refine xab (yas (w:=Mth.dvW u v) (fun s hs=>⟨(hpr s hs).1,by have:=(hpr s hs).2;omega⟩) (by have:=Mth.yaN u v;omega)) ?_
  rintro d s3 ⟨rfl,k4⟩
  refine xab (Yaz (T:=Mth.tabW (Mth.dvW u v)) (x:=u) (y:=v) (by omega) (by omega)) ?_
  rintro d s4 ⟨rfl,k5⟩
  rw [Mth.zaN]
  have e2:∀ q:Int,D.tup [.int ((0:Int) * u + -1 * v),.int (1 * u + -q * v)]=.tup [.int (-v),.int (u - q * v)]:=fun q=>by
   have a1:(0:Int) * u + -1 * v=-v:=by omega
   have a2:1 * u + -q * v=u - q * v:=by rw [Int.neg_mul];omega
   rw [a1,a2]
  show qhQ (D.tup [.int ((0:Int) * u + -1 * v),.int (1 * u + -(Mth.nr u v) * v)]) s4
  rw [e2]
  refine hQ _ _ (Yae ?_)
  clear hQ
  refine Yab ?_
  intro qhQ hQ
  set_option simprocs false in simp only [wpB]
  have hgl:=dv.ln
  have hdl:=Mth.yaN u v
  refine ⟨yaB (by rw [List.length_map,List.length_map];omega),hQ _ _ ⟨26 - (r + 1),by omega,g ++ Mth.dvW u v,_,_,r + 1,_,rfl,by omega,by rw [List.map_append];rfl,dv',bv.step hv,(((k1.trans k2).trans k3).trans k4).trans k5⟩⟩
 ·have hv:v=0:=by simpa using hc
  refine Xah ?_
  clear hQ
  refine Yab ?_
  intro qhQ hQ
  set_option simprocs false in simp only [wpB]
  exact hQ _ _ ⟨g,rfl,dv.pr,by have:=dv.ln;omega,by rw [← dv.vc];exact hv,⟨r,by rw [← dv.ua];rw [hv] at bv;exact bv⟩,k1⟩
noncomputable def Rf (p c:Int):Prop:=c < 0∨Int.gcd p c≠1∨(p=-1∧c=0)
noncomputable def Good (T:Mth.T4) (p c:Int):Prop:=T.a * T.d - T.b * T.c=1∧T.a * p + T.b * c=1∧T.c * p + T.d * c=0∧T.le 1001
noncomputable def Raised (d:D) (st:Store):Prop:=∃ i,d=.ref i∧st[i]?=some (.exc "NoSlope" [])
theorem xaB {st:Store} {p c:Int} (hp:p.natAbs≤1001) (hc:c.natAbs≤1001):Wp (zam [.tup [.int p,.int c]] st) fun d st'=>Ex [] st st'∧((Rf p c∧Raised d st')∨(¬ Rf p c∧∃ T,d=t4D T∧Good T p c)):=by
 refine Yau ?_
 show Ws (Zap [some (.tup [.int p,.int c]),none,none] st) _ _ _ _
 unfold Zap
 refine xac (yaO (Yae ?_))
 refine Yab ?_
 intro qhQ hQ
 set_option simprocs false in simp only [wpB]
 refine xab (YaB (x:=p) (y:=c) (by omega) (by omega)) ?_
 rintro d s1 ⟨g,rfl,hg,hgl,h0,⟨r,bv⟩,k1⟩
 refine hQ _ _ (xac (yaO (Yae ?_)))
 clear hQ
 refine Yab ?_
 intro qhQ hQ
 set_option simprocs false in simp only [wpB]
 refine xab (yas (w:=g) (fun s hs=>⟨(hg s hs).1,by have:=(hg s hs).2;omega⟩) (by omega)) ?_
 rintro d s2 ⟨rfl,k2⟩
 refine xab (Yaz (T:=Mth.tabW g) (x:=p) (y:=c) (by omega) (by omega)) ?_
 rintro d s3 ⟨rfl,k3⟩
 refine hQ _ _ (xac (Zau ?_))
 clear hQ
 refine Yab ?_
 intro qhQ hQ
 set_option simprocs false in simp only [wpB,Za7,Ya7,Zbi,wp_eqP]
 have kk:Ex [] st s3:=(k1.trans k2).trans k3
 have hgc:Int.gcd p c=((Mth.tabW g).a * p + (Mth.tabW g).b * c).natAbs:=Mth.gcd_of bv.dt h0
 obtain ⟨ex,ec⟩:=Mth.Xa0 bv.dt h0
 have hba:=bv.ba
 have hbb:=bv.bb
 have hdt:=bv.dt
 clear k1 k2 k3 bv
 generalize hu:(Mth.tabW g).a * p + (Mth.tabW g).b * c=u at *
 have no:Rf p c→∀ {N B C:DSt→Store→Prop} {R:D→Store→Prop} {δ:DSt},(∀ d st',Ex [] st st'∧((Rf p c∧Raised d st')∨(¬ Rf p c∧∃ T,d=t4D T∧Good T p c))→R d st')→Ws (fRaise0 "NoSlope" δ s3) N B C R:=fun rf N B C R δ hR =>
  xa6 (hR _ _ ⟨kk.trans (Ex.app0 _),.inl ⟨rf,_,rfl,Zaj⟩⟩)
 by_cases c1:c < 0
 ·rw [if_pos (decide_eq_true c1)]
  exact hQ _ _ ⟨fun _=>no (.inl c1) fun _ _ h=>h,fun h=>nomatch h⟩
 rw [if_neg (by simpa using c1)]
 by_cases c2:u.natAbs≠1
 ·rw [if_pos (by rw [Bool.not_eq_true',decide_eq_false_iff_not];split <;> omega)]
  exact hQ _ _ ⟨fun _=>no (.inr (.inl (by rw [hgc];exact c2))) fun _ _ h=>h,fun h=>nomatch h⟩
 have c2:u.natAbs=1:=by omega
 rw [if_neg (by rw [Bool.not_eq_true',decide_eq_false_iff_not];split <;> omega)]
 refine ⟨rfl,?_⟩
 by_cases c3:p=-1∧c=0
 ·refine hQ _ _ ⟨fun _=>no (.inr (.inr c3)) fun _ _ h=>h,fun h=>?_⟩
  rw [decide_eq_true c3] at h;cases h
 refine hQ _ _ ⟨fun h=>?_,fun _=>yaO (yal ?_)⟩
 ·exact absurd (of_decide_eq_true h) c3
 clear hQ no
 have nr':¬ Rf p c:=by
  rintro (h | h | h)
  ·exact c1 h
  ·exact h (by rw [hgc];exact c2)
  ·exact c3 h
 refine xac (yaO (Zau ?_))
 refine Yab ?_
 intro qhQ hQ
 set_option simprocs false in simp only [wpB,Za7]
 have hle:((Mth.tabW g).a.natAbs≤1001∧(Mth.tabW g).b.natAbs≤1001)∧(Mth.tabW g).c.natAbs≤1001∧(Mth.tabW g).d.natAbs≤1001:=by
  have e1:(Mth.tabW g).d.natAbs=p.natAbs:=by rw [ex,Int.natAbs_mul,c2,Nat.mul_one]
  have e2:(Mth.tabW g).c.natAbs=c.natAbs:=by rw [ec,Int.natAbs_neg,Int.natAbs_mul,c2,Nat.mul_one]
  omega
 clear ex ec
 refine hQ _ _ ⟨fun h=>Yae ?_,fun h=>yal (yaO (Xah ?_))⟩
 ·have hu1:u=-1:=of_decide_eq_true h
  clear hQ
  refine Yab ?_
  intro qhQ hQ
  set_option simprocs false in simp only [wpB]
  have e1:(g.map stD ++ [D.tup [D.str "t",D.int 2]])=(g ++ [((false,2):Stp)]).map stD:=by rw [List.map_append];rfl
  rw [e1]
  refine ⟨rfl,rfl,yaB (by rw [List.length_map];show _ + 1≤_;omega),hQ _ _ (yaO (Xah ?_))⟩
  clear hQ
  refine Yab ?_
  intro qhQ hQ
  set_option simprocs false in simp only [wpB]
  have hg2:∀ s∈g ++ [((false,2):Stp)],Mth.prS s∧s.2.natAbs≤1099511627776:=fun s hs=>by
   rcases List.mem_append.mp hs with hs | hs
   ·exact ⟨(hg s hs).1,by have:=(hg s hs).2;omega⟩
   ·rw [List.mem_singleton.mp hs];exact ⟨by unfold Mth.prS;decide,by decide⟩
  refine xab (yas (w:=g ++ [((false,2):Stp)]) hg2 (by rw [List.length_append];show _ + 1≤_;omega)) ?_
  rintro d s4 ⟨rfl,k4⟩
  have e2:Mth.tabW (g ++ [((false,2):Stp)])=⟨-(Mth.tabW g).a,-(Mth.tabW g).b,-(Mth.tabW g).c,-(Mth.tabW g).d⟩:=by
   rw [Mth.XaA]
   have e3:Mth.stT ((false,2):Stp)=⟨-1,0,0,-1⟩:=rfl
   rw [e3]
   apply Mth.T4.ext' <;> simp [Mth.T4.mul]
  rw [e2]
  refine hQ _ _ ⟨rfl,kk.trans k4,.inr ⟨nr',_,rfl,?_,?_,?_,?_,?_,?_,?_⟩⟩
  ·show -(Mth.tabW g).a * -(Mth.tabW g).d - -(Mth.tabW g).b * -(Mth.tabW g).c=1
   rw [Int.neg_mul_neg,Int.neg_mul_neg];exact hdt
  ·show -(Mth.tabW g).a * p + -(Mth.tabW g).b * c=1
   rw [Int.neg_mul,Int.neg_mul];omega
  ·show -(Mth.tabW g).c * p + -(Mth.tabW g).d * c=0
   rw [Int.neg_mul,Int.neg_mul];omega
  ·show (-(Mth.tabW g).a).natAbs≤1001
   omega
  ·show (-(Mth.tabW g).b).natAbs≤1001
   omega
  ·show (-(Mth.tabW g).c).natAbs≤1001
   omega
  ·show (-(Mth.tabW g).d).natAbs≤1001
   omega
 ·have hu1:u=1:=by have:=of_decide_eq_false h;omega
  clear hQ
  refine Yab ?_
  intro qhQ hQ
  set_option simprocs false in simp only [wpB]
  refine xab (yas (w:=g) (fun s hs=>⟨(hg s hs).1,by have:=(hg s hs).2;omega⟩) (by omega)) ?_
  rintro d s4 ⟨rfl,k4⟩
  exact hQ _ _ ⟨rfl,kk.trans k4,.inr ⟨nr',_,rfl,hdt,by rw [hu];exact hu1,h0,hle.1.1,hle.1.2,hle.2.1,hle.2.2⟩⟩
theorem XaB {st:Store} {a c:Int} (ha:a.natAbs≤10000) (hcb:c.natAbs≤10000):Wp (Yag [.int a,.int c] st) fun d st'=>d=.int (Int.gcd a c:Nat)∧Ex [] st st':=by
 refine Yau ?_
 show Ws (xao [some (.int a),some (.int c)] st) _ _ _ _
 unfold xao
 refine xac (Xbh ?_)
 have e1:(if 0 - a > a then 0 - a else a)=(a.natAbs:Int):=by split <;> omega
 have e2:(if 0 - c > c then 0 - c else c)=(c.natAbs:Int):=by split <;> omega
 refine Yab ?_
 intro qhQ hQ
 set_option simprocs false in simp only [wpB,e1,e2]
 refine hQ _ _ ⟨_,_,rfl,?_⟩
 clear hQ
 refine xac (zaH (fun m δ s=>∃ x y:Nat,y=m∧δ=[some (.int (x:Int)),some (.int (y:Int))]∧Nat.gcd x y=Int.gcd a c∧x≤10000∧y≤10000∧s=st) c.natAbs (Nat.lt_of_le_of_lt hcb (by decide)) ⟨a.natAbs,c.natAbs,rfl,rfl,rfl,ha,hcb,rfl⟩ ?_)
 rintro _ δ s ⟨x,y,rfl,rfl,hp,hx,hy,rfl⟩
 refine Yab ?_
 intro qhQ hQ
 set_option simprocs false in simp only [wpB]
 refine hQ _ _ ⟨fun hb=>Xbh ?_,fun hb=>Xah ?_⟩
 ·have hb:y≠0:=by simpa using hb
  clear hQ
  refine Yab ?_
  intro qhQ hQ
  set_option simprocs false in simp only [wpB]
  have hlt:=Nat.mod_lt x (show y > 0 by omega)
  refine ⟨by omega,hQ _ _ ⟨_,_,rfl,x % y,hlt,y,x % y,rfl,rfl,?_,by omega,by omega,rfl⟩⟩
  rw [Nat.gcd_comm,← Nat.gcd_rec,Nat.gcd_comm];exact hp
 ·have hb:y=0:=by simpa using hb
  clear hQ
  refine Yab ?_
  intro qhQ hQ
  set_option simprocs false in simp only [wpB]
  rw [hb,Nat.gcd_zero_right] at hp
  exact hQ _ _ ⟨by rw [← hp],Ex.refl⟩
theorem xa7 {st:Store} {f:Nat} (hf:FeedIs st f):Wp (Xaq [.ref f] st) fun d st'=>∃ a c:Int,d=.tup [.int a,.int c]∧a.natAbs≤1001∧c.natAbs≤1001∧FeedIs st' f∧Ex [f] st st':=by
 refine Yau ?_
 show Ws (yat [some (.ref f),none,none,none,none,none] st) _ _ _ _
 unfold yat
 refine xac (Yae ?_)
 refine Yab ?_
 intro qhQ hQ
 set_option simprocs false in simp only [wpB]
 refine xab (xas (n:=6) hf (by decide) (by decide)) ?_
 rintro d s1 ⟨fo,rfl,fo0,fo1,f1,k1⟩
 refine hQ _ _ (xac (Yae ?_))
 clear hQ
 refine Yab ?_
 intro qhQ hQ
 set_option simprocs false in simp only [wpB]
 refine ⟨rfl,?_⟩
 refine xab (xas (n:=2) (f1.keep (Ex.app0 [O.lst [D.int 9,D.int 1001]])) (by decide) (by decide)) ?_
 rintro d s2 ⟨b,rfl,b0,b1,f2,k2⟩
 have hi2:s2[s1.length]?=some (.lst [.int 9,.int 1001]):=k2.keep _ _ Zaj (by have:=f1.lt;simp;omega)
 obtain ⟨gr,hgr,g1,g2⟩:∃ gr:Int,atI [D.int 9,D.int 1001] b=some (.int gr)∧1≤gr∧gr≤1001:=by
  rcases (show b=0∨b=1 by omega) with rfl | rfl
  ·exact ⟨9,at0 _ _,by decide,by decide⟩
  ·exact ⟨1001,at1 _ _ _,by decide,by decide⟩
 set_option simprocs false in simp only [wpB,yag hi2,hgr]
 refine hQ _ _ (xac (Yae ?_))
 clear hQ
 refine Yab ?_
 intro qhQ hQ
 set_option simprocs false in simp only [wpB]
 refine xab (xas (n:=gr) f2 (by omega) (by omega)) ?_
 rintro d s3 ⟨a,rfl,a0,a1,f3,k3⟩
 refine ⟨rfl,?_⟩
 refine xab (xas (n:=2) (f3.keep (Ex.app0 [O.lst [D.int 1,D.int (-1)]])) (by decide) (by decide)) ?_
 rintro d s4 ⟨b',rfl,b'0,b'1,f4,k4⟩
 have hi4:s4[s3.length]?=some (.lst [.int 1,.int (-1)]):=k4.keep _ _ Zaj (by have:=f3.lt;simp;omega)
 obtain ⟨sg,hsg,hs1⟩:∃ sg:Int,atI [D.int 1,D.int (-1)] b'=some (.int sg)∧(sg=1∨sg=-1):=by
  rcases (show b'=0∨b'=1 by omega) with rfl | rfl
  ·exact ⟨1,at0 _ _,.inl rfl⟩
  ·exact ⟨-1,at1 _ _ _,.inr rfl⟩
 set_option simprocs false in simp only [wpB,yag hi4,hsg]
 refine ⟨.inl (by omega),?_⟩
 have hA:(a * sg).natAbs≤1001:=by rcases hs1 with rfl | rfl <;> omega
 refine hQ _ _ (xac (Yae ?_))
 clear hQ
 refine Yab ?_
 intro qhQ hQ
 set_option simprocs false in simp only [wpB]
 refine xab (xas (n:=gr) f4 (by omega) (by omega)) ?_
 rintro d s5 ⟨c,rfl,c0,c1,f5,k5⟩
 refine ⟨rfl,?_⟩
 refine xab (xas (n:=4) (f5.keep (Ex.app0 [O.lst [D.int 1,D.int 1,D.int 1,D.int (-1)]])) (by decide) (by decide)) ?_
 rintro d s6 ⟨b2,rfl,b20,b21,f6,k6⟩
 have hi6:s6[s5.length]?=some (.lst [.int 1,.int 1,.int 1,.int (-1)]):=k6.keep _ _ Zaj (by have:=f5.lt;simp;omega)
 obtain ⟨sh,hsh,hs2⟩:∃ sg:Int,atI [D.int 1,D.int 1,D.int 1,D.int (-1)] b2=some (.int sg)∧(sg=1∨sg=-1):=by
  rcases (show b2=0∨b2=1∨b2=2∨b2=3 by omega) with rfl | rfl | rfl | rfl
  ·exact ⟨1,at0 _ _,.inl rfl⟩
  ·exact ⟨1,at1 _ _ _,.inl rfl⟩
  ·exact ⟨1,at2 _ _ _ _,.inl rfl⟩
  ·exact ⟨-1,at3 _ _ _ _ _,.inr rfl⟩
 set_option simprocs false in simp only [wpB,yag hi6,hsh]
 refine ⟨.inl (by omega),?_⟩
 have hC:(c * sh).natAbs≤1001:=by rcases hs2 with rfl | rfl <;> omega
 have k16:Ex [f] st s6:=(((((k1.trans (Ex.app0 _)).trans k2).trans k3).trans ((Ex.app0 _).trans k4)).trans k5).trans ((Ex.app0 _).trans k6)
 generalize a * sg=A at *
 generalize c * sh=C at *
 refine hQ _ _ (xac (Yae ?_))
 clear hQ
 refine Yab ?_
 intro qhQ hQ
 set_option simprocs false in simp only [wpB]
 refine xab (XaB (a:=A) (c:=C) (by omega) (by omega)) ?_
 rintro d s7 ⟨rfl,k7⟩
 have f7:=f6.keep k7
 have k17:Ex [f] st s7:=k16.trans (k7.mono fun b hb=>nomatch hb)
 set_option simprocs false in simp only [wpB]
 obtain ⟨g,hg,g1⟩:∃ g:Int,(if ((Int.gcd A C:Nat):Int) > 1 then ((Int.gcd A C:Nat):Int) else 1)=g∧1≤g:=⟨_,rfl,by split <;> omega⟩
 have g2:g≤10000:=by
  rw [← hg]
  split
  ·next h =>
   have h1:Int.gcd A C≤1001:=by
    by_cases z:A=0
    ·rw [z,Int.zero_gcd];exact hC
    ·exact Nat.le_trans (Nat.gcd_le_left _ (by omega)) hA
   omega
  ·decide
 rw [hg]
 refine hQ _ _ (xac (Zau ?_))
 clear hQ
 refine Yab ?_
 intro qhQ hQ
 set_option simprocs false in simp only [wpB]
 refine hQ _ _ ⟨fun h=>Xah ?_,fun h=>yal (Xah ?_)⟩
 ·clear hQ
  refine Yab ?_
  intro qhQ hQ
  set_option simprocs false in simp only [wpB]
  exact ⟨⟨by omega,by omega⟩,⟨by omega,by omega⟩,rfl,hQ _ _ ⟨_,_,rfl,Nat.le_trans (Int.natAbs_ediv_le_natAbs _ _) hA,Nat.le_trans (Int.natAbs_ediv_le_natAbs _ _) hC,f7,k17⟩⟩
 ·have h:¬ fo < 3:=of_decide_eq_false h
  clear hQ
  refine Yab ?_
  intro qhQ hQ
  set_option simprocs false in simp only [wpB]
  have f8:=f7.keep (Ex.app0 [O.lst [D.tup [D.int A,D.int C],D.tup [D.int A,D.int 0],D.tup [D.int 0,D.int C]]])
  refine ⟨rfl,rfl,rfl,rfl,?_⟩
  rcases (show fo=3∨fo=4∨fo=5 by omega) with rfl | rfl | rfl
  ·exact ⟨_,at0 _ _,hQ _ _ ⟨A,C,rfl,hA,hC,f8,k17.trans (Ex.app0 _)⟩⟩
  ·exact ⟨_,at1 _ _ _,hQ _ _ ⟨A,0,rfl,hA,by decide,f8,k17.trans (Ex.app0 _)⟩⟩
  ·exact ⟨_,at2 _ _ _ _,hQ _ _ ⟨0,C,rfl,by decide,hC,f8,k17.trans (Ex.app0 _)⟩⟩
theorem YaV {st:Store} {p c:Int} (hp:p.natAbs≤1001) (hc:c.natAbs≤1001):Wp (zai [.tup [.int p,.int c],.bl true] st) fun d st'=>Ex [] st st'∧((Rf p c∧d=.tup [.str "refused",.bl true])∨(¬ Rf p c∧∃ T,d=.tup [.str "told",t4D T]∧Good T p c)):=by
 refine Yau ?_
 show Ws (Yam [some (.tup [.int p,.int c]),some (.bl true),none,none,none] st) _ _ _ _
 unfold Yam
 refine xac (Yae ?_)
 refine Yab ?_
 intro qhQ hQ
 set_option simprocs false in simp only [wpB]
 refine hQ _ _ (xac (ybj (zaS ?_)))
 clear hQ
 refine Yab ?_
 intro qhQ hQ
 set_option simprocs false in simp only [wpB]
 refine hQ _ _ ⟨fun _=>ybs ?_,fun h=>nomatch h⟩
 clear hQ
 refine Yab ?_
 intro qhQ hQ
 set_option simprocs false in simp only [wpB]
 refine hQ _ _ ?_
 clear hQ
 refine xab (xaB hp hc) ?_
 rintro d s1 ⟨k1,h⟩
 rcases h with ⟨rf,i,rfl,hi⟩ | ⟨nf,T,rfl,hT⟩
 ·have hr:raisedD (.ref i) s1=true:=by simp [raisedD,hi]
  refine ⟨fun _=>⟨fun h=>?_,fun _=>⟨by simp [catches,hi,sub1],Yae ?_⟩⟩,fun h=>?_⟩
  ·rw [hr] at h;cases h
  ·refine Yab ?_
   intro qhQ hQ
   set_option simprocs false in simp only [wpB]
   refine hQ _ _ (xac (Yae ?_))
   clear hQ
   refine Yab ?_
   intro qhQ hQ
   set_option simprocs false in simp only [wpB,zbj]
   refine isxq hi ?_
   refine hQ _ _ (xac (Zau ?_))
   clear hQ
   refine Yab ?_
   intro qhQ hQ
   set_option simprocs false in simp only [wpB,zbj]
   refine isxq hi ⟨true,rfl,?_⟩
   rw [if_neg (by decide)]
   refine isxq hi ⟨true,rfl,hQ _ _ ⟨fun h=>(nomatch h),fun _=>yal (Xah ?_)⟩⟩
   clear hQ
   refine Yab ?_
   intro qhQ hQ
   set_option simprocs false in simp only [wpB]
   exact ⟨rfl,hQ _ _ ⟨k1,.inl ⟨rf,rfl⟩⟩⟩
  ·rw [hr] at h;cases h
 ·exact ⟨fun h=>(by cases (show false=true from h)),fun _=>⟨fun _=>⟨k1,.inr ⟨nf,T,rfl,hT⟩⟩,fun h=>(by cases (show false=true from h))⟩⟩
theorem xaV {st:Store} {a:Int} {h:Nat} (ha:a.natAbs≤1000) (hh:h≤1000):Wp (zai [.tup [.int a,.int (h:Int)],.bl false] st) fun d st'=>d=.tup [.str "told",.str (stepsO a (goS a.natAbs h (a.natAbs + h) 0 0))]∧Ex [] st st':=by
 refine Yau ?_
 show Ws (Yam [some (.tup [.int a,.int (h:Int)]),some (.bl false),none,none,none] st) _ _ _ _
 unfold Yam
 refine xac (Yae ?_)
 refine Yab ?_
 intro qhQ hQ
 set_option simprocs false in simp only [wpB]
 refine hQ _ _ (xac (ybj (zaS ?_)))
 clear hQ
 refine Yab ?_
 intro qhQ hQ
 set_option simprocs false in simp only [wpB]
 refine hQ _ _ ⟨fun h=>(nomatch h),fun _=>yaO (Xah ?_)⟩
 clear hQ
 refine Yab ?_
 intro qhQ hQ
 set_option simprocs false in simp only [wpB]
 refine xab (ZaB ha hh) ?_
 rintro d s1 ⟨rfl,k1⟩
 exact ⟨rfl,hQ _ _ ⟨rfl,fun _=>⟨rfl,k1⟩,fun h=>(by cases (show false=true from h))⟩⟩
theorem cnts:∀ w,w < 25→∀ h,h < 25→w + h≤24→(PySem.Txt.count (sO ((goS w h (w + h) 0 0).map (stC 114))) (sO [114])=w∧PySem.Txt.count (sO ((goS w h (w + h) 0 0).map (stC 114))) (sO [117])=h)∧(PySem.Txt.count (sO ((goS w h (w + h) 0 0).map (stC 108))) (sO [108])=w∧PySem.Txt.count (sO ((goS w h (w + h) 0 0).map (stC 108))) (sO [117])=h)∧(goS w h (w + h) 0 0).length=w + h:=by decide +kernel
theorem Ybj {a c:Int}:(Int.gcd a c≠1∨c < 0∨(c=0∧a≠1))↔Rf a c:=by
 unfold Rf
 constructor
 ·rintro (h | h | ⟨h1,h2⟩)
  ·exact .inr (.inl h)
  ·exact .inl h
  ·by_cases z:Int.gcd a c=1
   ·rw [h1,Int.gcd_zero] at z
    exact .inr (.inr ⟨by omega,h1⟩)
   ·exact .inr (.inl z)
 ·rintro (h | h | ⟨h1,h2⟩)
  ·exact .inr (.inl h)
  ·exact .inl h
  ·exact .inr (.inr ⟨h2,by omega⟩)
theorem XaV {st:Store} {a c:Int} (ha:a.natAbs≤1001) (hc:c.natAbs≤1001):Wp (xan [.tup [.int a,.int c]] st) fun d st'=>d=.bl true∧Ex [] st st':=by
 refine Yau ?_
 show Ws (zas [some (.tup [.int a,.int c]),none,none,none,none,none,none,none,none,none,none] st) _ _ _ _
 unfold zas
 refine xac (zaL ?_)
 refine Yab ?_
 intro qhQ hQ
 set_option simprocs false in simp only [wpB]
 refine hQ _ _ ⟨_,_,rfl,xac (Yae ?_)⟩
 clear hQ
 refine Yab ?_
 intro qhQ hQ
 set_option simprocs false in simp only [wpB]
 refine xab (YaV ha hc) ?_
 rintro d s1 ⟨k1,hd⟩
 refine hQ _ _ (xac (Zau ?_))
 clear hQ
 refine Yab ?_
 intro qhQ hQ
 set_option simprocs false in simp only [wpB]
 refine xab (XaB (a:=a) (c:=c) (by omega) (by omega)) ?_
 rintro d s2 ⟨rfl,k2⟩
 set_option simprocs false in simp only [wpB]
 have k12:Ex [] st s2:=k1.trans k2
 rcases hd with ⟨rf,rfl⟩ | ⟨nf,T,rfl,hT⟩
 ·have yes:qhQ true s2:=by
   refine hQ _ _ ⟨fun _=>Xah ?_,fun h=>(nomatch h)⟩
   clear hQ
   refine Yab ?_
   intro qhQ hQ
   set_option simprocs false in simp only [wpB,zbi]
   exact ⟨rfl,_,rfl,_,rfl,⟨by decide +kernel,by decide +kernel,by decide +kernel⟩,hQ _ _ ⟨rfl,k12⟩⟩
  have L:=Ybj.mpr rf
  by_cases g1:Int.gcd a c=1
  ·rw [if_neg (by rw [g1];decide)]
   by_cases c1:c < 0
   ·rw [if_pos (decide_eq_true c1)];exact yes
   ·rw [if_neg (by simpa using c1)]
    have h0:c=0∧a≠1:=by
     rcases L with L | L | L
     ·exact absurd g1 L
     ·exact absurd L c1
     ·exact L
    rw [if_pos (decide_eq_true h0.1),decide_eq_false h0.2];exact yes
  ·rw [if_pos (by rw [Bool.not_eq_true',decide_eq_false_iff_not];omega)];exact yes
 ·have no:qhQ false s2→(if (!decide (((Int.gcd a c:Nat):Int)=1))=true then qhQ true s2 else if decide (c < 0)=true then qhQ true s2 else if decide (c=0)=true then qhQ (!decide (a=1)) s2 else qhQ false s2):=fun h=>by
   have L:¬ (Int.gcd a c≠1∨c < 0∨(c=0∧a≠1)):=fun z=>nf (Ybj.mp z)
   have g1:Int.gcd a c=1:=by by_cases z:Int.gcd a c=1;exact z;exact absurd (.inl z) L
   have c1:¬ c < 0:=fun z=>L (.inr (.inl z))
   rw [if_neg (by rw [g1];decide),if_neg (by simpa using c1)]
   by_cases c0:c=0
   ·have a1:a=1:=by by_cases z:a=1;exact z;exact absurd (.inr (.inr ⟨c0,z⟩)) L
    rw [if_pos (decide_eq_true c0),decide_eq_true a1];exact h
   ·rw [if_neg (by simpa using c0)];exact h
  have c1:¬ c < 0:=fun z=>nf (.inl z)
  refine no (hQ _ _ ⟨fun h=>(nomatch h),fun _=>yal (xac (Zau ?_))⟩)
  clear hQ no
  obtain ⟨h1,h2,h3,hle⟩:=hT
  have hs4:seqOf s2 (t4D T)=some [.int T.a,.int T.b,.int T.c,.int T.d]:=rfl
  have hx0:∀ {s:Store} {Q:D→Store→Prop} {x y:D},Wp (gIxT (.tup [x,y]) (.int 0) s) Q↔Q x s:=Yaa
  have hx1:∀ {s:Store} {Q:D→Store→Prop} {x y:D},Wp (gIxT (.tup [x,y]) (.int 1) s) Q↔Q y s:=Yaa
  have hT4:∀ s:Store,tyNm s (t4D T)=some "tuple" := fun _=>rfl
  have hsq:∀ s:Store,seqOf s (t4D T)=some [.int T.a,.int T.b,.int T.c,.int T.d]:=fun _=>rfl
  refine Yab ?_
  intro qhQ hQ
  set_option simprocs false in simp only [wpB,hx0,hx1,hsq,ya5 (hT4 _) (show tysD (.ty "tuple")=some ["tuple"] from rfl) (show isaAny "tuple" ["tuple"]=some true from rfl)]
  rw [if_neg (by decide),show (!decide ((([D.int T.a,D.int T.b,D.int T.c,D.int T.d]:List D).length:Int)=4))=false from rfl]
  refine hQ _ _ ⟨fun h=>(nomatch h),fun _=>yal (xac (Xa3 [.int T.a,.int T.b,.int T.c,.int T.d] (fun i δ s=>∃ v:Option D,δ=[some (.tup [.int a,.int c]),some (.int a),some (.int c),some (.tup [.str "told",t4D T]),v,none,none,none,none,none,none]∧s=s2) ?_ (by show 4 < _;decide) ?_ ?_))⟩
  ·clear hQ
   refine Yab ?_
   intro qhQ hQ
   set_option simprocs false in simp only [wpB,hx1]
   exact ⟨_,rfl,hQ _ _ ⟨rfl,_,rfl,rfl⟩⟩
  ·rintro i d δ s hd ⟨v,rfl,rfl⟩
   obtain ⟨z,rfl,hz⟩:∃ z:Int,d=.int z∧z.natAbs≤1001:=by
    obtain ⟨l1,l2,l3,l4⟩:=hle
    have:=List.mem_of_getElem? hd
    simp only [List.mem_cons,List.not_mem_nil,or_false] at this
    rcases this with rfl | rfl | rfl | rfl
    ·exact ⟨_,rfl,l1⟩
    ·exact ⟨_,rfl,l2⟩
    ·exact ⟨_,rfl,l3⟩
    ·exact ⟨_,rfl,l4⟩
   clear hQ
   refine Yab ?_
   intro qhQ hQ
   set_option simprocs false in simp only [wpB]
   refine hQ _ _ (Zau ?_)
   clear hQ
   have hT1:∀ s:Store,tyNm s (.int z)=some "int" := fun _=>rfl
   refine Yab ?_
   intro qhQ hQ
   set_option simprocs false in simp only [wpB,ya5 (hT1 _) (show tysD (.ty "bool")=some ["bool"] from rfl) (show isaAny "int" ["bool"]=some false from rfl),ya5 (hT1 _) (show tysD (.ty "int")=some ["int"] from rfl) (show isaAny "int" ["int"]=some true from rfl)]
   have hm:decide ((1000000:Int) < if 0 - z > z then 0 - z else z)=false:=by
    rw [decide_eq_false_iff_not];split <;> omega
   rw [hm]
   exact hQ _ _ ⟨fun h=>(nomatch h),fun _=>yal ⟨_,rfl,rfl⟩⟩
  ·rintro δ s ⟨v,rfl,rfl⟩
   clear hQ
   refine xac (zaL ?_)
   refine Yab ?_
   intro qhQ hQ
   set_option simprocs false in simp only [wpB,hx1]
   refine hQ _ _ ⟨_,_,rfl,xac (Zau ?_)⟩
   clear hQ
   obtain ⟨l1,l2,l3,l4⟩:=hle
   refine Yab ?_
   intro qhQ hQ
   set_option simprocs false in simp only [wpB]
   refine ⟨.inl (by omega),.inl (by omega),?_⟩
   rw [decide_eq_true h1,if_neg (by decide)]
   refine ⟨.inl (by omega),.inl (by omega),?_⟩
   rw [decide_eq_true h2,if_neg (by decide)]
   refine ⟨.inl (by omega),.inl (by omega),?_⟩
   rw [decide_eq_true h3]
   refine hQ _ _ ⟨fun h=>absurd h (by decide),fun _=>yal (xac (Zau ?_))⟩
   clear hQ
   have eab:(if 0 - a > a then 0 - a else a)=(a.natAbs:Int):=by split <;> omega
   refine Yab ?_
   intro qhQ hQ
   set_option simprocs false in simp only [wpB,eab]
   refine hQ _ _ ⟨fun _=>Xah ?_,fun h=>yal (xac (Yae ?_))⟩
   ·clear hQ
    refine Yab ?_
    intro qhQ hQ
    set_option simprocs false in simp only [wpB]
    exact hQ _ _ ⟨rfl,k12⟩
   have h24:(a.natAbs:Int) + c≤24:=by have:=of_decide_eq_false h;omega
   obtain ⟨n,rfl⟩:∃ n:Nat,c=(n:Int):=⟨c.toNat,by omega⟩
   clear hQ
   refine Yab ?_
   intro qhQ hQ
   set_option simprocs false in simp only [wpB]
   refine xab (xaV (a:=a) (h:=n) (by omega) (by omega)) ?_
   rintro d s3 ⟨rfl,k3⟩
   set_option simprocs false in simp only [wpB,hx1]
   refine hQ _ _ (xac (Yae ?_))
   clear hQ
   refine Yab ?_
   intro qhQ hQ
   set_option simprocs false in simp only [wpB]
   have hside:atI (Str.ofString "rl").cps.toList (if decide (a < 0)=true then 1 else 0)=some (sideC a):=by
    unfold sideC
    by_cases z:a < 0
    ·rw [if_pos (decide_eq_true z),if_pos z];rfl
    ·rw [if_neg (by simpa using z),if_neg z];rfl
   refine ⟨rfl,_,hside,?_⟩
   refine hQ _ _ (Xah ?_)
   clear hQ
   refine Yab ?_
   intro qhQ hQ
   set_option simprocs false in simp only [wpB,eab,Ybd,Ybr]
   obtain ⟨⟨r1,r2⟩,⟨r3,r4⟩,r5⟩:=cnts a.natAbs (by omega) n (by omega) (by omega)
   have e1:PySem.Txt.count (stepsO a (goS a.natAbs n (a.natAbs + n) 0 0)) { cps:=#[sideC a] }=(a.natAbs:Int):=by
    unfold stepsO sideC
    by_cases z:a < 0
    ·rw [if_pos z];exact r3
    ·rw [if_neg z];exact r1
   have e2:PySem.Txt.count (stepsO a (goS a.natAbs n (a.natAbs + n) 0 0)) (Str.ofString "u")=(n:Int):=by
    unfold stepsO sideC
    by_cases z:a < 0
    ·rw [if_pos z];exact r4
    ·rw [if_neg z];exact r2
   have e3:(stepsO a (goS a.natAbs n (a.natAbs + n) 0 0)).length=a.natAbs + n:=by
    refine Eq.trans ?_ r5
    unfold stepsO sO Str.length
    simp
   rw [decide_eq_true e1,if_pos rfl,decide_eq_true e2,if_pos rfl,e3]
   refine ⟨rfl,rfl,yaB (by omega),?_⟩
   rw [decide_eq_true (by push_cast;rfl)]
   exact hQ _ _ ⟨rfl,k12.trans k3⟩
noncomputable def Ask (d:D):Prop:=∃ a c:Int,d=.tup [.int a,.int c]∧a.natAbs≤1001∧c.natAbs≤1001
theorem law_true (ns:List Int) (hn:ns.length≤63):Wp (Zbs [.ref 0] [.fzn (ns.map D.int)]) fun d _=>d=.bl true:=by
 refine Yau ?_
 show Ws (zbe [some (.ref 0),none] [.fzn (ns.map D.int)]) _ _ _ _
 unfold zbe
 obtain ⟨m,hm,hm8⟩:∃ m:Nat,(if (if ((ns.map D.int).length:Int) < 12 then ((ns.map D.int).length:Int) else 12) > 5 then (if ((ns.map D.int).length:Int) < 12 then ((ns.map D.int).length:Int) else 12) else 5)=(m:Int)∧m≤12:=by
  by_cases h8:((ns.map D.int).length:Int) < 12
  ·rw [if_pos h8]
   by_cases h4:((ns.map D.int).length:Int) > 5
   ·rw [if_pos h4];exact ⟨(ns.map D.int).length,rfl,by omega⟩
   ·rw [if_neg h4];exact ⟨5,rfl,by omega⟩
  ·rw [if_neg h8];exact ⟨12,rfl,by omega⟩
 have hS1:items ([O.fzn (ns.map D.int)]:Store) 0=some (ns.map D.int):=rfl
 refine xac (Yae ?_)
 refine Yab ?_
 intro _ hQ
 refine Ybc (rangeD 0 m) (fun _ d=>Ask d) (fun s=>s[0]?=some (.fzn (ns.map D.int))) ?_ (by rw [yah];omega) ?_ ?_
 ·refine Yab ?_
  intro qhQ2 hQ2
  set_option simprocs false in simp only [wpB,hS1,hm]
  exact ⟨by omega,hQ2 _ _ ⟨fun i st2 hi h=>by rw [Int.toNat_natCast];exact xbq _ st2 i st2 hi Ex.refl,rfl⟩⟩
 ·intro i d hd st1 h0
  have hil:=Zai hd
  rw [yah] at hil
  rw [ZaE hil,Int.zero_add] at hd
  cases hd
  refine Yab ?_
  intro qhQ2 hQ2
  set_option simprocs false in simp only [wpB,List.map_cons,List.map_nil,List.getD_cons_succ,List.getD_cons_zero]
  refine xab (ya7 (a:=0) (ns:=ns) (k:=i) (ya4 h0) (by omega)) ?_
  rintro d st2 ⟨rfl,f2,k2⟩
  refine xab (xa7 f2) ?_
  rintro d st5 ⟨a,c,rfl,ha,hc,f5,k5⟩
  exact hQ2 _ _ ⟨⟨a,c,rfl,ha,hc⟩,(k2.drop k5 (Nat.le_refl _)).keep _ _ h0 (by simp)⟩
 ·intro qs st1 h0 hql hqs
  rw [yah] at hql
  have hq:∀ d∈qs,Ask d:=fun d hd=>by
   obtain ⟨i,hi⟩:=List.getElem?_of_mem hd
   exact hqs i d hi
  clear hqs
  refine hQ _ _ (Xah ?_)
  clear hQ
  have h1:(st1 ++ [O.lst qs])[st1.length]?=some (.lst qs):=Zaj
  refine Yab ?_
  intro qhQ hQ
  set_option simprocs false in simp only [wpB]
  refine YaU (qs ++ qs.reverse) (fun _=>.bl true) ?_ (by rw [List.length_append,List.length_reverse];omega) ?_ ?_
  ·have h2:(st1 ++ [O.lst qs] ++ [O.lst qs.reverse])[st1.length]?=some (.lst qs):=xau Zaj
   refine Yab ?_
   intro qhQ2 hQ2
   set_option simprocs false in simp only [wpB,Xbq,yag h1,Zas h1,Zas h2,Za4]
   exact ⟨yaB (by rw [List.length_reverse];omega),hQ2 _ _ ⟨Zbc zaB,((Ex.refl).app _).app _⟩⟩
  ·intro d hd st5 k5
   have hd':d∈qs:=by
    rcases List.mem_append.mp hd with h | h
    ·exact h
    ·exact List.mem_reverse.mp h
   obtain ⟨a,c,rfl,ha,hc⟩:=hq d hd'
   refine Yab ?_
   intro qhQ2 hQ2
   set_option simprocs false in simp only [wpB,List.map_cons,List.map_nil,List.getD_cons_succ,List.getD_cons_zero]
   refine xab (XaV ha hc) ?_
   rintro d st6 ⟨rfl,k6⟩
   exact hQ2 _ _ ⟨rfl,k6⟩
  ·intro st5 k5
   have e1:mapO bV ((qs ++ qs.reverse).map fun _=>D.bl true)=some ((qs ++ qs.reverse).map fun _=>true):=xaz (f:=bV) (g:=fun _=>D.bl true) (k:=fun _=>true) (fun _=>rfl) (qs ++ qs.reverse)
   have e2:((qs ++ qs.reverse).map fun _=>true).all id=true:=by
    rw [List.all_eq_true]
    intro b hb
    obtain ⟨_,_,rfl⟩:=List.mem_map.mp hb
    rfl
   set_option simprocs false in simp only [wpB,zaB,e1,e2]
   exact hQ _ _ rfl
theorem all_ok {P:Program} {w:World} {K:PySem.W.Frag} {mg:Str→Option Value} {base:Heap} (T:Txt mg) {cNoSlope cFloorError cNoFloor cNoName cNoRow cNoTable cNoText cTooMany:Addr} (Z:XF K mg cNoSlope cFloorError cNoFloor cNoName cNoRow cNoTable cNoText cTooMany) {vQUARTER:V} (CQUARTER:Con K mg "QUARTER" vQUARTER (.tup [(.int 0),(.int (-1)),(.int 1),(.int 0)])) {vUNMOVED:V} (CUNMOVED:Con K mg "UNMOVED" vUNMOVED (.tup [(.int 1),(.int 0),(.int 0),(.int 1)])) {f_law_take:Addr} {d_law_take:FuncData} (D_law_take:Def K mg "_law_take" xaq ["_law_feed_here","_law_many"] f_law_take d_law_take) {f_law_common:Addr} {d_law_common:FuncData} (D_law_common:Def K mg "_law_common" Yai ["_law_a","_law_c"] f_law_common d_law_common) {f_law_pair:Addr} {d_law_pair:FuncData} (D_law_pair:Def K mg "_law_pair" zar ["_law_feed_here"] f_law_pair d_law_pair) {f_law_feed:Addr} {d_law_feed:FuncData} (D_law_feed:Def K mg "_law_feed" Zar ["_law_script","_law_k"] f_law_feed d_law_feed) {fslope_steps:Addr} {dslope_steps:FuncData} (Dslope_steps:Def K mg "slope_steps" Yal ["slope"] fslope_steps dslope_steps) {fled_pair:Addr} {dled_pair:FuncData} (Dled_pair:Def K mg "led_pair" Yap ["table","pair"] fled_pair dled_pair) {fshears:Addr} {dshears:FuncData} (Dshears:Def K mg "shears" Xax ["k"] fshears dshears) {ftimes:Addr} {dtimes:FuncData} (Dtimes:Def K mg "times" Yay ["one","other"] ftimes dtimes) {fstep_table:Addr} {dstep_table:FuncData} (Dstep_table:Def K mg "step_table" Zan ["step"] fstep_table dstep_table) {ftable_of:Addr} {dtable_of:FuncData} (Dtable_of:Def K mg "table_of" xap ["word"] ftable_of dtable_of) {fnearest:Addr} {dnearest:FuncData} (Dnearest:Def K mg "nearest" Zav ["number","divisor"] fnearest dnearest) {flevel_steps:Addr} {dlevel_steps:FuncData} (Dlevel_steps:Def K mg "level_steps" Xal ["pair"] flevel_steps dlevel_steps) {fslope_table:Addr} {dslope_table:FuncData} (Dslope_table:Def K mg "slope_table" yam ["slope"] fslope_table dslope_table) {f_law_told:Addr} {d_law_told:FuncData} (D_law_told:Def K mg "_law_told" Yar ["_law_pair_here","_law_table"] f_law_told d_law_told) {f_law_right:Addr} {d_law_right:FuncData} (D_law_right:Def K mg "_law_right" Xan ["_law_pair_here"] f_law_right d_law_right) {flaw:Addr} {dlaw:FuncData} (Dlaw:Def K mg "law" ybe ["_law_script"] flaw dlaw):FnOk P w K mg base CX0 8 flaw dlaw ["_law_script"] (spF K 1 Zbs):=by
 have G_law_take:=yaL (P:=P) (w:=w) (base:=base) D_law_take T
 have G_law_common:=ZaC (P:=P) (w:=w) (base:=base) D_law_common T
 have G_law_pair:=ZaL (P:=P) (w:=w) (base:=base) D_law_pair T  D_law_take G_law_take D_law_common G_law_common
 have G_law_feed:=YaL (P:=P) (w:=w) (base:=base) D_law_feed T
 have Gslope_steps:=YaC (P:=P) (w:=w) (base:=base) Dslope_steps T
 have Gled_pair:=YaO (P:=P) (w:=w) (base:=base) Dled_pair T
 have Gshears:=za7 (P:=P) (w:=w) (base:=base) Dshears T
 have Gtimes:=Xbd (P:=P) (w:=w) (base:=base) Dtimes T
 have Gstep_table:=ZaI (P:=P) (w:=w) (base:=base) Dstep_table T CQUARTER CUNMOVED Dtimes Gtimes
 have Gtable_of:=xaO (P:=P) (w:=w) (base:=base) Dtable_of T CUNMOVED Dtimes Gtimes Dstep_table Gstep_table
 have Gnearest:=ZaV (P:=P) (w:=w) (base:=base) Dnearest T
 have Glevel_steps:=xaC (P:=P) (w:=w) (base:=base) Dlevel_steps T  Dled_pair Gled_pair Dshears Gshears Dtable_of Gtable_of Dnearest Gnearest
 have Gslope_table:=XaC (P:=P) (w:=w) (base:=base) Dslope_table T  Z Dlevel_steps Glevel_steps Dled_pair Gled_pair Dtable_of Gtable_of
 have G_law_told:=xaL (P:=P) (w:=w) (base:=base) D_law_told T  Z Dslope_steps Gslope_steps Dslope_table Gslope_table
 have G_law_right:=YaI (P:=P) (w:=w) (base:=base) D_law_right T  D_law_told G_law_told D_law_common G_law_common
 have Glaw:=ok_law (P:=P) (w:=w) (base:=base) Dlaw T  D_law_pair G_law_pair D_law_feed G_law_feed D_law_right G_law_right
 exact Glaw
end My
open PySem PySem.W PyProof.Rows L2
set_option maxRecDepth 100000 in
set_option maxHeartbeats 0 in
theorem PySem.Challenge.cw_shearfloor_k32_tables_of_slopes_holds : PySem.Challenge.rw_shearfloor_k32_tables_of_slopes.Holds := by
 w_on;o_law;k_head;(case hw=>w_witness2)
 k_fill
 refine L2.Xa8 (l:=PySem.Challenge.rw_shearfloor_k32_tables_of_slopes) (n:=63) (k:=8) (x:="_law_script") (CX:=CX0) (sp:=L4.spLaw) rfl (by decide) rfl ⟨rfl,by decide,by decide,rfl⟩ (fun w h Y=>PySem.W.kIn_of Y) ?F ?S ?C
 case F =>
  intro w mg fa h KX G hmg
  have T:My.Txt mg:=by
   refine' ⟨yaq KX G ?z0,yaq KX G ?z1,yaq KX G ?z2,yaq KX G ?z3,yaq KX G ?z4,yaq KX G ?z5,yaq KX G ?z6,yaq KX G ?z7,yaq KX G ?z8,yaq KX G ?z9,yaq KX G ?z10⟩
   (case z0=>k_is);(case z1=>k_is);(case z2=>k_is);(case z3=>k_is);(case z4=>k_is);(case z5=>k_is);(case z6=>k_is);(case z7=>k_is);(case z8=>k_is);(case z9=>k_is);(case z10=>k_is)
  have Z:∃ cNoSlope cFloorError cNoFloor cNoName cNoRow cNoTable cNoText cTooMany,My.XF (L2.KOf KX) mg cNoSlope cFloorError cNoFloor cNoName cNoRow cNoTable cNoText cTooMany:=by
   dsimp only [L2.KOf];refine' ⟨_,_,_,_,_,_,_,_,My.xf_mk KX G ?n_NoSlope ?n_FloorError ?n_NoFloor ?n_NoName ?n_NoRow ?n_NoTable ?n_NoText ?n_TooMany ?x_FloorError ?x_NoSlope ?s_FloorError ?k0 ?k1 ?k2 ⟨?e0,?e1,?e2,?e3,?e4,?e5,?e6,?e7⟩⟩
   (case n_NoSlope=>k_is);(case n_FloorError=>k_is);(case n_NoFloor=>k_is);(case n_NoName=>k_is);(case n_NoRow=>k_is);(case n_NoTable=>k_is);(case n_NoText=>k_is);(case n_TooMany=>k_is)
   (case x_FloorError=>first | rfl | k_is | kernel_rfl);(case x_NoSlope=>first | rfl | k_is | kernel_rfl);(case s_FloorError=>first | rfl | k_is | kernel_rfl);(case k0=>first | rfl | k_is | kernel_rfl);(case k1=>first | rfl | k_is | kernel_rfl);(case k2=>first | rfl | k_is | kernel_rfl);(case e0=>first | rfl | k_is | kernel_rfl);(case e1=>first | rfl | k_is | kernel_rfl);(case e2=>first | rfl | k_is | kernel_rfl);(case e3=>first | rfl | k_is | kernel_rfl);(case e4=>first | rfl | k_is | kernel_rfl);(case e5=>first | rfl | k_is | kernel_rfl);(case e6=>first | rfl | k_is | kernel_rfl);(case e7=>first | rfl | k_is | kernel_rfl)
  obtain ⟨_,_,_,_,_,_,_,_,Z⟩:=Z
  have C_QUARTER:∃ v,L4.Con (L2.KOf KX) mg "QUARTER" v (.tup [(.int 0),(.int (-1)),(.int 1),(.int 0)]):=by
   dsimp only [L2.KOf];refine' L4.ya6 (vs:=[V.int 0,V.int (-1),V.int 1,V.int 0]) KX G ?a ?l ?o ?z ?v ?d
   (case a=>k_is);(case l=>k_is);(case o=>rfl);(case z=>decide);(case v=>exact (.cons ⟨_,rfl⟩ (.cons ⟨_,rfl⟩ (.cons ⟨_,rfl⟩ (.cons ⟨_,rfl⟩ .nil)))));(case d=>exact fun ρ H=>(.cons (.int _) (.cons (.int _) (.cons (.int _) (.cons (.int _) .nil)))))
  obtain ⟨_,C_QUARTER⟩:=C_QUARTER
  have C_UNMOVED:∃ v,L4.Con (L2.KOf KX) mg "UNMOVED" v (.tup [(.int 1),(.int 0),(.int 0),(.int 1)]):=by
   dsimp only [L2.KOf];refine' L4.ya6 (vs:=[V.int 1,V.int 0,V.int 0,V.int 1]) KX G ?a ?l ?o ?z ?v ?d
   (case a=>k_is);(case l=>k_is);(case o=>rfl);(case z=>decide);(case v=>exact (.cons ⟨_,rfl⟩ (.cons ⟨_,rfl⟩ (.cons ⟨_,rfl⟩ (.cons ⟨_,rfl⟩ .nil)))));(case d=>exact fun ρ H=>(.cons (.int _) (.cons (.int _) (.cons (.int _) (.cons (.int _) .nil)))))
  obtain ⟨_,C_UNMOVED⟩:=C_UNMOVED
  have D__law_take:∃ f fd,Def (L2.KOf KX) mg "_law_take" My.xaq ["_law_feed_here","_law_many"] f fd:=by
   dsimp only [L2.KOf];refine' Yao KX G (fun _ _ _ _ _ _ us hl=>match us,hl with | [_,_],_=>rfl) ?a ?l ?c ?k
   (case a=>k_is);(case l=>k_is);(case c=>k_is);(case k=>k_is)
  obtain ⟨_,_,D__law_take⟩:=D__law_take
  have D__law_common:∃ f fd,Def (L2.KOf KX) mg "_law_common" My.Yai ["_law_a","_law_c"] f fd:=by
   dsimp only [L2.KOf];refine' Yao KX G (fun _ _ _ _ _ _ us hl=>match us,hl with | [_,_],_=>rfl) ?a ?l ?c ?k
   (case a=>k_is);(case l=>k_is);(case c=>k_is);(case k=>k_is)
  obtain ⟨_,_,D__law_common⟩:=D__law_common
  have D__law_pair:∃ f fd,Def (L2.KOf KX) mg "_law_pair" My.zar ["_law_feed_here"] f fd:=by
   dsimp only [L2.KOf];refine' Yao KX G (fun _ _ _ _ _ _ us hl=>match us,hl with | [_],_=>rfl) ?a ?l ?c ?k
   (case a=>k_is);(case l=>k_is);(case c=>k_is);(case k=>k_is)
  obtain ⟨_,_,D__law_pair⟩:=D__law_pair
  have D__law_feed:∃ f fd,Def (L2.KOf KX) mg "_law_feed" My.Zar ["_law_script","_law_k"] f fd:=by
   dsimp only [L2.KOf];refine' Yao KX G (fun _ _ _ _ _ _ us hl=>match us,hl with | [_,_],_=>rfl) ?a ?l ?c ?k
   (case a=>k_is);(case l=>k_is);(case c=>k_is);(case k=>k_is)
  obtain ⟨_,_,D__law_feed⟩:=D__law_feed
  have D_slope_steps:∃ f fd,Def (L2.KOf KX) mg "slope_steps" My.Yal ["slope"] f fd:=by
   dsimp only [L2.KOf];refine' Yao KX G (fun _ _ _ _ _ _ us hl=>match us,hl with | [_],_=>rfl) ?a ?l ?c ?k
   (case a=>k_is);(case l=>k_is);(case c=>k_is);(case k=>k_is)
  obtain ⟨_,_,D_slope_steps⟩:=D_slope_steps
  have D_led_pair:∃ f fd,Def (L2.KOf KX) mg "led_pair" My.Yap ["table","pair"] f fd:=by
   dsimp only [L2.KOf];refine' Yao KX G (fun _ _ _ _ _ _ us hl=>match us,hl with | [_,_],_=>rfl) ?a ?l ?c ?k
   (case a=>k_is);(case l=>k_is);(case c=>k_is);(case k=>k_is)
  obtain ⟨_,_,D_led_pair⟩:=D_led_pair
  have D_shears:∃ f fd,Def (L2.KOf KX) mg "shears" My.Xax ["k"] f fd:=by
   dsimp only [L2.KOf];refine' Yao KX G (fun _ _ _ _ _ _ us hl=>match us,hl with | [_],_=>rfl) ?a ?l ?c ?k
   (case a=>k_is);(case l=>k_is);(case c=>k_is);(case k=>k_is)
  obtain ⟨_,_,D_shears⟩:=D_shears
  have D_times:∃ f fd,Def (L2.KOf KX) mg "times" My.Yay ["one","other"] f fd:=by
   dsimp only [L2.KOf];refine' Yao KX G (fun _ _ _ _ _ _ us hl=>match us,hl with | [_,_],_=>rfl) ?a ?l ?c ?k
   (case a=>k_is);(case l=>k_is);(case c=>k_is);(case k=>k_is)
  obtain ⟨_,_,D_times⟩:=D_times
  have D_step_table:∃ f fd,Def (L2.KOf KX) mg "step_table" My.Zan ["step"] f fd:=by
   dsimp only [L2.KOf];refine' Yao KX G (fun _ _ _ _ _ _ us hl=>match us,hl with | [_],_=>rfl) ?a ?l ?c ?k
   (case a=>k_is);(case l=>k_is);(case c=>k_is);(case k=>k_is)
  obtain ⟨_,_,D_step_table⟩:=D_step_table
  have D_table_of:∃ f fd,Def (L2.KOf KX) mg "table_of" My.xap ["word"] f fd:=by
   dsimp only [L2.KOf];refine' Yao KX G (fun _ _ _ _ _ _ us hl=>match us,hl with | [_],_=>rfl) ?a ?l ?c ?k
   (case a=>k_is);(case l=>k_is);(case c=>k_is);(case k=>k_is)
  obtain ⟨_,_,D_table_of⟩:=D_table_of
  have D_nearest:∃ f fd,Def (L2.KOf KX) mg "nearest" My.Zav ["number","divisor"] f fd:=by
   dsimp only [L2.KOf];refine' Yao KX G (fun _ _ _ _ _ _ us hl=>match us,hl with | [_,_],_=>rfl) ?a ?l ?c ?k
   (case a=>k_is);(case l=>k_is);(case c=>k_is);(case k=>k_is)
  obtain ⟨_,_,D_nearest⟩:=D_nearest
  have D_level_steps:∃ f fd,Def (L2.KOf KX) mg "level_steps" My.Xal ["pair"] f fd:=by
   dsimp only [L2.KOf];refine' Yao KX G (fun _ _ _ _ _ _ us hl=>match us,hl with | [_],_=>rfl) ?a ?l ?c ?k
   (case a=>k_is);(case l=>k_is);(case c=>k_is);(case k=>k_is)
  obtain ⟨_,_,D_level_steps⟩:=D_level_steps
  have D_slope_table:∃ f fd,Def (L2.KOf KX) mg "slope_table" My.yam ["slope"] f fd:=by
   dsimp only [L2.KOf];refine' Yao KX G (fun _ _ _ _ _ _ us hl=>match us,hl with | [_],_=>rfl) ?a ?l ?c ?k
   (case a=>k_is);(case l=>k_is);(case c=>k_is);(case k=>k_is)
  obtain ⟨_,_,D_slope_table⟩:=D_slope_table
  have D__law_told:∃ f fd,Def (L2.KOf KX) mg "_law_told" My.Yar ["_law_pair_here","_law_table"] f fd:=by
   dsimp only [L2.KOf];refine' Yao KX G (fun _ _ _ _ _ _ us hl=>match us,hl with | [_,_],_=>rfl) ?a ?l ?c ?k
   (case a=>k_is);(case l=>k_is);(case c=>k_is);(case k=>k_is)
  obtain ⟨_,_,D__law_told⟩:=D__law_told
  have D__law_right:∃ f fd,Def (L2.KOf KX) mg "_law_right" My.Xan ["_law_pair_here"] f fd:=by
   dsimp only [L2.KOf];refine' Yao KX G (fun _ _ _ _ _ _ us hl=>match us,hl with | [_],_=>rfl) ?a ?l ?c ?k
   (case a=>k_is);(case l=>k_is);(case c=>k_is);(case k=>k_is)
  obtain ⟨_,_,D__law_right⟩:=D__law_right
  have D_law:∃ f fd,Def (L2.KOf KX) mg "law" My.ybe ["_law_script"] f fd:=by
   dsimp only [L2.KOf];refine' Yao KX G (fun _ _ _ _ _ _ us hl=>match us,hl with | [_],_=>rfl) ?a ?l ?c ?k
   (case a=>k_is);(case l=>k_is);(case c=>k_is);(case k=>k_is)
  obtain ⟨_,_,D_law⟩:=D_law
  have e0:=hmg.symm.trans D_law.m
  cases e0
  exact ⟨_,D_law.bindsTo,fun base _ _=>L4.law_of (My.all_ok T Z C_QUARTER C_UNMOVED D__law_take D__law_common D__law_pair D__law_feed D_slope_steps D_led_pair D_shears D_times D_step_table D_table_of D_nearest D_level_steps D_slope_table D__law_told D__law_right D_law) fun ns hn=>let ⟨_,st,e,h⟩:=My.law_true ns hn;⟨st,h ▸ e⟩⟩
 case S=>exact fun K H a ns hl hO hS=>⟨a,ns,rfl,hS.script hO,hl,fun _=>rfl⟩
 case C=>exact fun _ _ _ _ z=>z
