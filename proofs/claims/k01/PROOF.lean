import PyProof.Rows.All
import Wide.All
import OpenK.AllK
import Wide.FinOn
import Lean
import PyProof.EqAt
import PyProof.EqKinds
import PyProof.TupleCall
import PyProof.DictIter
import PyProof.EnumMake
import KE.KSortTup
import KE.KDictLaws
import KE.KDictSum
import PyProof.StrLawsTight
import KE.KIntText
import PyProof.MinMaxWalk
import PyProof.WalkInts
import KE.KIsAll
import PyProof.ExcInit
import PyProof.NsDelKeeps
import PyProof.ExcBaseAll.ValueError
import OpenK.KOwn
import PyProof.ExcAttrAll.ValueError
import PyProof.InstStoreFacts
import PySem.Challenge.RW_shearfloor_k01_refusals
set_option Elab.async false
set_option linter.all false
set_option maxRecDepth 100000
set_option maxHeartbeats 4000000
set_option genSizeOf false
noncomputable section
namespace L2
open PySem PySem.Spec PyProof.Rows
abbrev Key:=Sum Int Str
noncomputable def keyIs:Key→Value→Bool
 | .inl k,v=>Value.isInt k v
 | .inr x,v=>Value.isStrOf x v
noncomputable def keyH (w:World):Key→Int
 | .inl k=>hashInt k
 | .inr x=>hashStr w x
theorem Zae:∀ {k:Key} {v:Value},keyIs k v=true→(∃ i t,k=Sum.inl i∧v=Value.int i t)∨(∃ x t,k=Sum.inr x∧v=Value.str x t)
 | .inl i,v,h=>by
  obtain ⟨t,e⟩:=Value.isInt_shape (k:=i) (v:=v) h
  exact .inl ⟨i,t,rfl,e⟩
 | .inr x,v,h=>by
  obtain ⟨t,e⟩:=Value.isStrOf_shape (x:=x) (v:=v) h
  exact .inr ⟨x,t,rfl,e⟩
theorem ZaN (i:Int) (t:Tok):keyIs (.inl i) (.int i t)=true:=by simp [keyIs,Value.isInt]
theorem YaN (x:Str) (t:Tok):keyIs (.inr x) (.str x t)=true:=by simp [keyIs,Value.isStrOf]
theorem key_ll (a b:Int):decide ((Sum.inl a:Key)=Sum.inl b)=(a == b):=by
 by_cases e:a=b
 ·subst e;simp
 ·have h:¬ (Sum.inl a:Key)=Sum.inl b:=fun q=>e (Sum.inl.inj q)
  rw [decide_eq_false h]
  exact (beq_eq_false_iff_ne.mpr e).symm
theorem key_rr (a b:Str):decide ((Sum.inr a:Key)=Sum.inr b)=decide (a=b):=by
 by_cases e:a=b
 ·subst e;simp
 ·have h:¬ (Sum.inr a:Key)=Sum.inr b:=fun q=>e (Sum.inr.inj q)
  rw [decide_eq_false h,decide_eq_false e]
theorem key_lr (a:Int) (b:Str):decide ((Sum.inl a:Key)=Sum.inr b)=false:=decide_eq_false (fun q=>nomatch q)
theorem key_rl (a:Str) (b:Int):decide ((Sum.inr a:Key)=Sum.inl b)=false:=decide_eq_false (fun q=>nomatch q)
noncomputable def mixKind (prog:Program) (w:World):PySem.KeyKind prog w Key where
 is:=keyIs
 hash:=keyH w
 inj:=fun v a b ha hb=>by
  rcases Zae ha with ⟨i,t,rfl,rfl⟩ | ⟨x,t,rfl,rfl⟩
  ·rcases Zae hb with ⟨j,u,rfl,e⟩ | ⟨y,u,rfl,e⟩
   ·injection e with e1 _;rw [e1]
   ·exact nomatch e
  ·rcases Zae hb with ⟨j,u,rfl,e⟩ | ⟨y,u,rfl,e⟩
   ·exact nomatch e
   ·injection e with e1 _;rw [e1]
 byValue:=fun k v h=>by
  rcases Zae h with ⟨i,t,rfl,rfl⟩ | ⟨x,t,rfl,rfl⟩ <;> rfl
 pyHash:=fun hv h=>by
  rcases Zae hv with ⟨i,t,rfl,rfl⟩ | ⟨x,t,rfl,rfl⟩
  ·exact wpAny_pyHash_int h
  ·exact wpAny_pyHash_str h
 eqBool:=fun hu hv h=>by
  rcases Zae hu with ⟨i,t,rfl,rfl⟩ | ⟨x,t,rfl,rfl⟩
  ·rcases Zae hv with ⟨j,u,rfl,rfl⟩ | ⟨y,u,rfl,rfl⟩
   ·rw [key_ll] at h;exact wpAny_eqBool_int h
   ·rw [key_lr] at h;exact SeqAt.EqAt.int_str i t y u _ _ _ _ h
  ·rcases Zae hv with ⟨j,u,rfl,rfl⟩ | ⟨y,u,rfl,rfl⟩
   ·rw [key_rl] at h;exact SeqAt.EqAt.str_int x t j u _ _ _ _ h
   ·rw [key_rr] at h;exact wpAny_eqBool_str h
 «strs»:=fun k x t v h=>by
  rcases Zae h with ⟨i,u,rfl,e⟩ | ⟨y,u,rfl,e⟩
  ·exact nomatch e
  ·injection e with e1 _
   subst e1
   cases v <;> rfl
theorem zaG (prog:Program) (w:World) (i:Int) (t:Tok):(mixKind prog w).is (.inl i) (.int i t)=true:=ZaN i t
theorem yaG (prog:Program) (w:World) (x:Str) (t:Tok):(mixKind prog w).is (.inr x) (.str x t)=true:=YaN x t
end L2
namespace L2
open PySem PySem.Spec PyProof.Rows
inductive V where
 | non | bl (b:Bool) | int (i:Int) | str (x:Str) | byt (b:Array UInt8) | flt (b:UInt64) | ref (a:Addr) | ty (n:String)
 deriving DecidableEq
noncomputable def RelV:V→Value→Prop
 | .non,u=>u=Value.none
 | .bl b,u=>u=Value.bool b
 | .int i,u=>∃ t,u=Value.int i t
 | .str x,u=>∃ t,u=Value.str x t
 | .byt b,u=>∃ t,u=Value.bytes b t
 | .flt b,u=>∃ t,u=Value.float b t
 | .ref a,u=>u=Value.ref a
 | .ty n,u=>u=Value.type n
abbrev Vals:List V→List Value→Prop:=Paired RelV
theorem Vals.length {xs:List V} {us:List Value} (r:Vals xs us):xs.length=us.length:=Paired.length r
theorem Vals.get:∀ {xs:List V} {us:List Value} {i:Nat} {x:V},Vals xs us→xs[i]?=some x→∃ u,us[i]?=some u∧RelV x u
 | _,_,_,_,.nil,e=>by simp at e
 | _,_,0,_,.cons r _,e=>by simp at e;subst e;exact ⟨_,rfl,r⟩
 | _,_,i + 1,x,.cons _ t,e=>by
  obtain ⟨u,h1,h2⟩:=Vals.get (i:=i) (x:=x) t (by simpa using e)
  exact ⟨u,by simpa using h1,h2⟩
theorem Vals.set {x:V} {u:Value} (r:RelV x u):∀ {xs:List V} {us:List Value} (i:Nat),Vals xs us→Vals (xs.set i x) (us.set i u)
 | _,_,_,.nil=>.nil
 | _,_,0,.cons _ t=>.cons r t
 | _,_,i + 1,.cons q t=>.cons q (Vals.set r i t)
theorem Vals.append:∀ {xs ys:List V} {us ws:List Value},Vals xs us→Vals ys ws→Vals (xs ++ ys) (us ++ ws)
 | _,_,_,_,.nil,s=>s
 | _,_,_,_,.cons r t,s=>.cons r (Vals.append t s)
noncomputable def RelO:Option V→Option Value→Prop
 | some v,some u=>RelV v u
 | none,none=>True
 | _,_=>False
noncomputable def KV {κ:Type}:List (κ×V)→List (κ×Value)→Prop:=Paired fun (p:κ×V) (q:κ×Value)=>p.1=q.1∧RelV p.2 q.2
noncomputable def kV:Key→V
 | .inl i=>.int i
 | .inr x=>.str x
set_option genInjectivity false in
inductive HO where
 /-- a list -/
 | lst (xs:List V)
 /-- a tuple (never changes) -/
 | tup (xs:List V)
 /-- a dict whose keys are ints and texts;one whose keys are tuples of ints and texts (the empty one is both) -/
 | dK (kvs:List (Key×V)) | dT (kvs:List (List Key×V))
 /-- a set of ints: its members,its size -/
 | set (S:Int→Bool) (n:Nat)
 /-- an instance of the class at C,its dict at dx,its attributes -/
 | ins (C dx:Addr) (fs:List (Str×V))
 /-- the dict of the instance at x -/
 | own (x:Addr)
 /-- the dict of an exception -/
 | xd (fs:List (Str×V))
 /-- a bound method,f of x -/
 | met (f x:Addr)
 /-- a range object lo,lo + 1,.. below hi -/
 | rng (lo hi:Int)
 /-- a thing that is known to the object (the script;a dict while a loop walks it): read,never written while it is so -/
 | frz (o:Obj) (u:HO)
 /-- a code object's table -/
 | tbl (ps:Array Value)
 /-- any other thing,by what is true of its one object (a def of one's own: SetO a S n:=HO.ext fun h=>..) -/
 | ext (φ:Heap→Prop)
abbrev Hp:=Addr→Option HO
noncomputable def upd (H:Hp) (a:Addr) (o:HO):Hp:=fun b=>if b=a then some o else H b
theorem Xad {H:Hp} {a:Addr} {o:HO}:upd H a o a=some o:=by unfold upd;rw [if_pos rfl]
theorem zac {H:Hp} {a b:Addr} {o:HO} (h:b≠a):upd H a o b=H b:=by unfold upd;rw [if_neg h]
theorem ZaG {H:Hp} {a:Addr} {o u:HO}:upd (upd H a o) a u=upd H a u:=by
 funext b;unfold upd;split <;> rfl
theorem ne_of {H:Hp} {a b:Addr} {o u:HO} (h:H a=some o) (h':H b=some u) (d:o≠u):a≠b:=by
 intro e;subst e;rw [h] at h';exact d (Option.some.inj h')
theorem Zah {H:Hp} {a b:Addr} {o:HO} (h:H a=some o) (h':H b=none):a≠b:=by
 intro e;subst e;rw [h] at h';cases h'
noncomputable def PTup (h:Heap) (a:Addr) (its:Array Value):Prop:=∃ o,h.get? a=some o∧o.cls=.type "tuple" ∧ o.dict=none∧∃ n,o.data=.seq its n
theorem PTup.tup {h:Heap} {a:Addr} {its:Array Value} (x:PTup h a its):IsTup h a its:=let ⟨o,e,c,_,n,d⟩:=x;⟨o,e,c,n,d⟩
section
variable (P:Program) (w:World)
noncomputable def ObjOk (H:Hp) (h:Heap) (a:Addr):HO→Prop
 | .lst xs=>xs.length≤sizeLine∧∃ (its:List Value) (n:Nat),Vals xs its∧h.get? a=some { cls:=.type "list",data:=.seq its.toArray n }
 | .tup xs=>xs.length≤sizeLine∧∃ its:List Value,Vals xs its∧PTup h a its.toArray
 | .dK kvs=>kvs.length≤sizeLine∧(a == sysModules)=false∧∃ vs,KV kvs vs∧h.DictOf (mixKind P w) a vs
 | .dT kvs=>kvs.length≤sizeLine∧(a == sysModules)=false∧∃ xs:List (List Key×Addr×Value),
   Paired (fun (p:List Key×V) (q:List Key×Addr×Value)=>p.1=q.1∧H q.2.1=some (.tup (p.1.map kV))∧RelV p.2 q.2.2) kvs xs ∧
   ∃ o es ep,h.get? a=some o∧o.ExactDict∧o.data=.dict es ep∧es.toList=xs.map (entryOfKey (tupleKind (mixKind P w)))∧(xs.map (·.1)).Nodup
 | .set S n=>h.SetOf (intKind P w) a S n
 | .ins C dx fs=>H dx=some (.own a)∧fs.length≤1000∧dx≠a∧h.get? a=some (PySem.W.instObj C dx) ∧
   ∃ mA,h.Ns1 dx mA∧(∀ f,RelO (fs.lookup f) (mA f))∧PySem.Within mA (fs.map (·.1))
 | .own _=>∃ o,h.get? a=some o
 | .xd fs=>∃ mA,h.Ns1 a mA∧∀ f,RelO (fs.lookup f) (mA f)
 | .rng lo hi=>∃ t u v,h.get? a=some { cls:=.type "range",data:=.fields #[.int lo t,.int hi u,.int 1 v] }
 | .frz o u=>h.get? a=some o∧ObjOk H h a u
 | .tbl ps=>h.get? a=some { cls:=.none,data:=.fields ps }
 | .met f x=>h.get? a=some (PySem.W.methodObj (.ref f) (.ref x))
 | .ext φ=>φ h∧(∃ o,h.get? a=some o)∧∀ h1 h2:Heap,φ h1→(∀ o,h1.get? a=some o→h2.get? a=some o)→φ h2
noncomputable def HOk (H:Hp) (h:Heap):Prop:=∀ a o,H a=some o→ObjOk P w H h a o
end
section
variable {P:Program} {w:World} {H H':Hp} {h h':Heap} {a:Addr} {o:HO}
theorem ObjOk.lt (x:ObjOk P w H h a o):a < h.objs.size:=by
 cases o with
 | lst xs=>obtain ⟨_,_,_,_,e⟩:=x;exact Heap.lt_size e
 | tup xs=>obtain ⟨_,_,_,_,e,_⟩:=x;exact Heap.lt_size e
 | dK kvs=>obtain ⟨_,_,_,_,o,_,_,e,_⟩:=x;exact Heap.lt_size e
 | dT kvs=>obtain ⟨_,_,_,_,o,_,_,e,_⟩:=x;exact Heap.lt_size e
 | set S n=>obtain ⟨o,_,_,_,e,_⟩:=x;exact Heap.lt_size e
 | ins C dx fs=>obtain ⟨_,_,_,e,_⟩:=x;exact Heap.lt_size e
 | own y=>obtain ⟨_,e⟩:=x;exact Heap.lt_size e
 | xd fs=>obtain ⟨_,⟨_,_,_,e,_⟩,_⟩:=x;exact Heap.lt_size e
 | rng lo hi=>obtain ⟨_,_,_,e⟩:=x;exact Heap.lt_size e
 | frz ob u=>obtain ⟨e,_⟩:=x;exact Heap.lt_size e
 | tbl ps=>exact Heap.lt_size (show h.get? a=some _ from x)
 | met f y=>exact Heap.lt_size (show h.get? a=some _ from x)
 | ext φ=>obtain ⟨_,⟨_,e⟩,_⟩:=x;exact Heap.lt_size e
theorem Paired.mapP {α β:Type} {F G:α→β→Prop}:∀ {l₁:List α} {l₂:List β},Paired F l₁ l₂→(∀ a b,F a b→G a b)→Paired G l₁ l₂
 | _,_,.nil,_=>.nil
 | _,_,.cons r t,f=>.cons (f _ _ r) (Paired.mapP t f)
theorem ObjOk.stay (x:ObjOk P w H h a o) (k:∀ b u,(b=a∨H b=some (.own a))→h.get? b=some u→h'.get? b=some u)
  (ho:∀ b,H b=some (.own a)→H' b=some (.own a)) (ht:∀ b xs,H b=some (.tup xs)→H' b=some (.tup xs)):ObjOk P w H' h' a o:=by
 induction o with
 | lst xs=>obtain ⟨z,its,n,r,e⟩:=x;exact ⟨z,its,n,r,k _ _ (.inl rfl) e⟩
 | tup xs=>obtain ⟨z,its,r,ob,e,c⟩:=x;exact ⟨z,its,r,ob,k _ _ (.inl rfl) e,c⟩
 | dK kvs=>obtain ⟨z,y,vs,r,ob,es,ep,e,c⟩:=x;exact ⟨z,y,vs,r,ob,es,ep,k _ _ (.inl rfl) e,c⟩
 | dT kvs =>
  obtain ⟨z,y,xs,r,ob,es,ep,e,c⟩:=x
  exact ⟨z,y,xs,Paired.mapP r fun p q z=>⟨z.1,ht _ _ z.2.1,z.2.2⟩,ob,es,ep,k _ _ (.inl rfl) e,c⟩
 | set S n=>obtain ⟨ob,es,ep,t,e,c⟩:=x;exact ⟨ob,es,ep,t,k _ _ (.inl rfl) e,c⟩
 | ins C dx fs =>
  obtain ⟨d,z,ne,e,mA,⟨od,es,ep,e2,c⟩,r⟩:=x
  exact ⟨ho _ d,z,ne,k _ _ (.inl rfl) e,mA,⟨od,es,ep,k _ _ (.inr d) e2,c⟩,r⟩
 | own y=>obtain ⟨ob,e⟩:=x;exact ⟨ob,k _ _ (.inl rfl) e⟩
 | xd fs=>obtain ⟨mA,⟨od,es,ep,e,c⟩,r⟩:=x;exact ⟨mA,⟨od,es,ep,k _ _ (.inl rfl) e,c⟩,r⟩
 | rng lo hi=>obtain ⟨t,u,v,e⟩:=x;exact ⟨t,u,v,k _ _ (.inl rfl) e⟩
 | frz ob u ih=>obtain ⟨e,q⟩:=x;exact ⟨k _ _ (.inl rfl) e,ih q⟩
 | tbl ps =>
  have e:h.get? a=some { cls:=.none,data:=.fields ps }:=x
  show h'.get? a=some { cls:=.none,data:=.fields ps }
  exact k a _ (.inl rfl) e
 | met f y =>
  have e:h.get? a=some (PySem.W.methodObj (.ref f) (.ref y)):=x
  show h'.get? a=some (PySem.W.methodObj (.ref f) (.ref y))
  exact k a _ (.inl rfl) e
 | ext φ=>obtain ⟨p,⟨o,e⟩,st⟩:=x;exact ⟨st _ _ p fun o q=>k _ _ (.inl rfl) q,⟨o,k _ _ (.inl rfl) e⟩,st⟩
theorem HOk.lt (x:HOk P w H h) (e:H a=some o):a < h.objs.size:=(x a o e).lt
theorem HOk.fresh (x:HOk P w H h) (e:h.objs.size≤a):H a=none:=by
 cases q:H a with
 | none=>rfl
 | some u=>exact absurd (Nat.lt_of_lt_of_le (x.lt q) e) (Nat.lt_irrefl _)
theorem HOk.kept (x:HOk P w H h) (k:∀ b u,h.get? b=some u→h'.get? b=some u):HOk P w H h':=fun a o e =>
 (x a o e).stay (fun b u _ q=>k b u q) (fun _ q=>q) fun _ _ q=>q
theorem HOk.laid (x:HOk P w H h) (k:∀ b u,h.get? b=some u→h'.get? b=some u) (hp:h.objs.size≤a) (new:ObjOk P w (upd H a o) h' a o):HOk P w (upd H a o) h':=fun b u e=>by
 have hn:=x.fresh hp
 by_cases hb:b=a
 ·subst hb;rw [Xad] at e;cases e;exact new
 ·rw [zac hb] at e
  exact (x b u e).stay (fun c v _ q=>k c v q) (fun c q=>by rw [zac (Zah q hn)];exact q) fun c xs q=>by rw [zac (Zah q hn)];exact q
end
noncomputable def Rd (H:Hp) (a:Addr) (u:HO):Prop:=H a=some u∨∃ o,H a=some (.frz o u)
theorem Rd.ok {P:Program} {w:World} {H:Hp} {h:Heap} {a:Addr} {u:HO} (r:Rd H a u) (x:HOk P w H h):ObjOk P w H h a u:=by
 rcases r with r | ⟨o,r⟩
 ·exact x a u r
 ·obtain ⟨_,q⟩:=x a _ r
  exact q
noncomputable def Mut:Option HO→Prop
 | some (.lst _)=>True
 | some (.dK _)=>True
 | some (.dT _)=>True
 | some (.set _ _)=>True
 | some (.ins _ _ _)=>True
 | some (.ext _)=>True
 | _=>False
section
variable {P:Program} {w:World} {H:Hp} {h h':Heap} {x e:Addr} {o':HO}
theorem HOk.write (ok:HOk P w H h) (mu:Mut (H x)) (he:e=x∨H e=some (.own x)) (k:∀ b u,b≠e→h.get? b=some u→h'.get? b=some u) (heo:∃ u,h'.get? e=some u)
  (new:ObjOk P w (upd H x o') h' x o'):HOk P w (upd H x o') h':=fun b u q=>by
 have nown:∀ c y,H c=some (.own y)→c≠x:=fun c y r z=>by subst z;rw [r] at mu;exact mu
 have ntup:∀ c xs,H c=some (.tup xs)→c≠x:=fun c xs r z=>by subst z;rw [r] at mu;exact mu
 by_cases hb:b=x
 ·subst hb;rw [Xad] at q;cases q;exact new
 ·rw [zac hb] at q
  by_cases hbe:b=e
  ·have q':H b=some (.own x):=by
    rcases he with z | z
    ·exact absurd (hbe.trans z) hb
    ·rw [hbe];exact z
   rw [q] at q';cases q'
   obtain ⟨v,hv⟩:=heo
   exact ⟨v,by rw [hbe];exact hv⟩
  ·refine (ok b u q).stay (fun c v hc r=>k c v ?_ r) (fun c r=>by rw [zac (nown c b r)];exact r) fun c xs r=>by rw [zac (ntup c xs r)];exact r
   rcases hc with rfl | hc
   ·exact hbe
   ·rintro rfl
    rcases he with z | z
    ·exact nown c b hc z
    ·rw [hc] at z;cases z;exact hb rfl
end
structure Un (fs ex:List Addr) (H H':Hp) (h h':Heap):Prop where
 keep:∀ b o,h.get? b=some o→H b=none→b ∉ fs→b ∉ ex→h'.get? b=some o
 slot:∀ b o,h.get? b=some o→H b=none→b∈fs→b ∉ ex→∃ sl,h'.get? b=some { o with slots:=sl }
 free:∀ b o,h.get? b=some o→H b=none→b ∉ ex→H' b=none
 there:∀ b o,h.get? b=some o→b ∉ ex→∃ o',h'.get? b=some o'
 tups:∀ b xs,H b=some (.tup xs)→H' b=some (.tup xs)
 frzs:∀ b o u,H b=some (.frz o u)→H' b=some (.frz o u)
 tbls:∀ b ps,H b=some (.tbl ps)→∃ more,H' b=some (.tbl (ps ++ more))
section
variable {fs fs' ex ex':List Addr} {H H1 H2:Hp} {h h1 h2 h':Heap} {a x e:Addr} {o:HO}
theorem Un.any (u:Un fs ex H H1 h h1) {b:Addr} {ob:Obj} (q:h.get? b=some ob) (n:H b=none) (hx:b ∉ ex):∃ sl,h1.get? b=some { ob with slots:=sl }:=by
 by_cases hb:b∈fs
 ·exact u.slot b ob q n hb hx
 ·exact ⟨ob.slots,u.keep b ob q n hb hx⟩
theorem Un.kept (k:∀ b u,h.get? b=some u→h'.get? b=some u):Un fs ex H H h h' :=
 ⟨fun b ob q _ _ _=>k b ob q,fun b ob q _ _ _=>⟨ob.slots,k b ob q⟩,fun _ _ _ n _=>n,fun b ob q _=>⟨ob,k b ob q⟩,fun _ _ q=>q,fun _ _ _ q=>q,fun _ ps q=>⟨#[],by rw [q];simp⟩⟩
theorem Un.refl:Un fs ex H H h h:=Un.kept fun _ _ q=>q
theorem Un.laid (k:∀ b u,h.get? b=some u→h'.get? b=some u) (hp:h.objs.size≤a) (hn:H a=none):Un fs ex H (upd H a o) h h' where
 keep:=fun b u q _ _ _=>k b u q
 slot:=fun b u q _ _ _=>⟨u.slots,k b u q⟩
 free:=fun b u q n _=>by rw [zac (Nat.ne_of_lt (Nat.lt_of_lt_of_le (Heap.lt_size q) hp))];exact n
 there:=fun b u q _=>⟨u,k b u q⟩
 tups:=fun b xs q=>by rw [zac (Zah q hn)];exact q
 frzs:=fun b u xs q=>by rw [zac (Zah q hn)];exact q
 tbls:=fun b ps q=>⟨#[],by rw [zac (Zah q hn),q];simp⟩
theorem Un.write (mu:Mut (H x)) (he:e=x∨H e=some (.own x)) (k:∀ b u,b≠e→h.get? b=some u→h'.get? b=some u) (heo:∃ u,h'.get? e=some u):Un fs ex H (upd H x o) h h':=by
 have hx:∀ b,H b=none→b≠x:=fun b n z=>by subst z;rw [n] at mu;exact mu
 have hb:∀ b,H b=none→b≠e:=fun b n z=>by
  subst z
  rcases he with r | r
  ·exact hx b n r
  ·rw [n] at r;cases r
 have hm:∀ b u,H b=some u→¬ Mut (some u)→b≠x:=fun b u q nm z=>by subst z;rw [q] at mu;exact nm mu
 refine ⟨fun b u q n _ _=>k b u (hb b n) q,fun b u q n _ _=>⟨u.slots,k b u (hb b n) q⟩,fun b u q n _=>by rw [zac (hx b n)];exact n,fun b u q _=>?_,
  fun b xs q=>by rw [zac (hm b _ q fun z=>z)];exact q,fun b u xs q=>by rw [zac (hm b _ q fun z=>z)];exact q,fun b ps q=>⟨#[],by rw [zac (hm b _ q fun z=>z),q];simp⟩⟩
 by_cases hbe:b=e
 ·subst hbe;exact heo
 ·exact ⟨u,k b u hbe q⟩
end
noncomputable def trk (h:Heap) (H:Hp):List Addr:=(List.range h.objs.size).filter fun a=>(H a).isSome
noncomputable def hidT (h:Heap) (H:Hp):Heap:=PySem.W.hideAll h (trk h H)
theorem xaN (h:Heap) (H:Hp):(hidT h H).objs.size=h.objs.size:=PySem.W.hideAll_size _ _
theorem xaX {h:Heap} {H:Hp} {b:Addr} {o:Obj} (e:h.get? b=some o) (n:H b=none):(hidT h H).get? b=some o :=
 PySem.W.hideAll_get _ e fun hm=>by
  have q:(H b).isSome=true:=(List.mem_filter.mp hm).2
  rw [n] at q;simp at q
theorem xa7 {h:Heap} {H:Hp} {b:Addr} {o:Obj} (e:(hidT h H).get? b=some o):h.get? b=some o∧H b=none:=by
 have e':h.get? b=some o:=PySem.W.of_hideAll (trk h H) e
 refine ⟨e',?_⟩
 cases q:H b with
 | none=>rfl
 | some x =>
  have hm:b∈trk h H:=List.mem_filter.mpr ⟨List.mem_range.mpr (Heap.lt_size e'),by simp [q]⟩
  have z:(hidT h H).get? b=none:=PySem.W.hideAll_none (trk h H) hm
  rw [z] at e;cases e
noncomputable def allNews (g h:Heap) (L:Addr):List (Addr×Obj):=(List.range h.objs.size).filterMap fun a=>if a=L∨(g.get? a).isSome=true then none else (h.get? a).map fun o=>(a,o)
noncomputable def rest (g h:Heap) (L d:Addr):List (Addr×Obj):=(allNews g h L).filter fun p=>decide (p.1≠d)
end L2
namespace L2
open PySem PySem.Spec PyProof.Rows
structure Mod (K:PySem.W.Frag) (mg:Str→Option Value) (base:Heap):Prop where
 kin:K.In base
 glob:base.Ns mainGlobals mg
 blt:∃ mb,base.Ns builtinsNs mb∧∀ x:Str,x≠"__name__" → mb x=bootBuiltins x
 nolimit:base.NoLimit
set_option genInjectivity false in
structure Cx where
 prog:Program
 w:World
 K:PySem.W.Frag
 mg:Str→Option Value
 base:Heap
 A:Around
 N:List Str
 s₀:Shared
 H₀:Hp
 env:Env
 outer:List Env
 stack:List Env
 ex:List Addr
 fn:Str→Bool
 calm:Bool
 pn:List (Addr×Obj)
 xe:Value→Shared→Prop
noncomputable def frs (l:List Env):List Addr:=l.filterMap (·.frame)
abbrev Cx.fs (X:Cx):List Addr:=frs X.outer
noncomputable def Vis (sc:Scope) (x:Str):Prop:=sc.names.lookup x=some .local∨sc.names.lookup x=some .cell∨sc.names.lookup x=some .free
noncomputable def Loc (sc:Scope) (x:Str):Prop:=sc.names.lookup x=some .local∨sc.names.lookup x=some .cell
noncomputable def Look (env:Env) (h:Heap) (m:Str→Option Value) (x:Str) (u:Value):Prop :=
 (env.kindOf x=some .local∧m x=some u)∨((env.kindOf x=some .cell∨env.kindOf x=some .free)∧∃ c,env.cells.lookup x=some c∧h.IsCell c (some u))
structure Cx.Ok (X:Cx):Prop where
 mod:Mod X.K X.mg X.base
 kind:X.env.scope.kind=.function
 glob:X.env.globals=mainGlobals
 blt:X.env.builtins=builtinsNs
 above:X.s₀.heap.objs.size≤X.env.locals
 inj:∀ x y c,X.env.cells.lookup x=some c→X.env.cells.lookup y=some c→x=y
 has:∀ x,(X.env.kindOf x=some .cell∨X.env.kindOf x=some .free)→∃ c,X.env.cells.lookup x=some c
 cab:∀ x c,X.fn x=true→X.env.cells.lookup x=some c→X.s₀.heap.objs.size≤c
 hd:X.calm=true→X.A.handled=none
 frames:X.A.frames=some X.stack
 stk:X.stack=X.outer∨(X.stack=X.env :: X.outer∧X.env.frame=some X.env.locals)
 exf:∀ b∈X.ex,b≠X.env.locals∧∀ x c,X.env.cells.lookup x=some c→c≠b
 bs:∀ b o,X.base.get? b=some o→X.s₀.heap.get? b=some o∧X.H₀ b=none
 bsz:X.base.objs.size≤X.s₀.heap.objs.size
 noex:∀ b o,X.base.get? b=some o→b ∉ X.ex
 exfs:∀ b∈X.ex,b ∉ X.fs
 funs:X.s₀.heap.FunFrames X.base X.outer
 frf:∀ b∈X.fs,X.H₀ b=none
structure Inv (X:Cx) (pins:List (Addr×Obj)) (σ:List (Option V)) (H:Hp) (s:Shared):Prop where
 ok:X.Ok
 os:s.os=X.s₀.os
 bare:AllBare s.gens
 base:Un X.fs X.ex X.H₀ H X.s₀.heap s.heap
 loc:∃ m,s.heap.Ns X.env.locals m∧∀ (i:Nat) (x:Str) (v:V),X.N[i]?=some x→σ[i]?=some (some v)→Vis X.env.scope x→∃ u,RelV v u∧Look X.env s.heap m x u
 cell:∀ x c,X.env.cells.lookup x=some c→∃ v,s.heap.IsCell c v
 free:H X.env.locals=none
 freeC:∀ x c,X.env.cells.lookup x=some c→H c=none
 pin:∀ p∈X.pn ++ pins,s.heap.get? p.1=some p.2∧H p.1=none∧p.1≠X.env.locals∧p.1 ∉ X.fs∧∀ v,p.2.data≠.cell v
 hok:HOk X.prog X.w H s.heap
 len:σ.length=X.N.length
section
variable {X:Cx} {pins:List (Addr×Obj)} {σ:List (Option V)} {H H':Hp} {s:Shared} {h':Heap}
theorem Cx.Ok.nofr (ok:X.Ok) {b:Addr} {o:Obj} (e:X.base.get? b=some o):b ∉ X.fs:=fun hb=>by
 have:=(ok.funs.mem hb).1
 rw [e] at this;cases this
theorem Inv.bs (I:Inv X pins σ H s):∀ b o,X.base.get? b=some o→s.heap.get? b=some o∧H b=none:=fun b o e =>
 ⟨I.base.keep b o (I.ok.bs b o e).1 (I.ok.bs b o e).2 (I.ok.nofr e) (I.ok.noex b o e),I.base.free b o (I.ok.bs b o e).1 (I.ok.bs b o e).2 (I.ok.noex b o e)⟩
theorem Inv.bk (I:Inv X pins σ H s):∀ b o,X.base.get? b=some o→s.heap.get? b=some o:=fun b o e=>(I.bs b o e).1
theorem Inv.mod (I:Inv X pins σ H s):Mod X.K X.mg X.base:=I.ok.mod
theorem Inv.kIn (I:Inv X pins σ H s):X.K.In s.heap:=I.ok.mod.kin.keeps I.bk
theorem Inv.lt (I:Inv X pins σ H s):X.env.locals < s.heap.objs.size:=let ⟨_,hn,_⟩:=I.loc;hn.lt
theorem Inv.sz (I:Inv X pins σ H s):X.s₀.heap.objs.size≤s.heap.objs.size:=Nat.le_trans I.ok.above (Nat.le_of_lt I.lt)
theorem Inv.nofs (I:Inv X pins σ H s) {a:Addr} (h:s.heap.objs.size≤a):a ∉ X.fs:=fun hb=>by
 obtain ⟨_,o,ho,_⟩:=I.ok.funs.mem hb
 exact absurd (Nat.lt_of_lt_of_le (Heap.lt_size ho) (Nat.le_trans I.sz h)) (Nat.lt_irrefl _)
theorem Inv.cne (I:Inv X pins σ H s):∀ x c,X.env.cells.lookup x=some c→c≠X.env.locals:=fun x c e z=>by
 obtain ⟨v,o,ho,hd⟩:=I.cell x c e
 obtain ⟨m,⟨o',es,ep,ho',hd',_⟩,_⟩:=I.loc
 rw [z,ho'] at ho;cases ho;rw [hd'] at hd;cases hd
theorem Inv.funs (I:Inv X pins σ H s):s.heap.FunFrames X.base X.outer:=by
 have all:∀ (l:List Env),(∀ b∈frs l,b∈X.fs)→X.s₀.heap.FunFrames X.base l→s.heap.FunFrames X.base l:=by
  intro l
  induction l with
  | nil=>intro _ _;trivial
  | cons env r ih =>
   intro hs hl
   obtain ⟨hk,⟨L,o,hf,hn,ho,hd⟩,hr⟩:=hl
   have hL:L∈X.fs:=hs L (by unfold frs;rw [List.filterMap_cons,hf];exact List.mem_cons_self)
   obtain ⟨sl,e⟩:=I.base.slot L o ho (I.ok.frf L hL) hL fun z=>I.ok.exfs L z hL
   exact ⟨hk,⟨L,_,hf,hn,e,hd⟩,ih (fun b hb=>hs b (by unfold frs;rw [List.filterMap_cons,hf];exact List.mem_cons_of_mem _ hb)) hr⟩
 exact all X.outer (fun _ hb=>hb) I.ok.funs
theorem Inv.stack (I:Inv X pins σ H s):s.heap.FunFrames X.base X.stack:=by
 rcases I.ok.stk with e | ⟨e,hf⟩
 ·rw [e];exact I.funs
 ·rw [e]
  obtain ⟨m,hn,_⟩:=I.loc
  refine .cons (by rw [I.ok.kind];decide) hf hn ?_ I.funs
  exact Heap.get?_none_of_le (Nat.le_trans I.ok.bsz I.ok.above)
theorem Inv.stkSub (I:Inv X pins σ H s):∀ b∈frs X.stack,b∈X.env.locals :: X.fs:=fun b hb=>by
 rcases I.ok.stk with e | ⟨e,hf⟩
 ·rw [e] at hb;exact List.mem_cons_of_mem _ hb
 ·rw [e] at hb
  unfold frs at hb
  rw [List.filterMap_cons,hf] at hb
  exact hb
theorem Inv.stkFree (I:Inv X pins σ H s):∀ b∈frs X.stack,H b=none:=fun b hb=>by
 rcases List.mem_cons.mp (I.stkSub b hb) with e | hb
 ·rw [e];exact I.free
 ·obtain ⟨_,o,ho,_⟩:=I.ok.funs.mem hb
  exact I.base.free b o ho (I.ok.frf b hb) fun z=>I.ok.exfs b z hb
theorem Inv.step {g':Array GenState} {t':Nat} {d':Drawn} {ch:List Addr} (I:Inv X pins σ H s)
  (hch:∀ b∈ch,(b∈X.ex∨X.s₀.heap.objs.size≤b)∧b≠X.env.locals∧(∀ x c,X.env.cells.lookup x=some c→c≠b)∧∀ p∈X.pn ++ pins,p.1≠b)
  (keep:∀ b o,b≠X.env.locals→b ∉ X.fs→b ∉ ch→s.heap.get? b=some o→H b=none→h'.get? b=some o)
  (slot:∀ b o,b≠X.env.locals→b∈X.fs→b ∉ ch→s.heap.get? b=some o→H b=none→∃ sl,h'.get? b=some { o with slots:=sl }) (free:∀ b o,b ∉ ch→s.heap.get? b=some o→H b=none→H' b=none)
  (there:∀ b o,b ∉ ch→s.heap.get? b=some o→∃ o',h'.get? b=some o')
  (tups:∀ b xs,H b=some (.tup xs)→H' b=some (.tup xs)) (frzs:∀ b o u,H b=some (.frz o u)→H' b=some (.frz o u)) (tbls:∀ b ps,H b=some (.tbl ps)→∃ more,H' b=some (.tbl (ps ++ more)))
  (ns:∀ m,s.heap.Ns X.env.locals m→h'.Ns X.env.locals m) (hok:HOk X.prog X.w H' h') (hg:AllBare g') :
  Inv X pins σ H' { s with heap:=h',gens:=g',drawn:=d',toks:=t' }:=by
 have neL:∀ b o,X.s₀.heap.get? b=some o→b≠X.env.locals:=fun b o e=>Nat.ne_of_lt (Nat.lt_of_lt_of_le (Heap.lt_size e) I.ok.above)
 have neC:∀ b o,X.s₀.heap.get? b=some o→b ∉ X.ex→b ∉ ch:=fun b o e hx hb=>by
  rcases (hch b hb).1 with z | z
  ·exact hx z
  ·exact absurd (Nat.lt_of_lt_of_le (Heap.lt_size e) z) (Nat.lt_irrefl _)
 have cellK:∀ x c,X.env.cells.lookup x=some c→∀ v,s.heap.IsCell c v→h'.IsCell c v:=fun x c e v ⟨o,ho,hd⟩=>by
  have nch:c ∉ ch:=fun z=>(hch c z).2.2.1 x c e rfl
  by_cases hc:c∈X.fs
  ·obtain ⟨sl,q⟩:=slot c o (I.cne x c e) hc nch ho (I.freeC x c e)
   exact ⟨_,q,hd⟩
  ·exact ⟨o,keep c o (I.cne x c e) hc nch ho (I.freeC x c e),hd⟩
 refine ⟨I.ok,I.os,hg,⟨fun b o e n hb hx=>?_,fun b o e n hb hx=>?_,fun b o e n hx=>?_,fun b o e hx=>?_,fun b xs e=>tups b xs (I.base.tups b xs e),fun b o xs e=>frzs b o xs (I.base.frzs b o xs e),fun b ps e=>?_⟩,?_,fun x c e=>?_,?_,fun x c e=>?_,fun p hp=>?_,hok,I.len⟩
 ·exact keep b o (neL b o e) hb (neC b o e hx) (I.base.keep b o e n hb hx) (I.base.free b o e n hx)
 ·obtain ⟨sl,e1⟩:=I.base.slot b o e n hb hx
  obtain ⟨sl',e2⟩:=slot b _ (neL b o e) hb (neC b o e hx) e1 (I.base.free b o e n hx)
  exact ⟨sl',e2⟩
 ·obtain ⟨o',e1⟩:=I.base.there b o e hx
  exact free b o' (neC b o e hx) e1 (I.base.free b o e n hx)
 ·obtain ⟨o',e1⟩:=I.base.there b o e hx
  exact there b o' (neC b o e hx) e1
 ·obtain ⟨m1,e1⟩:=I.base.tbls b ps e
  obtain ⟨m2,e2⟩:=tbls b _ e1
  exact ⟨m1 ++ m2,by rw [e2,Array.append_assoc]⟩
 ·obtain ⟨m,hn,hl⟩:=I.loc
  refine ⟨m,ns m hn,fun i x v e1 e2 e3=>?_⟩
  obtain ⟨u,r,l⟩:=hl i x v e1 e2 e3
  refine ⟨u,r,?_⟩
  rcases l with l | ⟨k,c,e,z⟩
  ·exact .inl l
  ·exact .inr ⟨k,c,e,cellK x c e _ z⟩
 ·obtain ⟨v,z⟩:=I.cell x c e
  exact ⟨v,cellK x c e v z⟩
 ·obtain ⟨m,⟨o,_,_,ho,_⟩,_⟩:=I.loc
  exact free _ o (fun z=>(hch _ z).2.1 rfl) ho I.free
 ·obtain ⟨v,o,ho,hd⟩:=I.cell x c e
  exact free c o (fun z=>(hch c z).2.2.1 x c e rfl) ho (I.freeC x c e)
 ·obtain ⟨e,n,ne,nf,d⟩:=I.pin p hp
  have nch:p.1 ∉ ch:=fun z=>(hch p.1 z).2.2.2 p hp rfl
  exact ⟨keep p.1 p.2 ne nf nch e n,free p.1 p.2 nch e n,ne,nf,d⟩
theorem Inv.un {t':Nat} (I:Inv X pins σ H s) (u:Un X.fs [] H H' s.heap h') (hok:HOk X.prog X.w H' h'):Inv X pins σ H' { s with heap:=h',toks:=t' }:=by
 obtain ⟨m,⟨o,es,ep,ho,r⟩,_⟩:=id I.loc
 obtain ⟨sl,hL⟩:=u.any ho I.free (by simp)
 exact I.step (g':=s.gens) (d':=s.drawn) (ch:=[]) (fun _ z=>nomatch z) (fun b o _ hb _ e n=>u.keep b o e n hb (by simp)) (fun b o _ hb _ e n=>u.slot b o e n hb (by simp)) (fun b o _ e n=>u.free b o e n (by simp)) (fun b o _ e=>u.there b o e (by simp)) u.tups u.frzs u.tbls (fun m' hm=>by
  obtain ⟨o',es',ep',ho',r'⟩:=hm
  rw [ho] at ho';cases ho'
  exact ⟨_,es',ep',hL,r'⟩) hok I.bare
theorem Inv.call {g':Array GenState} {t':Nat} {d':Drawn} {ch:List Addr} (I:Inv X pins σ H s) (u:Un (frs X.stack) ch H H' s.heap h') (hok:HOk X.prog X.w H' h') (hg:AllBare g')
  (hch:∀ b∈ch,(b∈X.ex∨X.s₀.heap.objs.size≤b)∧b≠X.env.locals∧(∀ x c,X.env.cells.lookup x=some c→c≠b)∧∀ p∈X.pn ++ pins,p.1≠b) :
  Inv X pins σ H' { s with heap:=h',gens:=g',drawn:=d',toks:=t' }:=by
 obtain ⟨m,⟨o,es,ep,ho,r⟩,_⟩:=id I.loc
 obtain ⟨sl,hL⟩:=u.any ho I.free fun z=>(hch _ z).2.1 rfl
 exact I.step (ch:=ch) hch (fun b o hL hb hc e n=>u.keep b o e n (fun z=>(List.mem_cons.mp (I.stkSub b z)).elim hL hb) hc) (fun b o _ _ hc e n=>u.any e n hc) (fun b o hc e n=>u.free b o e n hc) (fun b o hc e=>u.there b o e hc) u.tups u.frzs u.tbls (fun m' hm=>by
  obtain ⟨o',es',ep',ho',r'⟩:=hm
  rw [ho] at ho';cases ho'
  exact ⟨_,es',ep',hL,r'⟩) hok hg
theorem Inv.turned {t':Nat} {it:Addr} (I:Inv X pins σ H s) (k:∀ b o,b≠it→s.heap.get? b=some o→h'.get? b=some o) (hn:H it=none) (hL:it≠X.env.locals)
  (h1:it∈X.ex∨X.s₀.heap.objs.size≤it) (h2:∀ x c,X.env.cells.lookup x=some c→c≠it) (h3:∀ p∈X.pn ++ pins,p.1≠it):Inv X pins σ H { s with heap:=h',toks:=t' }:=by
 have nit:∀ b u,H b=some u→b≠it:=fun b u e z=>by rw [z,hn] at e;cases e
 refine I.step (g':=s.gens) (d':=s.drawn) (ch:=[it]) (fun b hb=>?_) (fun b o _ _ hc e _=>k b o (fun z=>hc (by simp [z])) e) (fun b o _ _ hc e _=>⟨o.slots,k b o (fun z=>hc (by simp [z])) e⟩) (fun _ _ _ _ n=>n)
  (fun b o hc e=>⟨o,k b o (fun z=>hc (by simp [z])) e⟩) (fun _ _ e=>e) (fun _ _ _ e=>e) (fun b ps e=>⟨#[],by rw [e];simp⟩) (fun m hm=>?_) (fun b u e=>?_) I.bare
 ·have e:b=it:=by simpa using hb
  subst e
  exact ⟨h1,hL,h2,h3⟩
 ·obtain ⟨o,es,ep,ho,r⟩:=hm
  exact ⟨o,es,ep,k _ o (Ne.symm hL) ho,r⟩
 ·refine (I.hok b u e).stay (fun c v hc q=>k c v ?_ q) (fun _ q=>q) fun _ _ q=>q
  rcases hc with z | z
  ·rw [z];exact nit b u e
  ·exact nit c _ z
theorem Inv.tok (I:Inv X pins σ H s) (t:Nat):Inv X pins σ H { s with toks:=t }:=I.un (h':=s.heap) (t':=t) Un.refl I.hok
theorem Inv.kept {t':Nat} (I:Inv X pins σ H s) (k:∀ b u,s.heap.get? b=some u→h'.get? b=some u):Inv X pins σ H { s with heap:=h',toks:=t' }:=I.un (Un.kept k) (I.hok.kept k)
theorem Inv.laid {a:Addr} {o:HO} {t':Nat} (I:Inv X pins σ H s) (k:∀ b u,s.heap.get? b=some u→h'.get? b=some u) (hp:s.heap.objs.size≤a) (new:ObjOk X.prog X.w (upd H a o) h' a o) :
  Inv X pins σ (upd H a o) { s with heap:=h',toks:=t' }:=I.un (Un.laid k hp (I.hok.fresh hp)) (I.hok.laid k hp new)
theorem Inv.write {x e:Addr} {o:HO} {t':Nat} (I:Inv X pins σ H s) (mu:Mut (H x)) (he:e=x∨H e=some (.own x)) (k:∀ b u,b≠e→s.heap.get? b=some u→h'.get? b=some u) (heo:∃ u,h'.get? e=some u)
  (new:ObjOk X.prog X.w (upd H x o) h' x o):Inv X pins σ (upd H x o) { s with heap:=h',toks:=t' }:=I.un (Un.write mu he k heo) (I.hok.write mu he k heo new)
theorem Inv.pins_of {pins':List (Addr×Obj)} (I:Inv X pins σ H s) (h:∀ p∈pins',s.heap.get? p.1=some p.2∧H p.1=none∧p.1≠X.env.locals∧p.1 ∉ X.fs∧∀ v,p.2.data≠.cell v):Inv X pins' σ H s :=
 ⟨I.ok,I.os,I.bare,I.base,I.loc,I.cell,I.free,I.freeC,fun p hp=>(List.mem_append.mp hp).elim (fun z=>I.pin p (List.mem_append_left _ z)) (h p),I.hok,I.len⟩
theorem YaI {N:List Str} (hN:N.Nodup) {i j:Nat} {x:Str} (a:N[i]?=some x) (b:N[j]?=some x):i=j:=by
 obtain ⟨h1,e1⟩:=List.getElem?_eq_some_iff.mp a
 obtain ⟨h2,e2⟩:=List.getElem?_eq_some_iff.mp b
 exact (List.getElem_inj hN).mp (e1.trans e2.symm)
theorem XaN {M:Model} {A:Around} {E:Value→Shared→Prop} {i:Nat} {x:Str} {v:V} {u:Value} {Q:Unit→Shared→Prop} (I:Inv X pins σ H s) (hN:X.N.Nodup) (hi:X.N[i]?=some x) (hx:Loc X.env.scope x) (r:RelV v u)
  (h:∀ s',Inv X pins (σ.set i (some v)) H s'→(∃ a,Heap.SameBut a s.heap s'.heap∧(a=X.env.locals∨X.env.cells.lookup x=some a))→Q () s') (hf:X.fn x=true∨X.env.scope.names.lookup x=some .local:=by first | exact .inl rfl | exact .inr rfl | assumption):wpAny M A (storeName X.env x u) Q E s:=by
 obtain ⟨m,hn,hl⟩:=id I.loc
 have hcls:(X.env.scope.kind == .class || (X.env.scope.kind == .module && X.env.locals != X.env.globals))=false:=by rw [I.ok.kind];rfl
 have hiσ:i < σ.length:=by rw [I.len];exact (List.getElem?_eq_some_iff.mp hi).1
 have cne:=I.cne
 have tracked:∀ {a:Addr} {h':Heap},(∃ o,s.heap.get? a=some o∧H a=none)→Heap.SameBut a s.heap h'→HOk X.prog X.w H h':=fun {a h'} ha hs b ob e=>by
  obtain ⟨_,_,hfree⟩:=ha
  refine (I.hok b ob e).stay (fun c w' hc q=>(hs.2 c ?_).trans q) (fun _ q=>q) fun _ _ q=>q
  rintro rfl
  rcases hc with rfl | hc
  ·rw [hfree] at e;cases e
  ·rw [hfree] at hc;cases hc
 rcases hx with hk | hk
 ·refine wpAny_storeName_local hk hn (fun h' hn' hs=>?_) hcls
  obtain ⟨oL,_,_,hoL,_⟩:=id hn
  refine h _ ⟨I.ok,I.os,I.bare,⟨fun b o e n hb hx=>?_,fun b o e n hb hx=>?_,I.base.free,fun b o e hx=>?_,I.base.tups,I.base.frzs,I.base.tbls⟩,⟨_,hn',fun j y v' e1 e2 e3=>?_⟩,fun y c e=>?_,I.free,I.freeC,fun p hp=>?_,tracked ⟨oL,hoL,I.free⟩ hs,by simpa using I.len⟩ ⟨_,hs,.inl rfl⟩
  ·exact (hs.2 b (Nat.ne_of_lt (Nat.lt_of_lt_of_le (Heap.lt_size e) I.ok.above))).trans (I.base.keep b o e n hb hx)
  ·obtain ⟨sl,e1⟩:=I.base.slot b o e n hb hx
   exact ⟨sl,(hs.2 b (Nat.ne_of_lt (Nat.lt_of_lt_of_le (Heap.lt_size e) I.ok.above))).trans e1⟩
  ·obtain ⟨o',e1⟩:=I.base.there b o e hx
   exact ⟨o',(hs.2 b (Nat.ne_of_lt (Nat.lt_of_lt_of_le (Heap.lt_size e) I.ok.above))).trans e1⟩
  ·by_cases hj:j=i
   ·subst hj
    rw [hi] at e1;cases e1
    rw [List.getElem?_set_self hiσ] at e2
    cases e2
    exact ⟨u,r,.inl ⟨hk,by simp⟩⟩
   ·rw [List.getElem?_set_ne (Ne.symm hj)] at e2
    obtain ⟨u',r',q⟩:=hl j y v' e1 e2 e3
    refine ⟨u',r',?_⟩
    rcases q with ⟨k,e⟩ | ⟨k,c,e,z⟩
    ·refine .inl ⟨k,?_⟩
     have:y≠x:=fun e=>hj (YaI hN e1 (e ▸ hi))
     simp [this,e]
    ·exact .inr ⟨k,c,e,z.sameBut hs (cne y c e)⟩
  ·obtain ⟨w',z⟩:=I.cell y c e
   exact ⟨w',z.sameBut hs (cne y c e)⟩
  ·obtain ⟨e,n,ne,nf,d⟩:=I.pin p hp
   exact ⟨(hs.2 p.1 ne).trans e,n,ne,nf,d⟩
 ·have hfn:X.fn x=true:=by
   rcases hf with z | z
   ·exact z
   ·rw [z] at hk;cases hk
  obtain ⟨c,hc⟩:=I.ok.has x (.inl hk)
  obtain ⟨w',z⟩:=I.cell x c hc
  refine wpAny_storeName_cell I.ok.kind hk hc z (fun h' hc' hs=>?_)
  obtain ⟨oc,hoc,hocd⟩:=id z
  refine h { s with heap:=h' } ⟨I.ok,I.os,I.bare,⟨fun b o e n hb hx=>?_,fun b o e n hb hx=>?_,I.base.free,fun b o e hx=>?_,I.base.tups,I.base.frzs,I.base.tbls⟩,⟨m,hn.sameBut hs (Ne.symm (cne x c hc)),fun j y v' e1 e2 e3=>?_⟩,fun y c' e=>?_,I.free,I.freeC,fun p hp=>?_,tracked ⟨oc,hoc,I.freeC x c hc⟩ hs,by simpa using I.len⟩ ⟨c,hs,.inr hc⟩
  ·exact (hs.2 b (Nat.ne_of_lt (Nat.lt_of_lt_of_le (Heap.lt_size e) (I.ok.cab x c hfn hc)))).trans (I.base.keep b o e n hb hx)
  ·obtain ⟨sl,e1⟩:=I.base.slot b o e n hb hx
   exact ⟨sl,(hs.2 b (Nat.ne_of_lt (Nat.lt_of_lt_of_le (Heap.lt_size e) (I.ok.cab x c hfn hc)))).trans e1⟩
  ·obtain ⟨o',e1⟩:=I.base.there b o e hx
   exact ⟨o',(hs.2 b (Nat.ne_of_lt (Nat.lt_of_lt_of_le (Heap.lt_size e) (I.ok.cab x c hfn hc)))).trans e1⟩
  ·by_cases hj:j=i
   ·subst hj
    rw [hi] at e1;cases e1
    rw [List.getElem?_set_self hiσ] at e2
    cases e2
    exact ⟨u,r,.inr ⟨.inl hk,c,hc,hc'⟩⟩
   ·rw [List.getElem?_set_ne (Ne.symm hj)] at e2
    obtain ⟨u',r',q⟩:=hl j y v' e1 e2 e3
    refine ⟨u',r',?_⟩
    rcases q with q | ⟨k,c',e,z'⟩
    ·exact .inl q
    ·refine .inr ⟨k,c',e,z'.sameBut hs ?_⟩
     rintro rfl
     exact hj (YaI hN e1 (I.ok.inj _ _ _ e hc ▸ hi))
  ·by_cases hcc:c'=c
   ·subst hcc;exact ⟨_,hc'⟩
   ·obtain ⟨w2,z2⟩:=I.cell y c' e
    exact ⟨w2,z2.sameBut hs hcc⟩
  ·obtain ⟨e,n,ne,nf,d⟩:=I.pin p hp
   refine ⟨(hs.2 p.1 ?_).trans e,n,ne,nf,d⟩
   intro q
   rw [q,hoc] at e
   have q':oc=p.2:=Option.some.inj e
   exact d w' (by rw [← q'];exact hocd)
theorem zav {M:Model} {A:Around} {E:Value→Shared→Prop} {i:Nat} {x:Str} {v:V} {u:Value} {Q:Unit→Shared→Prop} (I:Inv X pins σ H s) (hN:X.N.Nodup) (hi:X.N[i]?=some x) (hx:Loc X.env.scope x) (r:RelV v u)
  (h:∀ s',Inv X pins (σ.set i (some v)) H s'→Q () s') (hf:X.fn x=true∨X.env.scope.names.lookup x=some .local:=by first | exact .inl rfl | exact .inr rfl | assumption):wpAny M A (storeName X.env x u) Q E s :=
 XaN I hN hi hx r (fun s' I' _=>h s' I') hf
theorem Inv.call' {s':Shared} {ch:List Addr} (I:Inv X pins σ H s) (ho:s'.os=s.os) (u:Un (frs X.stack) ch H H' s.heap s'.heap) (hok:HOk X.prog X.w H' s'.heap) (hg:AllBare s'.gens)
  (hch:∀ b∈ch,(b∈X.ex∨X.s₀.heap.objs.size≤b)∧b≠X.env.locals∧(∀ x c,X.env.cells.lookup x=some c→c≠b)∧∀ p∈X.pn ++ pins,p.1≠b):Inv X pins σ H' s':=by
 obtain ⟨h',g',d',t',o'⟩:=s'
 have e:o'=s.os:=ho
 subst e
 exact I.call (g':=g') (t':=t') (d':=d') u hok hg hch
end
abbrev XK:=Value→Option Addr→Hp→Prop
abbrev St:=List (Option V)
abbrev VK:=V→Hp→Prop
abbrev TE:=St→Hp→VK→Prop
abbrev TT:=St→Hp→(Bool→Hp→Prop)→Prop
abbrev TA:=St→Hp→(List V→Hp→Prop)→Prop
set_option genInjectivity false in
structure Ends where
 nx:St→Hp→Prop
 rt:VK
 bk:St→Hp→Prop:=fun _ _=>False
 ct:St→Hp→Prop:=fun _ _=>False
abbrev TS:=Ends→St→Hp→Prop
noncomputable def EP (X:Cx) (pins:List (Addr×Obj)) (σ:St) (Q:VK) (u:Value) (s':Shared):Prop:=∃ v H',Inv X pins σ H' s'∧RelV v u∧Q v H'
noncomputable def TP (X:Cx) (pins:List (Addr×Obj)) (σ:St) (Q:Bool→Hp→Prop) (b:Bool) (s':Shared):Prop:=∃ H',Inv X pins σ H' s'∧Q b H'
noncomputable def AP (X:Cx) (pins:List (Addr×Obj)) (σ:St) (Q:List V→Hp→Prop) (us:List Value) (s':Shared):Prop:=∃ vs H',Inv X pins σ H' s'∧Vals vs us∧Q vs H'
noncomputable def SP (X:Cx) (pins:List (Addr×Obj)) (D:Ends) (f:Flow) (s':Shared):Prop :=
 match f with
 | .next=>∃ σ' H',Inv X pins σ' H' s'∧D.nx σ' H'
 | .brk=>∃ σ' H',Inv X pins σ' H' s'∧D.bk σ' H'
 | .cont=>∃ σ' H',Inv X pins σ' H' s'∧D.ct σ' H'
 | .ret u=>∃ v σ' H',Inv X pins σ' H' s'∧RelV v u∧D.rt v H'
noncomputable def PE (X:Cx) (e:Expr) (t:TE):Prop :=
 ∀ (pins:List (Addr×Obj)) (s:Shared) (σ:St) (H:Hp) (Q:VK),Inv X pins σ H s→t σ H Q→wpAny (model X.prog X.w) X.A (eval e X.env) (EP X pins σ Q) X.xe s
noncomputable def PT (X:Cx) (e:Expr) (t:TT):Prop :=
 ∀ (pins:List (Addr×Obj)) (s:Shared) (σ:St) (H:Hp) (Q:Bool→Hp→Prop),Inv X pins σ H s→t σ H Q→wpAny (model X.prog X.w) X.A (isTrue e X.env (eval e X.env)) (TP X pins σ Q) X.xe s
noncomputable def PW (X:Cx) (e:Expr) (t:TT):Prop :=
 ∀ (whole:Sem Value) (pins:List (Addr×Obj)) (s:Shared) (σ:St) (H:Hp) (Q:Bool→Hp→Prop),Inv X pins σ H s→t σ H Q→wpAny (model X.prog X.w) X.A (isTrue e X.env whole) (TP X pins σ Q) X.xe s
theorem PW.pt {X:Cx} {e:Expr} {t:TT} (h:PW X e t):PT X e t:=h _
noncomputable def PA (X:Cx) (es:List Expr) (t:TA):Prop :=
 ∀ (pos:Pos) (pins:List (Addr×Obj)) (s:Shared) (σ:St) (H:Hp) (Q:List V→Hp→Prop),Inv X pins σ H s→t σ H Q→wpAny (model X.prog X.w) X.A (spliced (backTo pos (starEach es X.env))) (AP X pins σ Q) X.xe s
noncomputable def PS (X:Cx) (st:Stmt) (t:TS):Prop :=
 ∀ (pins:List (Addr×Obj)) (s:Shared) (σ:St) (H:Hp) (D:Ends),Inv X pins σ H s→t D σ H→wpAny (model X.prog X.w) X.A (exec st X.env) (SP X pins D) X.xe s
noncomputable def PSs (X:Cx) (st:List Stmt) (t:TS):Prop :=
 ∀ (pins:List (Addr×Obj)) (s:Shared) (σ:St) (H:Hp) (D:Ends),Inv X pins σ H s→t D σ H→wpAny (model X.prog X.w) X.A (execs st X.env) (SP X pins D) X.xe s
theorem thn {α:Type} {t:Sem α} {Q Q':α→Shared→Prop} {M:Model} {A:Around} {E:Value→Shared→Prop} {s:Shared} (h:wpAny M A t Q E s) (hQ:∀ a s,Q a s→Q' a s):wpAny M A t Q' E s:=wpAny_mono h hQ fun _ _ x=>x
end L2
namespace L2
open PySem PySem.Spec PyProof.Rows
section
variable {X:Cx}
theorem bin {a b:Expr} {ta tb:TE} (ha:PE X a ta) (hb:PE X b tb) {pins:List (Addr×Obj)} {s:Shared} {σ:St} {H:Hp} {R:V→V→Hp→Prop} (I:Inv X pins σ H s) (h:ta σ H fun x H1=>tb σ H1 fun y H2=>R x y H2)
  {α:Type} {Q:α→Shared→Prop} {f:Value→Value→Sem α}
  (hf:∀ v u s2 x y H2,Inv X pins σ H2 s2→RelV x v→RelV y u→R x y H2→wpAny (model X.prog X.w) X.A (f v u) Q X.xe s2) :
  wpAny (model X.prog X.w) X.A (eval a X.env) (fun v s₁=>wpAny (model X.prog X.w) X.A (eval b X.env) (fun u s₂=>wpAny (model X.prog X.w) X.A (f v u) Q X.xe s₂) X.xe s₁) X.xe s:=by
 refine thn (ha pins s σ H _ I h) fun v s1 ⟨x,H1,I1,r1,q1⟩=>?_
 refine thn (hb pins s1 σ H1 _ I1 q1) fun u s2 ⟨y,H2,I2,r2,q2⟩=>?_
 exact hf v u s2 x y H2 I2 r1 r2 q2
noncomputable def tVar (i:Nat):TE:=fun σ H Q=>∃ v,σ[i]?=some (some v)∧Q v H
noncomputable def tC (v:V):TE:=fun _ H Q=>Q v H
theorem pe_var {i:Nat} {x:Str} {pos:Pos} (hN:X.N[i]?=some x) (hv:Vis X.env.scope x) (hd:(x == ("__debug__" : Str))=false:=by decide) (hcd:(x == ("__classdict__" : Str))=false:=by decide):PE X (.Name x pos) (tVar i):=by
 intro pins s σ H Q I h
 obtain ⟨v,e,h⟩:=h
 obtain ⟨m,hn,hl⟩:=I.loc
 obtain ⟨u,r,l⟩:=hl i x v hN e hv
 have fin:EP X pins σ Q u s:=⟨v,H,I,r,h⟩
 rcases l with ⟨hk,hm⟩ | ⟨hk,c,hc,hcell⟩
 ·exact wpAny_Name (wpAny_loadName_local I.ok.kind hk hn hm fin) hd
 ·rcases hk with hk | hk
  ·exact wpAny_Name (wpAny_loadName_cell I.ok.kind hk hc hcell fin) hd
  ·exact wpAny_Name (wpAny_loadName_free I.ok.kind hk hc hcell fin hcd) hd
theorem yac {i j pos}:PE X (.Constant (.int i) j pos) (tC (.int i)):=fun _ _ _ H _ I h=>wpAny_Constant_int ⟨.int i,H,I.tok _,⟨_,rfl⟩,h⟩
theorem pe_bl {b j pos}:PE X (.Constant (.bool b) j pos) (tC (.bl b)):=fun _ _ _ H _ I h=>Constant_bool ⟨.bl b,H,I,rfl,h⟩
theorem Za4 {j pos}:PE X (.Constant .none j pos) (tC .non):=fun _ _ _ H _ I h=>Constant_none ⟨.non,H,I,rfl,h⟩
theorem zaD {x j pos}:PE X (.Constant (.str x) j pos) (tC (.str x)):=fun _ _ _ H _ I h=>Calls.Constant_str ⟨.str x,H,I.tok _,⟨_,rfl⟩,h⟩
noncomputable def Gl (X:Cx) (x:Str):Prop:=X.env.kindOf x=some .globalImplicit
theorem yaA {E:Value→Shared→Prop} {pins:List (Addr×Obj)} {s:Shared} {σ:St} {H:Hp} {x:Str} {u:Value} {pos:Pos} {Q:Value→Shared→Prop} (I:Inv X pins σ H s) (hg:Gl X x) (hm:X.mg x=some u) (h:Q u s)
  (hd:(x == ("__debug__" : Str))=false:=by decide):wpAny (model X.prog X.w) X.A (eval (.Name x pos) X.env) Q E s :=
 Calls.Name_function_global I.ok.kind hg (Calls.loadGlobal_global (by rw [I.ok.glob];exact I.mod.glob.keeps I.bk) hm h) hd
theorem zaO {E:Value→Shared→Prop} {pins:List (Addr×Obj)} {s:Shared} {σ:St} {H:Hp} {x:Str} {u:Value} {pos:Pos} {Q:Value→Shared→Prop} (I:Inv X pins σ H s) (hg:Gl X x) (hm:X.mg x=none) (hv:bootBuiltins x=some u) (h:Q u s)
  (hn:x≠"__name__" := by decide) (hd:(x == ("__debug__" : Str))=false:=by decide):wpAny (model X.prog X.w) X.A (eval (.Name x pos) X.env) Q E s:=by
 obtain ⟨mb,h1,h2⟩:=I.mod.blt
 exact Calls.Name_function_global I.ok.kind hg (Calls.loadGlobal_builtin (by rw [I.ok.glob];exact I.mod.glob.keeps I.bk) hm (by rw [I.ok.blt];exact h1.keeps I.bk) ((h2 x hn).trans hv) h) hd
theorem Xa7 {x:Str} {v:V} {u:Value} {pos:Pos} (hg:Gl X x) (hm:X.mg x=some u) (r:RelV v u) (hd:(x == ("__debug__" : Str))=false:=by decide):PE X (.Name x pos) (tC v) :=
 fun _ _ _ H _ I h=>yaA I hg hm ⟨v,H,I,r,h⟩ hd
theorem za8 {x:Str} {v:V} {u:Value} {pos:Pos} (hg:Gl X x) (hm:X.mg x=none) (hv:bootBuiltins x=some u) (r:RelV v u) (hn:x≠"__name__" := by decide) (hd:(x == ("__debug__" : Str))=false:=by decide):PE X (.Name x pos) (tC v) :=
 fun _ _ _ H _ I h=>zaO I hg hm hv ⟨v,H,I,r,h⟩ hn hd
variable {a b:Expr} {ta tb:TE} {pos:Pos}
noncomputable def PC (X:Cx) (op:CmpOp) (a b:Expr) (t:TE):Prop :=
 ∀ (pins:List (Addr×Obj)) (s:Shared) (σ:St) (H:Hp) (Q:VK),Inv X pins σ H s→t σ H Q →
  wpAny (model X.prog X.w) X.A (eval a X.env) (fun v s₁=>wpAny (model X.prog X.w) X.A (eval b X.env) (fun u s₂=>wpAny (model X.prog X.w) X.A (compareOp op v u) (EP X pins σ Q) X.xe s₂) X.xe s₁) X.xe s
theorem nobehind (b:Expr) {op:CmpOp} (h:op≠.In) (h2:op≠.NotIn):behindInMarks op b=false:=by
 have e1:(op == CmpOp.In)=false:=by cases op <;> first | rfl | exact absurd rfl h
 have e2:(op == CmpOp.NotIn)=false:=by cases op <;> first | rfl | exact absurd rfl h2
 cases b <;> simp [behindInMarks,e1,e2]
noncomputable def tB (t:TE):TT:=fun σ H Q=>t σ H fun x H1=>∃ c,x=.bl c∧Q c H1
theorem pt_cmp {op:CmpOp} {t:TE} (h:PC X op a b t) (h1:behindInMarks op b=false:=by first | exact nobehind _ (by decide) (by decide) | rfl):PT X (.Compare a [op] [b] pos) (tB t):=by
 intro pins s σ H Q I hw
 refine wpAny_isTrue_Compare1 (thn (h pins s σ H _ I hw) fun v s1 h1=>thn h1 fun u s2 h2=>thn h2 fun c s3 ⟨x,H1,I1,r1,q1⟩=>?_) h1
 obtain ⟨d,rfl,q⟩:=q1
 cases r1
 exact wpAny_truthy_bool ⟨H1,I1,q⟩
theorem yaD {e:Expr} {t:TE} (h:PE X e t) (he:∀ whole,isTrue e X.env whole=(do let v ← whole;standAt e.pos;holding [v] (truthy v)):=by intro _;rfl):PT X e (tB t):=by
 intro pins s σ H Q I hw
 refine isTrue_plain (thn (h pins s σ H _ I hw) fun v s1 ⟨x,H1,I1,r1,q1⟩=>?_) (he _)
 obtain ⟨d,rfl,q⟩:=q1
 cases r1
 exact wpAny_truthy_bool ⟨H1,I1,q⟩
variable {tA tB':TT} {rest:List Expr}
noncomputable def tOr (t u:TT):TT:=fun σ H Q=>t σ H fun c H1=>if c=true then Q true H1 else u σ H1 Q
noncomputable def tNot (t:TT):TT:=fun σ H Q=>t σ H fun c H1=>Q (!c) H1
theorem pw_or1 (ha:PT X a tA):PW X (.BoolOp .Or [a] pos) tA:=by
 intro wh pins s σ H Q I h
 refine isTrue_or (thn (ha pins s σ H Q I h) fun c s1 e=>?_)
 cases c with
 | false=>exact isTrue_or_nil e
 | true=>exact e
theorem pw_or (ha:PT X a tA) (hb:PW X (.BoolOp .Or (b :: rest) pos) tB'):PW X (.BoolOp .Or (a :: b :: rest) pos) (tOr tA tB'):=by
 intro wh pins s σ H Q I h
 refine isTrue_or (thn (ha pins s σ H _ I h) fun c s1 ⟨H1,I1,q1⟩=>?_)
 cases c with
 | true=>exact ⟨H1,I1,q1⟩
 | false=>exact hb wh pins s1 σ H1 Q I1 q1
theorem pt_not (ha:PT X a tA):PT X (.UnaryOp .Not a pos) (tNot tA):=by
 intro pins s σ H Q I h
 exact isTrue_not (ha pins s σ H (fun c H1=>Q (!c) H1) I h)
noncomputable def tAndV (ta tb:TE):TE:=fun σ H Q=>ta σ H fun x H1=>∃ c,x=.bl c∧if c=true then tb σ H1 Q else Q (.bl false) H1
theorem pe_one {op} {t:TE} (h:PE X a t):PE X (.BoolOp op [a] pos) t:=fun pins s σ H Q I hw=>BoolOp_one (h pins s σ H Q I hw)
theorem pe_and (ha:PE X a ta) (hb:PE X (.BoolOp .And (b :: rest) pos) tb):PE X (.BoolOp .And (a :: b :: rest) pos) (tAndV ta tb):=by
 intro pins s σ H Q I h
 refine BoolOp_and (thn (ha pins s σ H _ I h) fun v s1 ⟨x,H1,I1,r1,q1⟩=>?_)
 obtain ⟨c,rfl,q1⟩:=q1
 cases r1
 refine wpAny_truthy_bool ?_
 cases c with
 | true=>exact hb pins s1 σ H1 Q I1 q1
 | false=>exact ⟨.bl false,H1,I1,rfl,q1⟩
end
end L2
namespace L2
open PySem PySem.Spec PyProof.Rows
noncomputable def SqL (K:PySem.W.Frag) (H:Hp) (a:Addr) (xs:List V):Prop :=
 Rd H a (.lst xs) ∨
  ∃ (o:Obj) (its:Array Value) (n:Nat),K.lookup a=some o∧o.cls=.type "list" ∧ o.dict=none∧o.data=.seq its n∧its.size≤sizeLine∧Vals xs its.toList
noncomputable def SqT (K:PySem.W.Frag) (H:Hp) (a:Addr) (xs:List V):Prop :=
 Rd H a (.tup xs) ∨
  ∃ (o:Obj) (its:Array Value) (n:Nat),K.lookup a=some o∧o.cls=.type "tuple" ∧ o.dict=none∧o.data=.seq its n∧its.size≤sizeLine∧Vals xs its.toList
noncomputable def absV:Value→Option V
 | .none=>some .non
 | .bool b=>some (.bl b)
 | .int i _=>some (.int i)
 | .str x _=>some (.str x)
 | .bytes b _=>some (.byt b)
 | .float b _=>some (.flt b)
 | .ref a=>some (.ref a)
 | .type n=>some (.ty n)
 | _=>none
theorem RelV.abs {x:V} {u:Value} (r:RelV x u):absV u=some x:=by
 cases x with
 | non=>cases r;rfl
 | bl _=>cases r;rfl
 | int _=>obtain ⟨t,rfl⟩:=r;rfl
 | str _=>obtain ⟨t,rfl⟩:=r;rfl
 | byt _=>obtain ⟨t,rfl⟩:=r;rfl
 | flt _=>obtain ⟨t,rfl⟩:=r;rfl
 | ref _=>cases r;rfl
 | ty _=>cases r;rfl
theorem RelV.inj {x y:V} {u:Value} (r:RelV x u) (q:RelV y u):x=y:=Option.some.inj (r.abs.symm.trans q.abs)
theorem Vals.inj:∀ {xs ys:List V} {us:List Value},Vals xs us→Vals ys us→xs=ys
 | _,_,_,.nil,.nil=>rfl
 | _,_,_,.cons r t,.cons r' t'=>by rw [r.inj r',Vals.inj t t']
section
variable {X:Cx} {pins:List (Addr×Obj)} {σ:St} {H:Hp} {s:Shared} {a:Addr} {xs ys:List V}
theorem SqT.of {K:PySem.W.Frag} (h:H a=some (.tup xs)):SqT K H a xs:=.inl (.inl h)
theorem Inv.list (I:Inv X pins σ H s) (h:SqL X.K H a xs):∃ its:List Value,Vals xs its∧PlainL s.heap a its.toArray∧xs.length≤sizeLine:=by
 rcases h with h | ⟨o,its,n,hk,hc,hd,hs,hz,r⟩
 ·obtain ⟨z,its,n,r,e⟩:=h.ok I.hok
  exact ⟨its,r,⟨_,n,e,rfl,rfl,rfl⟩,z⟩
 ·refine ⟨its.toList,r,⟨o,n,I.kIn a o hk,hc,hd,by simpa using hs⟩,?_⟩
  have e:=r.length
  simp only [Array.length_toList] at e
  omega
theorem Inv.tupleP (I:Inv X pins σ H s) (h:SqT X.K H a xs):∃ its:List Value,Vals xs its∧PTup s.heap a its.toArray∧xs.length≤sizeLine:=by
 rcases h with h | ⟨o,its,n,hk,hc,hd0,hs,hz,r⟩
 ·obtain ⟨z,its,r,p⟩:=h.ok I.hok
  exact ⟨its,r,p,z⟩
 ·refine ⟨its.toList,r,⟨o,I.kIn a o hk,hc,hd0,n,by simpa using hs⟩,?_⟩
  have e:=r.length
  simp only [Array.length_toList] at e
  omega
theorem Inv.tuple (I:Inv X pins σ H s) (h:SqT X.K H a xs):∃ its:List Value,Vals xs its∧IsTup s.heap a its.toArray∧xs.length≤sizeLine :=
 let ⟨its,r,p,z⟩:=I.tupleP h
 ⟨its,r,p.tup,z⟩
theorem Inv.list_inj (I:Inv X pins σ H s) (h:SqL X.K H a xs) (h':SqL X.K H a ys):xs=ys:=by
 obtain ⟨its,r,⟨o,n,e,_,_,d⟩,_⟩:=I.list h
 obtain ⟨its',r',⟨o',n',e',_,_,d'⟩,_⟩:=I.list h'
 rw [e] at e';cases e'
 rw [d] at d'
 injection d' with d1 _
 have:its=its':=by simpa using congrArg Array.toList d1
 subst this
 exact r.inj r'
end
abbrev Cx.wish (X:Cx) (E:Value→Shared→Prop):Cx:={ X with xe:=E }
abbrev Cx.nox (X:Cx):Cx:=X.wish fun _ _=>False
theorem Cx.Ok.wish {X:Cx} (ok:X.Ok) (E:Value→Shared→Prop):(X.wish E).Ok :=
 ⟨ok.mod,ok.kind,ok.glob,ok.blt,ok.above,ok.inj,ok.has,ok.cab,ok.hd,ok.frames,ok.stk,ok.exf,ok.bs,ok.bsz,ok.noex,ok.exfs,ok.funs,ok.frf⟩
theorem Cx.Ok.unwish {X:Cx} {E:Value→Shared→Prop} (ok:(X.wish E).Ok):X.Ok :=
 ⟨ok.mod,ok.kind,ok.glob,ok.blt,ok.above,ok.inj,ok.has,ok.cab,ok.hd,ok.frames,ok.stk,ok.exf,ok.bs,ok.bsz,ok.noex,ok.exfs,ok.funs,ok.frf⟩
section
variable {X:Cx} {pins:List (Addr×Obj)} {σ:St} {H:Hp} {s:Shared} {E:Value→Shared→Prop}
theorem Inv.wish (I:Inv X pins σ H s) (E:Value→Shared→Prop):Inv (X.wish E) pins σ H s:=⟨I.ok.wish E,I.os,I.bare,I.base,I.loc,I.cell,I.free,I.freeC,I.pin,I.hok,I.len⟩
theorem Inv.unwish (I:Inv (X.wish E) pins σ H s):Inv X pins σ H s:=⟨I.ok.unwish,I.os,I.bare,I.base,I.loc,I.cell,I.free,I.freeC,I.pin,I.hok,I.len⟩
theorem SP.unwish {D:Ends} {f:Flow} {s':Shared} (h:SP (X.wish E) pins D f s'):SP X pins D f s':=by
 cases f with
 | next=>obtain ⟨σ',H',I,q⟩:=h;exact ⟨σ',H',I.unwish,q⟩
 | brk=>obtain ⟨σ',H',I,q⟩:=h;exact ⟨σ',H',I.unwish,q⟩
 | cont=>obtain ⟨σ',H',I,q⟩:=h;exact ⟨σ',H',I.unwish,q⟩
 | ret u=>obtain ⟨v,σ',H',I,r,q⟩:=h;exact ⟨v,σ',H',I.unwish,r,q⟩
theorem PSs.nox {st:List Stmt} {t:TS} (h:PSs X.nox st t):PSs X st t:=fun pins s σ H D I hw =>
 wpAny_mono (h pins s σ H D (I.wish _) hw) (fun _ _ q=>q.unwish) fun _ _ z=>False.elim z
end
section
variable {X:Cx} {st:Stmt} {rest:List Stmt} {t u:TS} {e:Expr} {te:TE} {pos:Pos}
noncomputable def tNext:TS:=fun D σ H=>D.nx σ H
noncomputable def tSeq (t u:TS):TS:=fun D σ H=>t { D with nx:=u D } σ H
theorem Xam:PSs X [] tNext:=fun _ _ σ H _ I h=>wpAny_execs_nil ⟨σ,H,I,h⟩
theorem Yac (h1:PS X st t) (h2:PSs X rest u):PSs X (st :: rest) (tSeq t u):=by
 intro pins s σ H D I h
 refine wpAny_execs_cons (thn (h1 pins s σ H { D with nx:=u D } I h) fun f s1 q=>?_)
 cases f with
 | next =>
  obtain ⟨σ',H',I',q⟩:=q
  exact h2 pins s1 σ' H' D I' q
 | ret v=>exact q
 | brk=>exact q
 | cont=>exact q
theorem xad (h1:PS X st t):PSs X [st] t:=by
 intro pins s σ H D I h
 refine wpAny_execs_cons (thn (h1 pins s σ H D I h) fun f s1 q=>?_)
 cases f with
 | next=>exact wpAny_execs_nil q
 | ret v=>exact q
 | brk=>exact q
 | cont=>exact q
theorem Inv.quiet {pins:List (Addr×Obj)} {σ:St} {H:Hp} {s:Shared} (I:Inv X pins σ H s):interactive X.env=false:=by simp [interactive,I.ok.kind]
noncomputable def tDrop (te:TE):TS:=fun D σ H=>te σ H fun _ H1=>D.nx σ H1
theorem ya8 (he:PE X e te) (hs:swapsWith e none pos.line X.env=pure false:=by rfl):PS X (.Expr e pos) (tDrop te):=by
 intro pins s σ H D I h
 exact wpAny_Expr_any (thn (he pins s σ H _ I h) fun v s1 ⟨x,H1,I1,r1,q1⟩=>⟨σ,H1,I1,q1⟩) I.quiet hs
noncomputable def tRet (te:TE):TS:=fun D σ H=>te σ H D.rt
theorem xaj (he:PE X e te):PS X (.Return (some e) pos) (tRet te):=by
 intro pins s σ H D I h
 exact wpAny_Return_some (thn (he pins s σ H _ I h) fun v s1 ⟨x,H1,I1,r1,q1⟩=>⟨x,σ,H1,I1,r1,q1⟩)
noncomputable def tIfS (c:TT) (t u:TS):TS:=fun D σ H=>c σ H fun b H1=>if b=true then t D σ H1 else u D σ H1
theorem Yav {c:Expr} {a b:List Stmt} {tc:TT} (hc:PT X c tc) (ha:PSs X a t) (hb:PSs X b u):PS X (.If c a b pos) (tIfS tc t u):=by
 intro pins s σ H D I h
 refine wpAny_If (thn (hc pins s σ H _ I h) fun d s1 ⟨H1,I1,q1⟩=>?_)
 cases d with
 | true=>exact ha pins s1 σ H1 D I1 q1
 | false=>exact hb pins s1 σ H1 D I1 q1
end
abbrev TG:=V→St→Hp→(St→Hp→Prop)→Prop
abbrev TGs:=List V→St→Hp→(St→Hp→Prop)→Prop
noncomputable def PG (X:Cx) (target:Expr) (t:TG):Prop :=
 ∀ (pins:List (Addr×Obj)) (s:Shared) (σ:St) (H:Hp) (v:V) (u:Value) (Q:St→Hp→Prop),Inv X pins σ H s→RelV v u→t v σ H Q →
  wpAny (model X.prog X.w) X.A (assign target X.env u) (fun _ s'=>∃ σ' H',Inv X pins σ' H' s'∧Q σ' H') X.xe s
noncomputable def PGs (X:Cx) (ts:List Expr) (t:TGs):Prop :=
 ∀ (pins:List (Addr×Obj)) (s:Shared) (σ:St) (H:Hp) (vs:List V) (us:List Value) (Q:St→Hp→Prop),Inv X pins σ H s→Vals vs us→t vs σ H Q →
  wpAny (model X.prog X.w) X.A (assignInOrder ((assignEach ts X.env).map (·.2)) us) (fun _ s'=>∃ σ' H',Inv X pins σ' H' s'∧Q σ' H') X.xe s
abbrev TSet:=V→V→V→Hp→(Hp→Prop)→Prop
noncomputable def PSet (X:Cx) (t:TSet):Prop :=
 ∀ (pins:List (Addr×Obj)) (s:Shared) (σ:St) (H:Hp) (o i v:V) (ov iv u:Value) (Q:Hp→Prop),Inv X pins σ H s→RelV o ov→RelV i iv→RelV v u→t o i v H Q →
  wpAny (model X.prog X.w) X.A (setItem ov iv u) (fun _ s'=>∃ H',Inv X pins σ H' s'∧Q H') X.xe s
section
variable {X:Cx} {pos:Pos}
noncomputable def gName (i:Nat):TG:=fun v σ H Q=>Q (σ.set i (some v)) H
theorem Yaq {i:Nat} {x:Str} (hN:X.N.Nodup) (hi:X.N[i]?=some x) (hx:Loc X.env.scope x) (hf:X.fn x=true∨X.env.scope.names.lookup x=some .local:=by first | exact .inl rfl | exact .inr rfl | assumption):PG X (.Name x pos) (gName i):=by
 intro pins s σ H v u Q I r h
 exact wpAny_assign_Name (zav I hN hi hx r (fun s' I'=>⟨_,H,I',h⟩) hf)
noncomputable def gNil:TGs:=fun vs σ H Q=>vs=[]∧Q σ H
noncomputable def gCons (t:TG) (u:TGs):TGs:=fun vs σ H Q=>∃ v r,vs=v :: r∧t v σ H fun σ' H'=>u r σ' H' Q
theorem Za8:PGs X [] gNil:=by
 intro pins s σ H vs us Q I r h
 obtain ⟨e,h⟩:=h
 subst e
 cases r
 exact assignInOrder_nil ⟨σ,H,I,h⟩
theorem ZaA {e:Expr} {es:List Expr} {t:TG} {u:TGs} (h1:PG X e t) (h2:PGs X es u)
  (hs:(assignEach (e :: es) X.env).map (·.2)=assign e X.env :: (assignEach es X.env).map (·.2):=by rfl):PGs X (e :: es) (gCons t u):=by
 intro pins s σ H vs us Q I r h
 obtain ⟨v,vr,e1,h⟩:=h
 subst e1
 cases r with
 | cons r rr =>
  rw [hs]
  refine assignInOrder_cons (thn (h1 pins s σ H _ _ _ I r h) fun _ s1 ⟨σ1,H1,I1,q1⟩=>?_)
  exact h2 pins s1 σ1 H1 _ _ Q I1 rr q1
noncomputable def gTup (K:PySem.W.Frag) (n:Nat) (t:TGs):TG:=fun v σ H Q=>∃ a xs,v=.ref a∧SqT K H a xs∧xs.length=n∧t xs σ H Q
theorem pg_tup {es:List Expr} {k:Nat} {t:TGs} {n:Nat} (hc:X.calm=true) (h:PGs X es t)
  (hn:(assignEach es X.env).length=n:=by rfl) (hst:(assignEach es X.env).findIdx? (·.1)=none:=by rfl):PG X (.Tuple es k pos) (gTup X.K n t):=by
 intro pins s σ H v u Q I r hw
 obtain ⟨a,xs,e1,hq,hl,hw⟩:=hw
 subst e1
 cases r
 obtain ⟨its,rv,ht,hz⟩:=I.tuple hq
 refine assign_Tuple_tuple (I.ok.hd hc) ht (by simp [hn,← hl,rv.length]) hst fun h' hx=>?_
 have I1:Inv X pins σ H { s with heap:=h' }:=I.kept (t':=s.toks) fun b o e=>hx b o (Nat.ne_of_lt (Heap.lt_size e)) e
 exact h pins _ σ H xs _ Q I1 (by simpa using rv) hw
noncomputable def gSub (to ti:TE) (t:TSet):TG:=fun v σ H Q=>to σ H fun o H1=>ti σ H1 fun i H2=>t o i v H2 fun H3=>Q σ H3
theorem Ya4 {o i:Expr} {to ti:TE} {t:TSet} (ho:PE X o to) (hi:PE X i ti) (hs:PSet X t)
  (ha:∀ v,assign (.Subscript o i pos) X.env v=(do
   let ov ← holding [v] (eval o X.env)
   let iv ← holding [v,ov] (eval i X.env)
   standAt pos
   holding [v,ov,iv] (setItem ov iv v)
   release [v,ov,iv] []):=by intro _;rfl):PG X (.Subscript o i pos) (gSub to ti t):=by
 intro pins s σ H v u Q I r h
 rw [ha]
 refine wpAny_bind (wpAny_holding (thn (ho pins s σ H _ I h) fun ov s1 ⟨x,H1,I1,r1,q1⟩=>?_))
 refine wpAny_bind (wpAny_holding (thn (hi pins s1 σ H1 _ I1 q1) fun iv s2 ⟨y,H2,I2,r2,q2⟩=>?_))
 refine wpAny_bind (wpAny_standAt (wpAny_bind (wpAny_holding (thn (hs pins s2 σ H2 x y v ov iv u _ I2 r1 r2 r q2) fun _ s3 ⟨H3,I3,q3⟩=>?_))))
 exact wpAny_release ⟨σ,H3,I3,q3⟩
noncomputable def tAsg (te:TE) (g:TG):TS:=fun D σ H=>te σ H fun x H1=>g x σ H1 D.nx
theorem xa4 {tg e:Expr} {te:TE} {g:TG} (he:PE X e te) (hg:PG X tg g) (hs:swapsWithSole [tg] e pos.line X.env=pure false:=by rfl) (hw:swappedStores [tg] e X.env=pure none:=by rfl)
  (h1:(assignEach [tg] X.env).map (·.2)=[assign tg X.env]:=by rfl):PS X (.Assign [tg] e pos) (tAsg te g):=by
 intro pins s σ H D I h
 refine wpAny_Assign_stores (thn (he pins s σ H _ I h) fun v s1 ⟨x,H1,I1,r1,q1⟩=>?_) hs hw
 rw [h1]
 exact thn (hg pins s1 σ H1 x v _ I1 r1 q1) fun _ s2 q=>q
theorem xal {i:Nat} {x:Str} {e:Expr} {te:TE} {pos':Pos} (hN:X.N.Nodup) (hi:X.N[i]?=some x) (hx:Loc X.env.scope x) (he:PE X e te) (hs:swapsWith e (some (.Name x pos')) pos.line X.env=pure false:=by rfl) (hf:X.fn x=true∨X.env.scope.names.lookup x=some .local:=by first | exact .inl rfl | exact .inr rfl | assumption) :
  PS X (.Assign [.Name x pos'] e pos) (tAsg te (gName i)):=by
 intro pins s σ H D I h
 refine wpAny_Assign_Name (thn (he pins s σ H _ I h) fun v s1 ⟨y,H1,I1,r1,q1⟩=>?_) hs
 exact zav I1 hN hi hx r1 (fun s2 I2=>⟨_,H1,I2,q1⟩) hf
noncomputable def tPar (i j:Nat) (ta:TA):TS:=fun D σ H=>ta σ H fun vs H1=>∃ v w,vs=[v,w]∧D.nx ((σ.set i (some v)).set j (some w)) H1
theorem Xa4 {i j:Nat} {x y:Str} {a b:Expr} {ta:TA} {px py pt:Pos} {kt k2 pt2} (hc:X.calm=true) (hN:X.N.Nodup) (hi:X.N[i]?=some x) (hj:X.N[j]?=some y) (hij:i≠j)
  (hx:X.env.scope.names.lookup x=some .local) (hy:X.env.scope.names.lookup y=some .local) (ha:PA X [a,b] ta)
  (hw:swappedStores [.Tuple [.Name x px,.Name y py] kt pt] (.Tuple [a,b] k2 pt2) X.env=pure (some [x,y]))
  (hs:swapsWithSole [.Tuple [.Name x px,.Name y py] kt pt] (.Tuple [a,b] k2 pt2) pos.line X.env=pure false:=by rfl) :
  PS X (.Assign [.Tuple [.Name x px,.Name y py] kt pt] (.Tuple [a,b] k2 pt2) pos) (tPar i j ta):=by
 intro pins s σ H D I h
 rw [exec_Assign_arm]
 refine wpAny_bind (wpAny_standAt ?_)
 rw [hs]
 refine wpAny_bind (wpAny_pure ?_)
 rw [if_neg (by decide)]
 refine wpAny_bind (Tuple_ (thn (ha _ pins s σ H _ I h) fun us s1 ⟨vs,H1,I1,r1,q1⟩=>?_))
 obtain ⟨v,w,e1,q1⟩:=q1
 subst e1
 obtain ⟨u1,u2,rfl,rv,rw'⟩:∃ u1 u2,us=[u1,u2]∧RelV v u1∧RelV w u2:=by
  cases r1 with
  | cons p q =>
   cases q with
   | cons p' q' =>
    cases q'
    exact ⟨_,_,rfl,p,p'⟩
 refine wpAny_newObj_type ?_ (by show 2≤sizeLine;decide)
 have I2:Inv X pins σ H1 { s1 with heap:=s1.heap.push { cls:=.type "tuple",data:=.seq [u1,u2].toArray } }:=I1.kept (t':=s1.toks) fun b o e=>Heap.get?_push_of_some _ e
 rw [hw]
 refine wpAny_bind (wpAny_pure ?_)
 show wpAny (model X.prog X.w) X.A (do rule "assign.swapped-stores";let items ← unpackItems (.ref s1.heap.objs.size) 2 none;assignInOrder [fun v=>bindName X.env y v,fun v=>bindName X.env x v] items.reverse;pure Flow.next) _ _ _
 refine wpAny_bind (wpAny_rule (wpAny_bind (unpackItems_tuple (items:=#[u1,u2]) (I.ok.hd hc) (IsTup.new s1.heap _) fun h' hx'=>?_)))
 have I3:=I2.kept (h':=h') (t':=s1.toks) fun b o e=>hx' b o (Nat.ne_of_lt (Heap.lt_size e)) e
 show wpAny _ _ (assignInOrder [fun v=>bindName X.env y v,fun v=>bindName X.env x v] [u2,u1] >>= fun _=>pure Flow.next) _ _ _
 refine wpAny_bind (assignInOrder_cons (wpAny_bindName (zav I3 hN hj (.inl hy) rw' (fun s2 I4=>?_) (.inr hy))))
 refine assignInOrder_cons (wpAny_bindName (zav I4 hN hi (.inl hx) rv (fun s3 I5=>assignInOrder_nil (wpAny_pure ?_)) (.inr hx)))
 rw [List.set_comm _ _ (Ne.symm hij)] at I5
 exact ⟨_,H1,I5,q1⟩
end
section
variable {X:Cx} {pos:Pos}
end
set_option genInjectivity false in
structure It where
 go:Nat→Hp→Prop
 yld:Nat→Hp→V→Hp→Prop
 stop:Nat→Hp→Prop
noncomputable def FpOk (X:Cx) (pins:List (Addr×Obj)) (H:Hp) (b:Addr):Prop :=
 H b=none∧b≠X.env.locals∧b ∉ X.fs∧(b∈X.ex∨X.s₀.heap.objs.size≤b)∧(∀ x c,X.env.cells.lookup x=some c→c≠b)∧∀ p∈X.pn ++ pins,p.1≠b
theorem Inv.fpOk {X:Cx} {pins:List (Addr×Obj)} {σ:St} {H H':Hp} {s:Shared} {b:Addr} (I:Inv X pins σ H s) (hb:s.heap.objs.size≤b) (hn:H' b=none):FpOk X pins H' b:=by
 refine ⟨hn,Nat.ne_of_gt (Nat.lt_of_lt_of_le I.lt hb),I.nofs hb,.inr (Nat.le_trans I.sz hb),fun x c e z=>?_,fun p hp z=>?_⟩
 ·obtain ⟨v,q⟩:=I.cell x c e
  exact absurd (Nat.lt_of_lt_of_le q.lt (by rw [z];exact hb)) (Nat.lt_irrefl _)
 ·exact absurd (Nat.lt_of_lt_of_le (Heap.lt_size (I.pin p hp).1) (by rw [z];exact hb)) (Nat.lt_irrefl _)
structure Turn (P:Program) (w:World) (K:PySem.W.Frag) (tg:Expr) (J:It) (fp:List Addr) (it:Addr) (tn:Nat→Heap→Prop):Prop where
 mem:it∈fp
 obj:∀ i h,tn i h→∀ b∈fp,∃ o,h.get? b=some o∧∀ v,o.data≠.cell v
 keep:∀ i h h',tn i h→(∀ b∈fp,∀ o,h.get? b=some o→h'.get? b=some o)→tn i h'
 item:∀ (X:Cx),X.prog=P→X.w=w→X.K=K→X.calm=true→∀ (i:Nat) (pins:List (Addr×Obj)) (s:Shared) (σ:St) (H:Hp) (E:Value→Shared→Prop),Inv X pins σ H s→(∀ b∈fp,FpOk X pins H b)→tn i s.heap→J.go i H →
  wpAny (model P w) X.A (pyNext (.ref it)) (fun r s1=>∃ u,r=some u ∧
   wpAny (model P w) X.A (letOwnedTupleGo tg (.ref it) u) (fun _ s2=>∃ x H',Inv X pins σ H' s2∧RelV x u∧J.yld i H x H'∧tn (i + 1) s2.heap∧∀ b∈fp,H' b=none) E s1) E s
 done:∀ (X:Cx),X.prog=P→X.w=w→X.K=K→X.calm=true→∀ (i:Nat) (pins:List (Addr×Obj)) (s:Shared) (σ:St) (H:Hp) (E:Value→Shared→Prop),Inv X pins σ H s→(∀ b∈fp,FpOk X pins H b)→tn i s.heap→J.stop i H →
  wpAny (model P w) X.A (pyNext (.ref it)) (fun r s1=>r=none∧Inv X pins σ H s1) E s
 self:∀ (A:Around) (i:Nat) (s:Shared) (Q:Value→Shared→Prop) (E:Value→Shared→Prop),tn i s.heap→Q (.ref it) s→wpAny (model P w) A (pyIter (.ref it)) Q E s
abbrev TI:=St→Hp→(It→Hp→Prop)→Prop
noncomputable def PIE (X:Cx) (pins:List (Addr×Obj)) (σ:St) (tg:Expr) (R:It→Hp→Prop) (itv:Value) (s2:Shared):Prop :=
 ∃ (it:Addr) (fp:List Addr) (tn:Nat→Heap→Prop) (J:It) (H':Hp),itv=.ref it∧Inv X pins σ H' s2∧Turn X.prog X.w X.K tg J fp it tn∧tn 0 s2.heap∧(∀ b∈fp,FpOk X pins H' b)∧R J H'
noncomputable def PI (X:Cx) (tg iter:Expr) (wi:TI):Prop :=
 ∀ (pins:List (Addr×Obj)) (s:Shared) (σ:St) (H:Hp) (R:It→Hp→Prop),Inv X pins σ H s→wi σ H R →
  wpAny (model X.prog X.w) X.A (eval iter X.env) (fun v s1=>wpAny (model X.prog X.w) X.A (pyIter v) (PIE X pins σ tg R) X.xe s1) X.xe s
theorem go_of {M:Model} {A:Around} {E:Value→Shared→Prop} {s:Shared} {tg:Expr} {it:Addr} {u:Value} {o:Obj} {n:String} {vs:Array Value} {Q:Unit→Shared→Prop} (ho:s.heap.get? it=some o) (hc:o.cls=.type n) (hd:o.data=.fields vs)
  (hn:["enumerate","zip","dict_itemiterator","dict_reverseitemiterator","odict_iterator","itertools.zip_longest","itertools.pairwise"].contains n=false) (hQ:Q () s):wpAny M A (letOwnedTupleGo tg (.ref it) u) Q E s:=by
 unfold letOwnedTupleGo
 cases tg <;> first
  | exact wpAny_pure hQ
  | (cases u <;> first
    | exact wpAny_pure hQ
    | (refine wpAny_bind (wpAny_load ho ?_)
       rw [hc,hd]
       show wpAny M A (if (["enumerate","zip","dict_itemiterator","dict_reverseitemiterator","odict_iterator","itertools.zip_longest","itertools.pairwise"].contains n && vs[0]? == some (rawInt _))=true then _ else _) Q E s
       rw [if_neg (by intro h;rw [hn,Bool.false_and] at h;cases h)]
       exact wpAny_pure hQ))
noncomputable def Itl (K:PySem.W.Frag) (a:Addr):It :=
 ⟨fun i H=>∃ xs x,SqL K H a xs∧xs[i]?=some x,fun i H x H'=>H'=H∧∀ xs,SqL K H a xs→xs[i]?=some x,fun i H=>∃ xs,SqL K H a xs∧xs.length≤i⟩
noncomputable def Itr (lo:Int) (n:Nat):It:=⟨fun i _=>i < n,fun i H x H'=>H'=H∧x=.int (lo + i),fun i _=>n≤i⟩
theorem yaO {P:Program} {w:World} {K:PySem.W.Frag} {tg:Expr} (a it:Addr):Turn P w K tg (Itl K a) [it] it (fun i h=>h.IsListIter it a i) where
 mem:=by simp
 obj:=fun i h st b hb=>by
  have e:b=it:=by simpa using hb
  subst e
  obtain ⟨o,e,c,d⟩:=st
  exact ⟨o,e,fun v z=>by rw [d] at z;cases z⟩
 keep:=fun i h h' st k=>st.at fun o e=>k it (by simp) o e
 item:=by
  intro X hP hw hK hc i pins s σ H E I hf st hg
  subst hP hw hK
  obtain ⟨xs,x,hq,hx⟩:=hg
  obtain ⟨its,rv,p,hz⟩:=I.list hq
  obtain ⟨u,hu,ru⟩:=rv.get hx
  obtain ⟨f0,f1,f2,f3,f4,f5⟩:=hf it (by simp)
  refine wpAny_pyNext_list_item st p.isList (x:=u) (by simpa using hu) fun h' st' sb=>?_
  have I1:Inv X pins σ H { s with heap:=h' }:=I.turned (t':=s.toks) (fun b o hb e=>(sb.2 b hb).trans e) f0 f1 f3 f4 f5
  obtain ⟨o,e,c,d⟩:=id st'
  exact ⟨u,rfl,go_of (s:={ s with heap:=h' }) e c d (by decide) ⟨x,H,I1,ru,⟨rfl,fun ys hy=>by rw [I.list_inj hy hq];exact hx⟩,st',fun b hb=>(hf b hb).1⟩⟩
 done:=by
  intro X hP hw hK hc i pins s σ H E I hf st hg
  subst hP hw hK
  obtain ⟨xs,hq,hx⟩:=hg
  obtain ⟨its,rv,p,hz⟩:=I.list hq
  obtain ⟨f0,f1,f2,f3,f4,f5⟩:=hf it (by simp)
  have hl:=rv.length
  exact wpAny_pyNext_list_end (I.ok.hd hc) st p.isList (by simp;omega) fun h' eb=>⟨rfl,I.turned (t':=s.toks) (fun b o hb e=>eb b o hb e) f0 f1 f3 f4 f5⟩
 self:=fun _ _ _ _ _ st h=>wpAny_pyIter_listiter st h
theorem XaK {P:Program} {w:World} {K:PySem.W.Frag} {tg:Expr} (it:Addr) (lo:Int) (n:Nat):Turn P w K tg (Itr lo n) [it] it (fun i h=>IsRangeIter h it (lo + (i:Nat) * 1) ((n:Int) - (i:Nat)) 1) where
 mem:=by simp
 obj:=fun i h st b hb=>by
  have e:b=it:=by simpa using hb
  subst e
  exact ⟨_,st,fun v z=>by
   have z':Data.fields _=Data.cell v:=z
   cases z'⟩
 keep:=fun i h h' st k=>k it (by simp) _ st
 item:=by
  intro X hP hw hK hc i pins s σ H E I hf st hg
  subst hP hw hK
  obtain ⟨f0,f1,f2,f3,f4,f5⟩:=hf it (by simp)
  have W:=Walks.range (prog:=X.prog) (w:=X.w) (I.ok.hd hc) it lo 1 n
  refine W.item i s _ _ hg st fun v h' tk hv st' kk=>?_
  obtain ⟨t,rfl⟩:=hv
  have I1:Inv X pins σ H { s with heap:=h',toks:=tk }:=I.turned (fun b o hb e=>kk b o (by simpa using hb) e) f0 f1 f3 f4 f5
  refine ⟨_,rfl,go_of (s:={ s with heap:=h',toks:=tk }) (n:="range_iterator") st' rfl rfl (by decide) ⟨.int (lo + i),H,I1,⟨t,?_⟩,⟨rfl,rfl⟩,st',fun b hb=>(hf b hb).1⟩⟩
  rw [Int.mul_one]
 done:=by
  intro X hP hw hK hc i pins s σ H E I hf st hg
  subst hP hw hK
  obtain ⟨f0,f1,f2,f3,f4,f5⟩:=hf it (by simp)
  exact wpAny_pyNext_range_end (I.ok.hd hc) st (by have:n≤i:=hg;omega) fun h' eb=>⟨rfl,I.turned (t':=s.toks) (fun b o hb e=>eb b o hb e) f0 f1 f3 f4 f5⟩
 self:=fun _ _ _ _ _ st h=>wpAny_pyIter_rangeiter st h
end L2
namespace L2
open PySem PySem.Spec PyProof.Rows
section
variable {X:Cx} {tg:Expr}
noncomputable def iList (K:PySem.W.Frag) (tl:TE):TI:=fun σ H R=>tl σ H fun x H1=>∃ a,x=.ref a∧(∃ xs,SqL K H1 a xs)∧R (Itl K a) H1
theorem Ya8 {l:Expr} {tl:TE} (hl:PE X l tl):PI X tg l (iList X.K tl):=by
 intro pins s σ H R I h
 refine thn (hl pins s σ H _ I h) fun v s1 ⟨x,H1,I1,r1,q1⟩=>?_
 obtain ⟨a,e,⟨xs,hq⟩,q⟩:=q1
 subst e
 cases r1
 obtain ⟨its,rv,p,hz⟩:=I1.list hq
 refine wpAny_pyIter_list p.isList ?_
 refine ⟨s1.heap.objs.size,[s1.heap.objs.size],_,_,H1,rfl,I1.kept (t':=s1.toks) fun b o e=>Heap.get?_push_of_some _ e,yaO a _,⟨_,Heap.get?_push_size _ rfl,rfl,rfl⟩,fun b hb=>?_,q⟩
 have e:b=s1.heap.objs.size:=by simpa using hb
 subst e
 exact I1.fpOk (Nat.le_refl _) (I1.hok.fresh (Nat.le_refl _))
theorem XaX {pins:List (Addr×Obj)} {σ:St} {H:Hp} {s:Shared} {R:It→Hp→Prop} {E:Value→Shared→Prop} {lo hi:Int} {t u v:Tok} {tk:Nat} (I:Inv X pins σ H s) (h1:-(2 ^ 62)≤lo) (h2:lo < 2 ^ 62) (h3:-(2 ^ 62)≤hi) (h4:hi < 2 ^ 62)
  (q:R (Itr lo (hi - lo).toNat) H):wpAny (model X.prog X.w) X.A (pyIter (.ref s.heap.objs.size)) (PIE X pins σ tg R) E { s with heap:=s.heap.push { cls:=.type "range",data:=.fields #[.int lo t,.int hi u,.int 1 v] },toks:=tk }:=by
 refine wpAny_pyIter_range (IsRange.new ..) (small_one h1 h2 h3 h4) ?_
 have I1:Inv X pins σ H { s with heap:=s.heap.push { cls:=.type "range",data:=.fields #[.int lo t,.int hi u,.int 1 v] },toks:=tk }:=I.kept fun b o e=>Heap.get?_push_of_some _ e
 refine ⟨(s.heap.push { cls:=.type "range",data:=.fields #[.int lo t,.int hi u,.int 1 v] }).objs.size,[(s.heap.push { cls:=.type "range",data:=.fields #[.int lo t,.int hi u,.int 1 v] }).objs.size],_,_,H,rfl,
  I1.kept (t':=tk) fun b o e=>Heap.get?_push_of_some _ e,XaK _ lo (hi - lo).toNat,?_,fun b hb=>?_,q⟩
 ·have e1:lo + ((0:Nat):Int) * 1=lo:=by simp
  have e2:(((hi - lo).toNat:Nat):Int) - ((0:Nat):Int)=Builtin.Range.rangeSize lo hi 1:=by rw [rangeSize_one];split <;> omega
  show IsRangeIter _ _ (lo + ((0:Nat):Int) * 1) ((((hi - lo).toNat:Nat):Int) - ((0:Nat):Int)) 1
  rw [e1,e2]
  exact Heap.get?_push_size _ rfl
 ·have e:b=(s.heap.push { cls:=.type "range",data:=.fields #[.int lo t,.int hi u,.int 1 v] }).objs.size:=by simpa using hb
  subst e
  exact I1.fpOk (Nat.le_refl _) (I1.hok.fresh (Nat.le_refl _))
noncomputable def iRng1 (ta:TA):TI:=fun σ H R=>ta σ H fun vs H1=>∃ j:Int,vs=[.int j]∧-(2 ^ 62)≤j∧j < 2 ^ 62∧R (Itr 0 j.toNat) H1
theorem yar {a:Expr} {ta:TA} {p pos:Pos} (hg:Gl X "range") (hm:X.mg "range" = none) (ha:PA X [a] ta) (hs:starEach [a] X.env=[(false,eval a X.env)]:=by rfl):PI X tg (.Call (.Name "range" p) [a] [] pos) (iRng1 ta):=by
 intro pins s σ H R I h
 refine Call_ (zaO I hg hm boot_range (PyProof.Rows.callWith_type1 (thn (ha pos pins s σ H _ I h) fun us s1 ⟨vs,H1,I1,r1,q1⟩=>?_) hs rfl))
 obtain ⟨j,e,q1,q2,q⟩:=q1
 subst e
 cases r1 with
 | cons r rr =>
  cases rr
  obtain ⟨t,rfl⟩:=r
  exact call_range_1 (XaX I1 (by omega) (by omega) q1 q2 (by simpa using q))
noncomputable def tFor (wi:TI) (g:TG) (tb:TS):TS:=fun D σ H=>wi σ H fun J H1=>∃ W:Nat→Nat→St→Hp→Prop,(∃ m,W 0 m σ H1)∧∀ i m σ H,W i m σ H →
 (J.stop i H∧D.nx σ H)∨(J.go i H∧∃ N:St→Hp→Prop,(∀ σ' H',N σ' H'→∃ m',m' < m∧W (i + 1) m' σ' H')∧∀ x H',J.yld i H x H'→g x σ H' fun σ2 H2=>tb { D with nx:=N,ct:=N,bk:=D.nx } σ2 H2)
noncomputable def pinsAt (fp:List Addr) (h:Heap):List (Addr×Obj):=fp.filterMap fun b=>(h.get? b).map fun o=>(b,o)
theorem Xap {fp:List Addr} {h:Heap} {b:Addr} {o:Obj} (hb:b∈fp) (e:h.get? b=some o):(b,o)∈pinsAt fp h:=List.mem_filterMap.mpr ⟨b,hb,by rw [e];rfl⟩
theorem ZaO {fp:List Addr} {h:Heap} {p:Addr×Obj} (hp:p∈pinsAt fp h):p.1∈fp∧h.get? p.1=some p.2:=by
 obtain ⟨b,hb,e⟩:=List.mem_filterMap.mp hp
 cases q:h.get? b with
 | none=>rw [q] at e;cases e
 | some o =>
  rw [q] at e
  have e':(b,o)=p:=Option.some.inj e
  subst e'
  exact ⟨hb,q⟩
theorem Inv.pinned {pins:List (Addr×Obj)} {σ:St} {H:Hp} {s:Shared} {fp:List Addr} (I:Inv X pins σ H s) (hf:∀ b∈fp,FpOk X pins H b) (ho:∀ b∈fp,∃ o,s.heap.get? b=some o∧∀ v,o.data≠.cell v):Inv X (pins ++ pinsAt fp s.heap) σ H s :=
 I.pins_of fun p hp=>(List.mem_append.mp hp).elim (fun z=>I.pin p (List.mem_append_right _ z)) fun z=>by
  obtain ⟨hb,e⟩:=ZaO z
  obtain ⟨f0,f1,f2,_⟩:=hf p.1 hb
  obtain ⟨o,e',d⟩:=ho p.1 hb
  rw [e] at e';cases e'
  exact ⟨e,f0,f1,f2,d⟩
theorem Inv.unpinned {pins pl:List (Addr×Obj)} {σ:St} {H:Hp} {s:Shared} (I:Inv X (pins ++ pl) σ H s):Inv X pins σ H s:=I.pins_of fun p hp=>I.pin p (List.mem_append_right _ (List.mem_append_left _ hp))
theorem za5 {iter:Expr} {body:List Stmt} {wi:TI} {g:TG} {tb:TS} {pos:Pos} (hp:PassesOwn (model X.prog X.w) X.A X.env X.xe) (hc:X.calm=true) (hi:PI X tg iter wi) (hg:PG X tg g) (hb:PSs X body tb)
  (hs:∀ x,foldedSetIterable iter X.env x=pure x:=by intro _;rfl):PS X (.For tg iter body [] pos) (tFor wi g tb):=by
 intro pins s σ H D I h
 refine wpAny_For (thn (hi pins s σ H _ I h) fun v s1 h1=>thn h1 fun itv s2 h2=>?_) hs
 obtain ⟨it,fp,tn,J,H2,e,I2,T,st2,f2,W,⟨m0,w0⟩,turn⟩:=h2
 subst e
 have stat:∀ {H':Hp},(∀ b∈fp,H' b=none)→∀ b∈fp,FpOk X pins H' b:=fun hn b hb=>⟨hn b hb,(f2 b hb).2⟩
 refine codeAny_forLoop_any (fun n s'=>∃ i σ' H',Inv X pins σ' H' s'∧tn i s'.heap∧(∀ b∈fp,H' b=none)∧W i n σ' H') ?_ m0 ⟨0,σ,H2,I2,st2,fun b hb=>(f2 b hb).1,w0⟩
 rintro n s3 ⟨i,σ3,H3,I3,st3,fr3,w3⟩
 rcases turn i n σ3 H3 w3 with ⟨stop,qn⟩ | ⟨go,N,hN,step⟩
 ·refine wpAny_passesOwn hp (thn (T.done X rfl rfl rfl hc i pins s3 σ3 H3 X.xe I3 (stat fr3) st3 stop) fun r s4 ⟨hr,I4⟩=>?_)
  subst hr
  exact wpAny_execs_nil ⟨σ3,H3,I4,qn⟩
 ·refine wpAny_passesOwn hp (thn (T.item X rfl rfl rfl hc i pins s3 σ3 H3 X.xe I3 (stat fr3) st3 go) fun r s4 ⟨u,hr,h4⟩=>?_)
  subst hr
  refine wpAny_passesOwn hp (thn h4 fun _ s5 ⟨x,H5,I5,r5,y5,st5,fr5⟩=>?_)
  have I5':=I5.pinned (stat fr5) (T.obj _ _ st5)
  refine wpAny_passesOwn hp (thn (hg _ s5 σ3 H5 x u _ I5' r5 (step x H5 y5)) fun _ s6 ⟨σ6,H6,I6,q6⟩=>?_)
  refine wpAny_passesOwn hp (thn (hb _ s6 σ6 H6 _ I6 q6) fun f s7 q7=>?_)
  have again:∀ {σ7:St} {H7:Hp},Inv X (pins ++ pinsAt fp s5.heap) σ7 H7 s7→N σ7 H7→∃ m,m < n∧∃ i σ' H',Inv X pins σ' H' s7∧tn i s7.heap∧(∀ b∈fp,H' b=none)∧W i m σ' H':=fun {σ7 H7} I7 n7=>by
   obtain ⟨m',hm,w7⟩:=hN σ7 H7 n7
   refine ⟨m',hm,i + 1,σ7,H7,I7.unpinned,T.keep _ _ _ st5 fun b hb o e=>(I7.pin (b,o) (List.mem_append_right _ (List.mem_append_right _ (Xap hb e)))).1,fun b hb=>?_,w7⟩
   obtain ⟨o,e,d⟩:=T.obj _ _ st5 b hb
   exact (I7.pin (b,o) (List.mem_append_right _ (List.mem_append_right _ (Xap hb e)))).2.1
  cases f with
  | next=>obtain ⟨σ7,H7,I7,n7⟩:=q7;exact again I7 n7
  | cont=>obtain ⟨σ7,H7,I7,n7⟩:=q7;exact again I7 n7
  | brk=>obtain ⟨σ7,H7,I7,q7⟩:=q7;exact ⟨σ7,H7,I7.unpinned,q7⟩
  | ret v=>obtain ⟨x7,σ7,H7,I7,r7,q7⟩:=q7;exact ⟨x7,σ7,H7,I7.unpinned,r7,q7⟩
end
end L2
namespace L2
open PySem PySem.Spec PyProof.Rows
abbrev R2:=V→V→Hp→VK→Prop
noncomputable def OpR (X:Cx) (f:Value→Value→Sem Value) (r:R2):Prop :=
 ∀ (pins:List (Addr×Obj)) (s:Shared) (σ:St) (H:Hp) (x y:V) (v u:Value) (Q:VK),Inv X pins σ H s→RelV x v→RelV y u→r x y H Q →
  wpAny (model X.prog X.w) X.A (f v u) (EP X pins σ Q) X.xe s
noncomputable def CallR (X:Cx) (f:Value) (r:List V→Hp→VK→Prop):Prop :=
 ∀ (pins:List (Addr×Obj)) (s:Shared) (σ:St) (H:Hp) (xs:List V) (us:List Value) (Q:VK),Inv X pins σ H s→Vals xs us→r xs H Q →
  wpAny (model X.prog X.w) X.A (call f us) (EP X pins σ Q) X.xe s
noncomputable def tOp (r:R2) (ta tb:TE):TE:=fun σ H Q=>ta σ H fun x H1=>tb σ H1 fun y H2=>r x y H2 Q
noncomputable def rI (C:Int→Int→Prop) (g:Int→Int→V):R2:=fun x y H Q=>∃ i j,x=.int i∧y=.int j∧C i j∧Q (g i j) H
noncomputable def rI0 (g:Int→Int→V):R2:=fun x y H Q=>∃ i j,x=.int i∧y=.int j∧Q (g i j) H
section
variable {X:Cx} {a b c:Expr} {ta tb tc:TE} {pos:Pos}
theorem binT (ha:PE X a ta) (hb:PE X b tb) {pins:List (Addr×Obj)} {s:Shared} {σ:St} {H:Hp} {R:V→V→Hp→Prop} (I:Inv X pins σ H s)
  (h:ta σ H fun x H1=>tb σ H1 fun y H2=>R x y H2) {Q:Value→Shared→Prop} {f:Value→Value→Sem Value}
  (hf:∀ v u s2 x y H2,Inv X pins σ H2 s2→RelV x v→RelV y u→R x y H2→wpAny (model X.prog X.w) X.A (f v u) Q X.xe s2) :
  wpAny (model X.prog X.w) X.A (eval a X.env) (fun v s₁=>wpAny (model X.prog X.w) X.A (eval b X.env) (fun u s₂=>wpAny (model X.prog X.w) X.A (f v u) Q X.xe s₂) X.xe s₁) X.xe s:=by
 refine thn (ha pins s σ H _ I h) fun v s1 ⟨x,H1,I1,r1,q1⟩=>?_
 refine thn (hb pins s1 σ H1 _ I1 q1) fun u s2 ⟨y,H2,I2,r2,q2⟩=>?_
 exact hf v u s2 x y H2 I2 r1 r2 q2
theorem Zaf {op:Operator} {r:R2} (ho:OpR X (binaryOp op) r) (ha:PE X a ta) (hb:PE X b tb):PE X (.BinOp a op b pos) (tOp r ta tb):=by
 intro pins s σ H Q I h
 exact wpAny_BinOp (binT ha hb I h fun v u s2 x y H2 I2 rx ry q=>ho pins s2 σ H2 x y v u Q I2 rx ry q)
theorem opI {f:Value→Value→Sem Value} {C:Int→Int→Prop} {g:Int→Int→Int}
  (rule:∀ (i j:Int) (t u:Tok) (s:Shared) (Q:Value→Shared→Prop) (E:Value→Shared→Prop),C i j→Q (.int (g i j) s.toks) { s with toks:=s.toks + 1 }→wpAny (model X.prog X.w) X.A (f (.int i t) (.int j u)) Q E s) :
  OpR X f (rI C fun i j=>.int (g i j)):=by
 intro pins s σ H x y v u Q I rx ry h
 obtain ⟨i,j,rfl,rfl,hc,q⟩:=h
 obtain ⟨t,rfl⟩:=rx
 obtain ⟨t',rfl⟩:=ry
 exact rule i j t t' s _ _ hc ⟨.int (g i j),H,I.tok _,⟨_,rfl⟩,q⟩
theorem opI0 {f:Value→Value→Sem Value} {g:Int→Int→Int}
  (rule:∀ (i j:Int) (t u:Tok) (s:Shared) (Q:Value→Shared→Prop) (E:Value→Shared→Prop),Q (.int (g i j) s.toks) { s with toks:=s.toks + 1 }→wpAny (model X.prog X.w) X.A (f (.int i t) (.int j u)) Q E s) :
  OpR X f (rI0 fun i j=>.int (g i j)):=by
 intro pins s σ H x y v u Q I rx ry h
 obtain ⟨i,j,rfl,rfl,q⟩:=h
 obtain ⟨t,rfl⟩:=rx
 obtain ⟨t',rfl⟩:=ry
 exact rule i j t t' s _ _ ⟨.int (g i j),H,I.tok _,⟨_,rfl⟩,q⟩
theorem opB0 {f:Value→Value→Sem Value} {g:Int→Int→Bool}
  (rule:∀ (i j:Int) (t u:Tok) (s:Shared) (Q:Value→Shared→Prop) (E:Value→Shared→Prop),Q (.bool (g i j)) s→wpAny (model X.prog X.w) X.A (f (.int i t) (.int j u)) Q E s) :
  OpR X f (rI0 fun i j=>.bl (g i j)):=by
 intro pins s σ H x y v u Q I rx ry h
 obtain ⟨i,j,rfl,rfl,q⟩:=h
 obtain ⟨t,rfl⟩:=rx
 obtain ⟨t',rfl⟩:=ry
 exact rule i j t t' s _ _ ⟨.bl (g i j),H,I,rfl,q⟩
noncomputable def CDiv (i j:Int):Prop:=0 < j∧j < 1073741824
noncomputable def CPow (i j:Int):Prop:=0≤j∧j≤1000000∧i.natAbs < 2 ^ 64
noncomputable def CMul (i j:Int):Prop:=(-(2 ^ 64) < i∧i < 2 ^ 64)∨(-(2 ^ 64) < j∧j < 2 ^ 64)
theorem CMul.ok {i j:Int} (h:CMul i j):IntMulOk i j:=by
 rcases h with ⟨h1,h2⟩ | ⟨h1,h2⟩
 ·exact .of_left (intBits_le_64 h1 h2)
 ·exact .of_right (intBits_le_64 h1 h2)
theorem zat:OpR X (binaryOp .Add) (rI0 fun i j=>.int (i + j)):=opI0 fun _ _ _ _ _ _ _ q=>add_int q
theorem YaO:OpR X (binaryOp .Sub) (rI0 fun i j=>.int (i - j)):=opI0 fun _ _ _ _ _ _ _ q=>sub_int q
theorem yat:OpR X (binaryOp .Mult) (rI CMul fun i j=>.int (i * j)):=opI fun _ _ _ _ _ _ _ hc q=>mul_int q hc.ok
theorem xaO:OpR X (binaryOp .FloorDiv) (rI CDiv fun i j=>.int (i / j)):=opI fun i j _ _ _ _ _ hc q=>by
 have h1:(0:Int) < j:=hc.1
 have h2:j < 1073741824:=hc.2
 exact floordiv_int (by omega) (by rw [Int.fdiv_eq_ediv_of_nonneg i (by omega)];exact q) (.inl (PyProof.noPylong_small (by omega)))
theorem Zat:OpR X (binaryOp .Mod) (rI (fun _ j=>0 < j) fun i j=>.int (i % j)):=opI fun i j _ _ _ _ _ hc q=>by
 have h1:(0:Int) < j:=hc
 exact mod_int' (by omega) (by rw [Int.fmod_eq_emod_of_nonneg i (by omega)];exact q)
theorem XaO:OpR X (binaryOp .Pow) (rI CPow fun i j=>.int (i ^ j.toNat)):=opI fun _ _ _ _ _ _ _ hc q=>pow_int_small hc.1 hc.2.1 hc.2.2 q
end
noncomputable def scal:V→V→Bool
 | .non,.non=>true | .non,.int _=>true | .int _,.non=>true | .non,.bl _=>true | .bl _,.non=>true | .non,.str _=>true | .str _,.non=>true
 | .int _,.int _=>true | .bl _,.bl _=>true | .str _,.str _=>true | .byt _,.byt _=>true
 | .int _,.str _=>true | .str _,.int _=>true | .bl _,.str _=>true | .str _,.bl _=>true
 | _,_=>false
noncomputable def rEq:R2:=fun x y H Q=>scal x y=true∧Q (.bl (decide (x=y))) H
theorem xa8 {i j:Int}:decide (V.int i=V.int j)=(i == j):=by
 rw [Bool.eq_iff_iff]
 simp
theorem dec_bl {i j:Bool}:decide (V.bl i=V.bl j)=(i == j):=by
 rw [Bool.eq_iff_iff]
 simp
theorem Xa8 {i j:Str}:decide (V.str i=V.str j)=(i == j):=by
 rw [Bool.eq_iff_iff]
 simp
theorem za9 {i j:Array UInt8}:decide (V.byt i=V.byt j)=(i.toList == j.toList):=by
 rw [Bool.eq_iff_iff]
 cases i
 cases j
 simp
section
variable {X:Cx} {a b c:Expr} {ta tb tc:TE} {pos:Pos}
theorem zal {pins:List (Addr×Obj)} {σ:St} {H:Hp} {s:Shared} {Q:VK} {k k':Bool} (I:Inv X pins σ H s) (q:Q (.bl k) H) (e:k=k'):EP X pins σ Q (.bool k') s:=by
 subst e
 exact ⟨.bl k,H,I,rfl,q⟩
theorem op_eq:OpR X (compareOp .Eq) rEq:=by
 intro pins s σ H x y v u Q I rx ry h
 obtain ⟨hs,q⟩:=h
 cases x with
 | non =>
  cases rx
  cases y with
  | non=>cases ry;exact PySem.EqNone.eq_none_none (zal I q (by simp))
  | bl j=>cases ry;exact PySem.EqNone.eq_none_bool (zal I q (by simp))
  | int j=>obtain ⟨t',rfl⟩:=ry;exact PySem.EqNone.eq_none_int (zal I q (by simp))
  | str j=>obtain ⟨t',rfl⟩:=ry;exact PySem.EqNone.eq_none_str (zal I q (by simp))
  | _=>exact absurd (show false=true from hs) Bool.false_ne_true
 | bl i =>
  cases rx
  cases y with
  | non=>cases ry;exact PySem.EqNone.eq_bool_none (zal I q (by simp))
  | bl j=>cases ry;exact eq_bool (zal I q dec_bl)
  | str j=>obtain ⟨t',rfl⟩:=ry;exact PySem.EqMixed.eq_bool_str (zal I q (by simp))
  | _=>exact absurd (show false=true from hs) Bool.false_ne_true
 | int i =>
  obtain ⟨t,rfl⟩:=rx
  cases y with
  | non=>cases ry;exact PySem.EqNone.eq_int_none (zal I q (by simp))
  | int j=>obtain ⟨t',rfl⟩:=ry;exact eq_int (zal I q xa8)
  | str j=>obtain ⟨t',rfl⟩:=ry;exact PySem.EqMixed.eq_int_str (zal I q (by simp))
  | _=>exact absurd (show false=true from hs) Bool.false_ne_true
 | str i =>
  obtain ⟨t,rfl⟩:=rx
  cases y with
  | non=>cases ry;exact PySem.EqNone.eq_str_none (zal I q (by simp))
  | bl j=>cases ry;exact PySem.EqMixed.eq_str_bool (zal I q (by simp))
  | int j=>obtain ⟨t',rfl⟩:=ry;exact PySem.EqMixed.eq_str_int (zal I q (by simp))
  | str j=>obtain ⟨t',rfl⟩:=ry;exact eq_str (zal I q Xa8)
  | _=>exact absurd (show false=true from hs) Bool.false_ne_true
 | byt i =>
  obtain ⟨t,rfl⟩:=rx
  cases y with
  | byt j=>obtain ⟨t',rfl⟩:=ry;exact PySem.W.eq_bytes (zal I q za9)
  | _=>exact absurd (show false=true from hs) Bool.false_ne_true
 | _=>cases y <;> exact absurd (show false=true from hs) Bool.false_ne_true
theorem ya9:OpR X (compareOp .Lt) (rI0 fun i j=>.bl (decide (i < j))):=opB0 fun _ _ _ _ _ _ _ q=>lt_int q
theorem op_gt:OpR X (compareOp .Gt) (rI0 fun i j=>.bl (decide (j < i))):=opB0 fun _ _ _ _ _ _ _ q=>gt_int q
theorem op_ge:OpR X (compareOp .GtE) (rI0 fun i j=>.bl (decide (j≤i))):=opB0 fun _ _ _ _ _ _ _ q=>ge_int q
theorem nomark (b:Expr) {op:CmpOp} (h:op≠.In:=by decide) (h2:op≠.NotIn:=by decide):behindInMarks op b=false:=by
 have e1:(op == CmpOp.In)=false:=by cases op <;> first | rfl | exact absurd rfl h
 have e2:(op == CmpOp.NotIn)=false:=by cases op <;> first | rfl | exact absurd rfl h2
 cases b <;> simp [behindInMarks,e1,e2]
theorem zaP {op:CmpOp} {r:R2} (ho:OpR X (compareOp op) r) (ha:PE X a ta) (hb:PE X b tb) (hm:behindInMarks op b=false):PE X (.Compare a [op] [b] pos) (tOp r ta tb):=by
 intro pins s σ H Q I h
 exact wpAny_Compare1 (binT ha hb I h fun v u s2 x y H2 I2 rx ry q=>ho pins s2 σ H2 x y v u Q I2 rx ry q) hm
noncomputable def tTest (t:TE):TT:=fun σ H Q=>t σ H fun x H'=>∃ k,x=.bl k∧Q k H'
theorem xaq {op:CmpOp} {r:R2} (ho:OpR X (compareOp op) r) (ha:PE X a ta) (hb:PE X b tb) (hm:behindInMarks op b=false):PT X (.Compare a [op] [b] pos) (tTest (tOp r ta tb)):=by
 intro pins s σ H Q I h
 refine wpAny_isTrue_Compare1 (thn (ha pins s σ H _ I h) fun v s1 ⟨x,H1,I1,r1,q1⟩=>thn (hb pins s1 σ H1 _ I1 q1) fun u s2 ⟨y,H2,I2,r2,q2⟩ =>
  thn (ho pins s2 σ H2 x y v u _ I2 r1 r2 q2) fun c s3 ⟨z,H3,I3,r3,k,e,q3⟩=>?_) hm
 subst e
 cases r3
 exact wpAny_truthy_bool ⟨H3,I3,q3⟩
theorem line63:(sizeLine:Nat) < 2 ^ 63:=by rw [sizeLine_eq];decide
theorem Zaz:OpR X (binaryOp .Add) (fun x y H Q=>∃ i j,x=.str i∧y=.str j∧i.length + j.length≤sizeLine∧Q (.str (i ++ j)) H):=by
 intro pins s σ H x y v u Q I rx ry h
 obtain ⟨i,j,rfl,rfl,hz,q⟩:=h
 obtain ⟨t,rfl⟩:=rx
 obtain ⟨t',rfl⟩:=ry
 exact add_str (fun t' tk=>⟨.str (i ++ j),H,I.tok _,⟨_,rfl⟩,q⟩) hz
theorem vals1 {x:V} {us:List Value} (r:Vals [x] us):∃ u,us=[u]∧RelV x u:=by
 cases r with
 | cons r1 r2=>cases r2;exact ⟨_,rfl,r1⟩
theorem vals2 {x y:V} {us:List Value} (r:Vals [x,y] us):∃ u w',us=[u,w']∧RelV x u∧RelV y w':=by
 cases r with
 | cons r1 r2 =>
  cases r2 with
  | cons r3 r4=>cases r4;exact ⟨_,_,rfl,r1,r3⟩
end
end L2
namespace L2
open PySem PySem.Spec PyProof.Rows
theorem yaP {h:Heap} {dx:Addr} {mA:Str→Option Value} (n:h.Ns1 dx mA):∃ od,h.get? dx=some od∧∀ name,PySem.W.lookIn name od=some (mA name):=by
 obtain ⟨o,es,ep,ho,hd,hk,_,hm⟩:=n
 refine ⟨o,ho,fun name=>?_⟩
 have e:=hm name
 unfold nsFind findBy at e
 rw [← Array.find?_toList] at e
 unfold PySem.W.lookIn
 rw [hd]
 dsimp only
 split
 ·rename_i y q
  rw [q] at e
  exact congrArg some e
 ·rename_i q
  rw [q] at e
  have a:es.toList.any (·.refKey)=false:=by
   rw [List.any_eq_false]
   intro y hy
   obtain ⟨z,t,hkey⟩:=hk y (Array.mem_toList_iff.mp hy)
   simp [DictEntry.refKey,hkey]
  have a':¬ es.toList.any (·.refKey)=true:=by rw [a];exact Bool.false_ne_true
  rw [if_neg a']
  exact congrArg some e
section
variable {prog:Program} {w:World} {A:Around} {E:Value→Shared→Prop} {s:Shared} {K:PySem.W.Frag} {x dx C f:Addr} {mA:Str→Option Value} {name:Str} {v:Value}
end
theorem RelO.some_of {v:V} {o:Option Value} (r:RelO (some v) o):∃ u,o=some u∧RelV v u:=by
 cases o with
 | none=>exact (show False from r).elim
 | some u=>exact ⟨u,rfl,r⟩
theorem ZaP {v:V} {u:Value} (r:RelV v u):PySem.W.handedIn u=true:=by
 cases v with
 | non=>cases (show u=Value.none from r);rfl
 | bl b=>cases (show u=Value.bool b from r);rfl
 | int i=>obtain ⟨t,e⟩:=(show ∃ t,u=Value.int i t from r);cases e;rfl
 | str x=>obtain ⟨t,e⟩:=(show ∃ t,u=Value.str x t from r);cases e;rfl
 | byt b=>obtain ⟨t,e⟩:=(show ∃ t,u=Value.bytes b t from r);cases e;rfl
 | flt b=>obtain ⟨t,e⟩:=(show ∃ t,u=Value.float b t from r);cases e;rfl
 | ref a=>cases (show u=Value.ref a from r);rfl
 | ty n=>cases (show u=Value.type n from r);rfl
section
variable {P:Program} {w:World} {H H':Hp} {h h':Heap} {a C dx:Addr} {fs fs':List (Str×V)}
end
section
variable {X:Cx} {pins:List (Addr×Obj)} {σ:St} {H:Hp} {s:Shared} {a C dx:Addr} {fs:List (Str×V)} {f:Str} {v:V} {A:Around} {E:Value→Shared→Prop}
theorem Za9 {prog:Program} {w:World} {env:Env} {e:Expr} {f:Str} {pos:Pos} {s:Shared} {Q:Value→Shared→Prop} (hb:attributeBase e f env (eval e env)=eval e env)
  (h:wpAny (model prog w) A (eval e env) (fun o s₁=>wpAny (model prog w) A (getAttr o f true) Q E s₁) E s):wpAny (model prog w) A (eval (.Attribute e f pos) env) Q E s :=
 Attribute_any_ h (by rw [arm_eval_Attribute,hb])
end
section
variable {X:Cx} {o e value:Expr} {f:Str} {pos pos' tpos:Pos} {ta tv:TE}
end
section
variable {X:Cx} {pins:List (Addr×Obj)} {σ:St} {H:Hp} {s:Shared} {A:Around} {E:Value→Shared→Prop} {Q:Value→Shared→Prop} {c:Value} {b:Bool}
end
end L2
namespace L2
open PySem PySem.Spec PyProof.Rows
structure Room (k:Nat) (A:Around):Prop where
 hd:A.handled=none
 dp:A.depth + 3 * k + 5 < recursionLimit
 un:A.units + 16 * k + 200 < cLine
 gd:A.guards=some []
theorem Room.mono {j k:Nat} {A:Around} (r:Room k A) (h:j≤k):Room j A:=⟨r.hd,by have:=r.dp;omega,by have:=r.un;omega,r.gd⟩
theorem Room.deeper {k:Nat} {A:Around} (r:Room (k + 1) A) (env:Env):Room k (A.deeper env) :=
 ⟨r.hd,by have:=r.dp;show A.depth + 1 + 3 * k + 5 < _;omega,by have:=r.un;show A.units + 3 + 16 * k + 200 < _;omega,r.gd⟩
theorem zaL {A:Around} {C:Addr} {us:List Value} {kw:List (Str×Value)}:(A.under (.builtin "type.__call__" ⟨.ref C :: us,kw⟩)).depth=A.depth + 1:=by
 first | rfl | simp [Around.under,Code.weight,Code.isCreation,Code.isGuard,Code.isCaller,Code.frames,Code.isFrame,guardIds]
theorem yaL {A:Around} {C:Addr} {us:List Value} {kw:List (Str×Value)}:(A.under (.builtin "type.__call__" ⟨.ref C :: us,kw⟩)).units=A.units + 1:=by
 first | rfl | simp [Around.under,Code.cUnits,Code.frames,Code.isFrame]
theorem YaG {A:Around} {C:Addr} {us:List Value} {kw:List (Str×Value)}:(A.under (.builtin "type.__call__" ⟨.ref C :: us,kw⟩)).guards=A.guards:=by
 first | rfl | simp [Around.under,Code.guards,Code.isGuard,pushGuards,guardIds]
theorem Room.make {k:Nat} {A:Around} (r:Room (k + 1) A) (C:Addr) (us:List Value) (kw:List (Str×Value)):Room k (A.under (.builtin "type.__call__" ⟨.ref C :: us,kw⟩)) :=
 ⟨r.hd,by have:=r.dp;rw [zaL];omega,by have:=r.un;rw [yaL];omega,by rw [YaG];exact r.gd⟩
theorem Room.depth {k:Nat} {A:Around} (r:Room k A):A.depth < recursionLimit:=by have:=r.dp;omega
theorem Room.units {k:Nat} {A:Around} (r:Room k A):A.units + 64 < cLine:=by have:=r.un;omega
noncomputable def tNil:TA:=fun _ H Q=>Q [] H
noncomputable def tCons (ta:TE) (tr:TA):TA:=fun σ H Q=>ta σ H fun x H1=>tr σ H1 fun xs H2=>Q (x :: xs) H2
section
variable {X:Cx} {e:Expr} {es:List Expr} {te:TE} {t:TA} {pos:Pos}
theorem zab:PA X [] tNil:=fun _ _ _ _ H Q I h=>Calls.spliced_nil ⟨[],H,I,.nil,h⟩
theorem yaa (ha:PE X e te) (hr:PA X es t) (hs:starEach (e :: es) X.env=(false,eval e X.env) :: starEach es X.env:=by rfl):PA X (e :: es) (tCons te t):=by
 intro pos pins s σ H Q I h
 rw [hs]
 show wpAny _ _ (spliced ((false,eval e X.env) :: backTo pos (starEach es X.env))) _ _ s
 refine Calls.spliced_cons (thn (ha pins s σ H _ I h) fun u s1 ⟨x,H1,I1,r1,q1⟩=>?_)
 exact thn (hr pos pins s1 σ H1 _ I1 q1) fun us s2 ⟨xs,H2,I2,r2,q2⟩=>⟨x :: xs,H2,I2,.cons r1 r2,q2⟩
noncomputable def tTup (t:TA):TE:=fun σ H Q=>t σ H fun xs H1=>xs.length≤sizeLine∧∀ p,H1 p=none→Q (.ref p) (upd H1 p (.tup xs))
noncomputable def tLst (t:TA):TE:=fun σ H Q=>t σ H fun xs H1=>xs.length≤sizeLine∧∀ p,H1 p=none→Q (.ref p) (upd H1 p (.lst xs))
theorem Xal {x1} (h:PA X es t):PE X (.Tuple es x1 pos) (tTup t):=by
 intro pins s σ H Q I hq
 refine wpAny_Tuple_spliced (thn (h pos pins s σ H _ I hq) fun us s1 ⟨xs,H1,I1,r,z,q⟩=>⟨by rw [← r.length];exact z,?_⟩)
 have hf:H1 s1.heap.objs.size=none:=I1.hok.fresh (Nat.le_refl _)
 refine ⟨.ref s1.heap.objs.size,upd H1 s1.heap.objs.size (.tup xs),I1.laid (t':=s1.toks) (fun b u e=>Heap.get?_push_of_some _ e) (Nat.le_refl _) ?_,rfl,q _ hf⟩
 exact ⟨z,us,r,⟨_,Heap.get?_push_size _ rfl,rfl,rfl,_,rfl⟩⟩
theorem xao (h:PA X es t):PE X (.List es pos) (tLst t):=by
 intro pins s σ H Q I hq
 refine wpAny_List_spliced (thn (h pos pins s σ H _ I hq) fun us s1 ⟨xs,H1,I1,r,z,q⟩=>⟨by rw [← r.length];exact z,?_⟩)
 have hf:H1 s1.heap.objs.size=none:=I1.hok.fresh (Nat.le_refl _)
 refine ⟨.ref s1.heap.objs.size,upd H1 s1.heap.objs.size (.lst xs),I1.laid (t':=s1.toks) (fun b u e=>Heap.get?_push_of_some _ e) (Nat.le_refl _) ?_,rfl,q _ hf⟩
 exact ⟨z,us,0,r,Heap.get?_push_size _ rfl⟩
end
abbrev Sp:=List V→Hp→VK→XK→Prop
abbrev CXT:=List Env→Hp→Shared→XK→Value→Shared→Prop
structure Env0 (P:Program) (w:World) (K:PySem.W.Frag) (mg:Str→Option Value) (base:Heap) (A:Around) (outer:List Env) (s:Shared) (H:Hp):Prop where
 frames:A.frames=some outer
 mod:Mod K mg base
 bs:∀ b o,base.get? b=some o→s.heap.get? b=some o∧H b=none
 bsz:base.objs.size≤s.heap.objs.size
 funs:s.heap.FunFrames base outer
 frf:∀ b∈frs outer,H b=none
 hok:HOk P w H s.heap
 bare:AllBare s.gens
noncomputable def CE (outer:List Env) (P:Program) (w:World) (H:Hp) (s:Shared) (Q:VK) (u:Value) (s':Shared):Prop :=
 ∃ v H',s'.os=s.os∧AllBare s'.gens∧Un (frs outer) [] H H' s.heap s'.heap∧HOk P w H' s'.heap∧RelV v u∧Q v H'
noncomputable def CR (CX:CXT) (outer:List Env) (P:Program) (w:World) (H:Hp) (s:Shared) (Q:VK) (E:XK) (r:Result) (s':Shared):Prop :=
 match r with
 | .ok (.ret u)=>CE outer P w H s Q u s'
 | .ok _=>False
 | .error e=>CX outer H s E e s'
structure FnOk (P:Program) (w:World) (K:PySem.W.Frag) (mg:Str→Option Value) (base:Heap) (CX:CXT) (k:Nat) (f:Addr) (fd:FuncData) (ps:List Str) (sp:Sp):Prop where
 len:∀ vs H Q E,sp vs H Q E→vs.length=ps.length
 run:∀ (A:Around) (outer:List Env) (s:Shared) (H:Hp) (args:Args) (us:List Value) (vs:List V) (Q:VK) (E:XK),Room k A→Env0 P w K mg base A outer s H→BindsTo s fd args (ps.zip us)→Vals vs us→sp vs H Q E →
  codeAny (model P w) A (.call (.ref f) args) (CR CX outer P w H s Q E) s
theorem FnOk.imp {P:Program} {w:World} {K:PySem.W.Frag} {mg:Str→Option Value} {base:Heap} {CX:CXT} {k:Nat} {f:Addr} {fd:FuncData} {ps:List Str} {sp sp':Sp} (F:FnOk P w K mg base CX k f fd ps sp)
  (h:∀ vs H Q E,sp' vs H Q E→sp vs H Q E):FnOk P w K mg base CX k f fd ps sp' :=
 ⟨fun vs H Q E q=>F.len vs H Q E (h _ _ _ _ q),fun A outer s H args us vs Q E hr he hb hv hs=>F.run A outer s H args us vs Q E hr he hb hv (h _ _ _ _ hs)⟩
theorem Env0.make {P:Program} {w:World} {K:PySem.W.Frag} {mg:Str→Option Value} {base:Heap} {A:Around} {outer:List Env} {s:Shared} {H:Hp} (e:Env0 P w K mg base A outer s H) (C:Addr) (us:List Value) (kw:List (Str×Value)) :
  Env0 P w K mg base (A.under (.builtin "type.__call__" ⟨.ref C :: us,kw⟩)) outer s H:=⟨by first | exact e.frames | (simpa [Around.under,Code.envs,Code.isFrame,pushEnvs] using e.frames),e.mod,e.bs,e.bsz,e.funs,e.frf,e.hok,e.bare⟩
section
variable {X:Cx} {pins:List (Addr×Obj)} {σ:St} {H:Hp} {s s':Shared}
theorem Inv.env0 (I:Inv X pins σ H s):Env0 X.prog X.w X.K X.mg X.base X.A X.stack s H :=
 ⟨I.ok.frames,I.ok.mod,I.bs,Nat.le_trans I.ok.bsz I.sz,I.stack,I.stkFree,I.hok,I.bare⟩
theorem Inv.after {Q:VK} {u:Value} (I:Inv X pins σ H s) (h:CE X.stack X.prog X.w H s Q u s'):EP X pins σ Q u s':=by
 obtain ⟨v,H',os,bare,un,hok,r,q⟩:=h
 obtain ⟨hh,g,d,t,os'⟩:=s'
 obtain rfl:os'=s.os:=os
 exact ⟨v,H',I.call (h':=hh) (g':=g) (d':=d) (t':=t) (ch:=[]) un hok bare (fun b z=>absurd z (by simp)),r,q⟩
end
noncomputable def tCall (sp:Sp) (dvs:List V) (E:XK) (t:TA):TE:=fun σ H Q=>t σ H fun vs H1=>sp (vs ++ dvs) H1 Q E
noncomputable def Binds (K:PySem.W.Frag) (fd:FuncData) (ps:List Str) (ds:List Value):Prop :=
 ∀ (s:Shared) (us:List Value),K.In s.heap→(us ++ ds).length=ps.length→BindsTo s fd ⟨us,[]⟩ (ps.zip (us ++ ds))
theorem Binds.all {K:PySem.W.Frag} {fd:FuncData} {ps:List Str} (h:∀ us:List Value,us.length=ps.length→bindArgs fd ⟨us,[]⟩=pure (ps.zip us)):Binds K fd ps []:=fun s us _ hl=>by
 rw [List.append_nil] at hl ⊢
 exact .of_eq (h us hl)
noncomputable def Passes (CX:CXT) (X:Cx) (E:XK):Prop:=∀ (pins:List (Addr×Obj)) (σ:St) (H:Hp) (s:Shared) (e:Value) (s':Shared),Inv X pins σ H s→CX X.stack H s E e s'→X.xe e s'
section
variable {X:Cx} {CX:CXT} {k:Nat} {f C:Addr} {fd:FuncData} {ps:List Str} {sp:Sp} {dvs:List V} {ds:List Value} {E:XK} {x m:Str} {p pos apos:Pos} {e o:Expr} {es:List Expr} {ta:TE} {t:TA}
theorem run_fn {pins:List (Addr×Obj)} {σ:St} {H:Hp} {s:Shared} {Q:VK} {us:List Value} {vs:List V} (F:FnOk X.prog X.w X.K X.mg X.base CX k f fd ps sp) (hr:Room k X.A) (hb:Binds X.K fd ps ds) (hd:Vals dvs ds) (hx:Passes CX X E)
  (I:Inv X pins σ H s) (r:Vals vs us) (h:sp (vs ++ dvs) H Q E):wpAny (model X.prog X.w) X.A (call (.ref f) us) (EP X pins σ Q) X.xe s:=by
 have r2:Vals (vs ++ dvs) (us ++ ds):=r.append hd
 have hl:(us ++ ds).length=ps.length:=by rw [← r2.length];exact F.len _ _ _ _ h
 refine wpAny_call (codeAny_mono (F.run X.A X.stack s H ⟨us,[]⟩ (us ++ ds) (vs ++ dvs) Q E hr I.env0 (hb s us I.kIn hl) r2 h) fun r s' hq=>?_)
 cases r with
 | error e=>exact hx pins σ H s e s' I hq
 | ok fl =>
  cases fl with
  | ret u=>exact I.after hq
  | next=>exact False.elim hq
  | brk=>exact False.elim hq
  | cont=>exact False.elim hq
theorem Yah (F:FnOk X.prog X.w X.K X.mg X.base CX k f fd ps sp) (hr:Room k X.A) (hg:Gl X x) (hm:X.mg x=some (.ref f)) (hk:PySem.W.keepIn X.K (.ref f)=true) (hb:Binds X.K fd ps ds) (hd:Vals dvs ds) (hx:Passes CX X E)
  (ha:PA X (e :: es) t) (hdb:(x == ("__debug__" : Str))=false:=by decide) (he:starEach (e :: es) X.env=(false,eval e X.env) :: starEach es X.env:=by rfl) (hpl:(backTo pos (starEach es X.env)).any (·.1)=false:=by rfl) :
  PE X (.Call (.Name x p) (e :: es) [] pos) (tCall sp dvs E t):=by
 intro pins s σ H Q I h
 refine wpAny_Call_Name_kw (yaA I hg hm ?_ hdb)
 refine PySem.W.callWith_K (h₀:=X.base) I.ok.mod.kin hk (thn (ha pos pins s σ H _ I h) fun us s1 ⟨vs,H1,I1,r,q⟩=>⟨I1.kIn,?_⟩) he hpl
 exact run_fn F hr hb hd hx I1 r q
end
section
variable {X:Cx} {CX:CXT} {k:Nat} {f C:Addr} {fd:FuncData} {ps ks:List Str} {sp:Sp} {E:XK} {x m:Str} {p pos apos kpos:Pos} {e o:Expr} {es:List Expr} {kws:List Keyword} {te ta:TE} {t tk:TA} {nm:Option Str}
variable {g:List Value→List Value→List Value} {gV:List V→List V→List V}
end
structure FnScope (N P:List Str) (sc:Scope):Prop where
 kind:sc.kind=.function
 co:sc.isCoroutine=false
 gen:sc.isGenerator=false
 nd:N.Nodup
 pre:N.take P.length=P
 par:∀ x∈P,sc.names.lookup x=some .local∨sc.names.lookup x=some .cell
 nofree:∀ y∈sc.names,y.2≠.free
theorem ZaD {kindOf:Str→Option NameKind} {x:Str}:∀ {binds:List (Str×Value)} {m:Str→Option Value},(∀ v,(x,v) ∉ binds)→bindL kindOf binds m x=m x
 | [],_,_=>rfl
 | (n,v) :: r,m,h=>by
  unfold bindL
  rw [ZaD fun w hw=>h w (List.mem_cons_of_mem _ hw)]
  split
  ·have:x≠n:=by rintro rfl;exact h v List.mem_cons_self
   simp [this]
  ·rfl
theorem YaD {kindOf:Str→Option NameKind} {x:Str}:∀ {binds:List (Str×Value)} {m:Str→Option Value},(∀ v,(x,v) ∉ binds)→bindC kindOf binds m x=m x
 | [],_,_=>rfl
 | (n,v) :: r,m,h=>by
  unfold bindC
  rw [YaD fun w hw=>h w (List.mem_cons_of_mem _ hw)]
  split
  ·rfl
  ·have:x≠n:=by rintro rfl;exact h v List.mem_cons_self
   simp [this]
theorem xaD {kindOf:Str→Option NameKind} {x:Str} {v:Value}:∀ {P:List Str} {vs:List Value} {i:Nat} {m:Str→Option Value},P.Nodup→P[i]?=some x→vs[i]?=some v→kindOf x=some .local →
  bindL kindOf (P.zip vs) m x=some v
 | [],_,_,_,_,h,_,_=>by simp at h
 | _ :: _,[],_,_,_,_,h,_=>by simp at h
 | p :: P,w :: vs,0,m,nd,h1,h2,hk=>by
  simp at h1 h2;subst h1;subst h2
  show bindL kindOf ((p,w) :: P.zip vs) m p=_
  unfold bindL
  rw [ZaD fun v hv=>(List.nodup_cons.mp nd).1 (List.of_mem_zip hv).1,if_pos hk]
  simp
 | p :: P,w :: vs,i + 1,m,nd,h1,h2,hk=>by
  show bindL kindOf ((p,w) :: P.zip vs) m x=_
  unfold bindL
  exact xaD (i:=i) (List.nodup_cons.mp nd).2 (by simpa using h1) (by simpa using h2) hk
theorem XaD {kindOf:Str→Option NameKind} {x:Str} {v:Value}:∀ {P:List Str} {vs:List Value} {i:Nat} {m:Str→Option Value},P.Nodup→P[i]?=some x→vs[i]?=some v→kindOf x≠some .local →
  bindC kindOf (P.zip vs) m x=some v
 | [],_,_,_,_,h,_,_=>by simp at h
 | _ :: _,[],_,_,_,_,h,_=>by simp at h
 | p :: P,w :: vs,0,m,nd,h1,h2,hk=>by
  simp at h1 h2;subst h1;subst h2
  show bindC kindOf ((p,w) :: P.zip vs) m p=_
  unfold bindC
  rw [YaD fun v hv=>(List.nodup_cons.mp nd).1 (List.of_mem_zip hv).1,if_neg hk]
  simp
 | p :: P,w :: vs,i + 1,m,nd,h1,h2,hk=>by
  show bindC kindOf ((p,w) :: P.zip vs) m x=_
  unfold bindC
  exact XaD (i:=i) (List.nodup_cons.mp nd).2 (by simpa using h1) (by simpa using h2) hk
noncomputable def start (N:List Str) (vs:List V):St:=vs.map some ++ List.replicate (N.length - vs.length) none
noncomputable def cxOf (CX:CXT) (P:Program) (w:World) (K:PySem.W.Frag) (mg:Str→Option Value) (base:Heap) (N:List Str) (qual:Str) (scope:Scope) (f:Addr) (cd:Value) (A:Around) (outer:List Env) (s:Shared) (H:Hp) (E:XK):Cx where
 prog:=P
 w:=w
 K:=K
 mg:=mg
 base:=base
 A:=A.deeper (envOfC qual scope s.heap.objs.size f cd)
 N:=N
 s₀:=s
 H₀:=H
 env:=envOfC qual scope s.heap.objs.size f cd
 outer:=outer
 stack:=envOfC qual scope s.heap.objs.size f cd :: outer
 ex:=[]
 calm:=true
 fn:=fun _=>true
 pn:=[]
 xe:=fun e s'=>wpAny (model P w) (A.deeper (envOfC qual scope s.heap.objs.size f cd)) («leaving» (envOfC qual scope s.heap.objs.size f cd) e) (fun _ s''=>CX outer H s E e s'') (fun e' s''=>CX outer H s E e' s'') s'
theorem xaI {sc:Scope} {n:Nat} {x:Str} (h:sc.names.lookup x=some .cell):∃ c,(cellsFrom n sc.names []).lookup x=some c:=by
 have q:=PySem.W.cellsFrom_some sc.names n [] (.inl h)
 exact Option.isSome_iff_exists.mp q
theorem YaP {CX:CXT} {P:Program} {w:World} {K:PySem.W.Frag} {mg:Str→Option Value} {base:Heap} {N ps:List Str} {qual:Str} {scope:Scope} {f:Addr} {cd:Value} {A:Around} {outer:List Env} {s s1:Shared} {H:Hp} {E:XK} {us:List Value} {vs:List V}
  (S:FnScope N ps scope) (hd:A.handled=none) (e0:Env0 P w K mg base A outer s H) (hl:vs.length=ps.length) (r:Vals vs us)
  (x:InCallC s s.heap.objs.size (bindL (envOfC qual scope s.heap.objs.size f cd).kindOf (ps.zip us) fun _=>none) (cellsFrom (s.heap.objs.size + 1) scope.names []) (bindC (envOfC qual scope s.heap.objs.size f cd).kindOf (ps.zip us) fun _=>none) s1) :
  Inv (cxOf CX P w K mg base N qual scope f cd A outer s H E) [] (start N vs) H s1:=by
 have hpl:ps.length≤N.length:=by have:=congrArg List.length S.pre;rw [List.length_take] at this;omega
 obtain ⟨h1,tk,rfl,hk⟩:=x.done
 have noA:∀ b:Addr,b ∉ (cxOf CX P w K mg base N qual scope f cd A outer s H E).ex:=fun b z=>absurd (show b∈([]:List Addr) from z) (by simp)
 refine ⟨⟨e0.mod,S.kind,rfl,rfl,Nat.le_refl _,fun y z c h1 h2=>?_,fun y hy=>?_,fun y c _ h=>?_,fun _=>hd,Around.frames_deeper e0.frames,.inr ⟨rfl,rfl⟩,fun b z=>absurd z (noA b),e0.bs,e0.bsz,fun b _ _=>noA b,fun b z=>absurd z (noA b),e0.funs,e0.frf⟩,
  rfl,e0.bare,Un.kept hk,⟨_,x.toInCall.ns,fun i y v h1 h2 h3=>?_⟩,fun y c h=>⟨_,x.cell y c h⟩,e0.hok.fresh (Nat.le_refl _),fun y c h=>?_,fun p hp=>absurd (show p∈([]:List (Addr×Obj)) from hp) (by simp),e0.hok.kept hk,?_⟩
 ·exact name_of_addr x.apart (PySem.mem_of_lookup h1) (PySem.mem_of_lookup h2)
 ·have hy:scope.names.lookup y=some .cell∨scope.names.lookup y=some .free:=hy
  rcases hy with hy | hy
  ·exact xaI hy
  ·exact absurd rfl (S.nofree _ (PySem.mem_of_lookup hy))
 ·exact Nat.le_of_lt (x.above y c (PySem.mem_of_lookup h))
 ·have hi:i < vs.length:=by
   unfold start at h2
   by_cases hi:i < vs.length
   ·exact hi
   ·rw [List.getElem?_append_right (by simpa using hi)] at h2
    rw [List.getElem?_replicate] at h2
    split at h2 <;> cases h2
  have ha:vs[i]?=some v:=by
   unfold start at h2
   rw [List.getElem?_append_left (by simpa using hi),List.getElem?_map] at h2
   cases e:vs[i]? with
   | none=>rw [e] at h2;cases h2
   | some a=>rw [e] at h2;cases h2;rfl
  obtain ⟨u,hu,rv⟩:=r.get ha
  have hp:ps[i]?=some y:=by
   rw [← S.pre,List.getElem?_take_of_lt (by omega)];exact h1
  have ndP:ps.Nodup:=by rw [← S.pre];exact S.nd.sublist (List.take_sublist _ _)
  refine ⟨u,rv,?_⟩
  rcases S.par y (List.mem_of_getElem? hp) with k | k
  ·exact .inl ⟨k,xaD ndP hp hu k⟩
  ·obtain ⟨c,e⟩:=xaI (n:=s.heap.objs.size + 1) k
   refine .inr ⟨.inl k,c,e,?_⟩
   have q:=x.cell y c e
   rw [XaD ndP hp hu (by show scope.names.lookup y≠_;rw [k];decide)] at q
   exact q
 ·exact e0.hok.fresh (Nat.le_of_lt (x.above y c (PySem.mem_of_lookup h)))
 ·unfold start
  show _=N.length
  rw [List.length_append,List.length_map,List.length_replicate]
  omega
theorem fn_of {CX:CXT} {P:Program} {w:World} {K:PySem.W.Frag} {mg:Str→Option Value} {base:Heap} {k:Nat} {f:Addr} {name qual:Str} {params:Arguments} {body:List Stmt} {scope:Scope} {dV kV doc pm cdv ct oc:Value} {an od:Option Addr}
  {osl:Array (Option Value)} {N ps:List Str} {sp:Sp} (lk:K.lookup f=some ⟨oc,od,.func (PySem.W.fnOf name qual params body scope dV kV doc pm an cdv ct),osl⟩) (hcd:PySem.W.codeIn K cdv qual=true) (S:FnScope N ps scope)
  (len:∀ vs H Q E,sp vs H Q E→vs.length=ps.length)
  (hbody:∀ (A:Around) (outer:List Env) (s:Shared) (H:Hp) (vs:List V) (Q:VK) (E:XK),Room k (A.deeper (envOfC qual scope s.heap.objs.size f cdv))→sp vs H Q E →
   ∃ t,PSs (cxOf CX P w K mg base N qual scope f cdv A outer s H E) body t∧t { nx:=fun _ H'=>Q .non H',rt:=Q } (start N vs) H) :
  FnOk P w K mg base CX (k + 1) f (PySem.W.fnOf name qual params body scope dV kV doc pm an cdv ct) ps sp:=by
 refine ⟨len,fun A outer s H args us vs Q E hr e0 hb r hsp=>?_⟩
 have hl:=len _ _ _ _ hsp
 have KX:K.In s.heap:=e0.mod.kin.keeps fun b o e=>(e0.bs b o e).1
 have lim:s.heap.NoLimit:=e0.mod.nolimit.keeps fun b o e=>(e0.bs b o e).1
 have hkind:∀ y∈ps.zip us,scope.names.lookup y.1=some .local∨(scope.names.lookup y.1=some .cell∧((cellsFrom (s.heap.objs.size + 1) scope.names []).lookup y.1).isSome=true):=fun ⟨n,v⟩ hy=>by
  rcases S.par n (List.of_mem_zip hy).1 with q | q
  ·exact .inl q
  ·exact .inr ⟨q,PySem.W.cellsFrom_some _ _ _ (.inl q)⟩
 refine codeAny_call_function hr.depth (KX _ _ lk) rfl S.co S.gen rfl (PySem.W.codeRec_of KX hcd) (hb _ _ _ _ ?_)
 refine wpAny_newFunctionEnv_cells S.kind hkind fun env he s1 x=>?_
 subst he
 refine ⟨lim.keeps x.toInCall.keep,codeAny_func ?_⟩
 obtain ⟨t,ht,hq⟩:=hbody A outer s H vs Q E (hr.deeper _) hsp
 have I:Inv (cxOf CX P w K mg base N qual scope f cdv A outer s H E) [] (start N vs) H s1:=YaP S hr.hd e0 hl r x
 refine wpAny_mono (ht [] s1 (start N vs) H _ I hq) (fun fl s' hs=>?_) fun e s' hs=>hs
 have fin:∀ {σ':St} {H':Hp} {v:V} {u:Value},Inv (cxOf CX P w K mg base N qual scope f cdv A outer s H E) [] σ' H' s'→RelV v u→Q v H'→CE outer P w H s Q u s' :=
  fun {σ' H' v u} J rv q=>⟨v,H',J.os,J.bare,J.base,J.hok,rv,q⟩
 cases fl with
 | ret u =>
  obtain ⟨v,σ',H',J,rv,q⟩:=hs
  exact fin J rv q
 | next =>
  obtain ⟨σ',H',J,q⟩:=hs
  exact fin (v:=V.non) (u:=Value.none) J rfl q
 | brk =>
  obtain ⟨_,_,_,q⟩:=hs
  exact False.elim q
 | cont =>
  obtain ⟨_,_,_,q⟩:=hs
  exact False.elim q
end L2
namespace L2
open PySem PySem.Spec PyProof.Rows
section
variable {X:Cx} {x:Str} {p pos:Pos} {e:Expr} {es:List Expr} {t:TA} {id T:String} {r:List V→Hp→VK→Prop}
noncomputable def tCB (r:List V→Hp→VK→Prop) (t:TA):TE:=fun σ H Q=>t σ H fun vs H1=>r vs H1 Q
theorem zae (hc:CallR X (.builtin id) r) (hg:Gl X x) (hm:X.mg x=none) (hv:bootBuiltins x=some (.builtin id)) (ha:PA X (e :: es) t) (hn:x≠"__name__" := by decide) (hdb:(x == ("__debug__" : Str))=false:=by decide)
  (he:starEach (e :: es) X.env=(false,eval e X.env) :: starEach es X.env:=by rfl) (hpl:(backTo pos (starEach es X.env)).any (·.1)=false:=by rfl):PE X (.Call (.Name x p) (e :: es) [] pos) (tCB r t):=by
 intro pins s σ H Q I h
 refine wpAny_Call_Name_kw (zaO I hg hm hv ?_ hn hdb)
 exact PyProof.Rows.callWith_builtin1 (thn (ha pos pins s σ H _ I h) fun us s1 ⟨vs,H1,I1,r1,q1⟩=>hc pins s1 σ H1 vs us Q I1 r1 q1) he hpl
end
end L2
namespace HT
open PySem PyProof.Rows
section
open PySem.SeqAt
open PySem.AutoSeq1 (wpAny_loadPart')
open PySem.MeetsSeq PySem.MeetsSeq2 PySem.MeetsSeq3
end
section
variable {prog:Program} {w:World} {A:Around} {E:Value→Shared→Prop} {s:Shared}
noncomputable def sIx (n d:Nat):Option Int→Nat
 | none=>d
 | some v=>if v < 0 then (v + (n:Int)).toNat else min v.toNat n
end
end HT
namespace L2
open PySem PySem.Spec PyProof.Rows
abbrev TO:=St→Hp→(Option Int→Hp→Prop)→Prop
section
variable {X:Cx} {e:Expr} {te:TE} {lo hi:Option Expr} {tl th:TO} {pos p2:Pos}
end
end L2
namespace L2
open PySem PySem.Spec PyProof.Rows
noncomputable def ixN (n:Nat) (i:Int):Option Nat:=if 0≤i then (if i < n then some i.toNat else none) else if -(n:Int)≤i then some (i + n).toNat else none
noncomputable def atI {α:Type} (xs:List α) (i:Int):Option α:=(ixN xs.length i).bind fun j=>xs[j]?
theorem xaP {n:Nat} {i:Int} {j:Nat} (h:ixN n i=some j):seqIndex? i n=some j∧j < n∧-(n:Int)≤i∧i < n:=by
 unfold ixN at h
 by_cases h0:0≤i
 ·rw [if_pos h0] at h
  by_cases h1:i < n
  ·rw [if_pos h1] at h
   have e:i.toNat=j:=Option.some.inj h
   exact ⟨by rw [seqIndex_of h0 h1,e],by omega,by omega,h1⟩
  ·rw [if_neg h1] at h;cases h
 ·rw [if_neg h0] at h
  by_cases h1:-(n:Int)≤i
  ·rw [if_pos h1] at h
   have e:(i + n).toNat=j:=Option.some.inj h
   exact ⟨by rw [seqIndex_neg (by omega) h1,e],by omega,h1,by omega⟩
  ·rw [if_neg h1] at h;cases h
theorem XaP {α:Type} {xs:List α} {i:Int} {v:α} (h:atI xs i=some v):∃ j,seqIndex? i xs.length=some j∧xs[j]?=some v∧j < xs.length∧-(xs.length:Int)≤i∧i < xs.length:=by
 unfold atI at h
 cases e:ixN xs.length i with
 | none=>rw [e] at h;cases h
 | some j =>
  rw [e] at h
  obtain ⟨h1,h2,h3,h4⟩:=xaP e
  exact ⟨j,h1,h,h2,h3,h4⟩
theorem zaQ {α:Type} {xs:List α} {j:Nat} {v:α} (h:xs[j]?=some v):atI xs (j:Int)=some v:=by
 have hj:j < xs.length:=(List.getElem?_eq_some_iff.mp h).1
 have e:ixN xs.length (j:Int)=some j:=by
  unfold ixN
  rw [if_pos (by omega),if_pos (by omega)];simp
 unfold atI;rw [e];exact h
noncomputable def PlainIx (b:Expr):Prop:=∀ o i,subscripted b false o i=operate [o,i] (getItem o i)
noncomputable def IxR (X:Cx) (r:R2):Prop :=
 ∀ (value slice:Expr) (pins:List (Addr×Obj)) (s:Shared) (σ:St) (H:Hp) (x y:V) (v u:Value) (Q:VK),Inv X pins σ H s→RelV x v→RelV y u→r x y H Q →
  subscripted slice false v u=operate [v,u] (getItem v u)→wpAny (model X.prog X.w) X.A (subscriptTail value slice v u) (EP X pins σ Q) X.xe s
noncomputable def MtR (X:Cx) (id:String) (r:V→List V→Hp→VK→Prop):Prop :=
 ∀ (pins:List (Addr×Obj)) (s:Shared) (σ:St) (H:Hp) (x:V) (xs:List V) (v:Value) (us:List Value) (Q:VK),Inv X pins σ H s→RelV x v→Vals xs us→r x xs H Q →
  wpAny (model X.prog X.w) X.A (call (.builtin id) (v :: us)) (EP X pins σ Q) X.xe s
section
variable {X:Cx} {a b:Expr} {ta tb:TE} {pos:Pos}
theorem Zar {r:R2} (hr:IxR X r) (ha:PE X a ta) (hb:PE X b tb) (hs:PlainIx b):PE X (.Subscript a b pos) (tOp r ta tb):=by
 intro pins s σ H Q I h
 exact Subscript_ (binT ha hb I h fun v u s2 x y H2 I2 rx ry q=>hr a b pins s2 σ H2 x y v u Q I2 rx ry q (hs _ _))
noncomputable def rIxL (K:PySem.W.Frag):R2:=fun x y H Q=>∃ p xs i v,x=.ref p∧y=.int i∧SqL K H p xs∧atI xs i=some v∧Q v H
noncomputable def rIxS:R2:=fun x y H Q=>∃ z i c,x=.str z∧y=.int i∧z.length≤sizeLine∧atI z.cps.toList i=some c∧Q (.str ⟨#[c]⟩) H
theorem xah:IxR X (rIxL X.K):=by
 intro value slice pins s σ H x y v u Q I rx ry h hs
 obtain ⟨p,xs,i,z,rfl,rfl,hq,he,q⟩:=h
 cases rx
 obtain ⟨t,rfl⟩:=ry
 obtain ⟨its,r,pl,hz⟩:=I.list hq
 obtain ⟨j,h1,h2,h3,h4,h5⟩:=XaP he
 obtain ⟨w,ew,rw'⟩:=r.get h2
 have hl:=r.length
 have hn:=line63
 have fin:EP X pins σ Q w s:=⟨z,H,I,rw',q⟩
 by_cases h0:0≤i
 ·have hj:i.toNat=j:=by
   rw [seqIndex_of h0 h5] at h1
   exact Option.some.inj h1
  exact item_listR pl.isList h0 (by omega) (by rw [hj];simpa using ew) fin hs
 ·have hj:(i + (its.toArray.size:Int)).toNat=j:=by
   rw [seqIndex_neg (by omega) h4] at h1
   rw [List.size_toArray,← hl]
   exact Option.some.inj h1
  exact subscriptTail_builtinR (x:=w) pl.isList.typeIs slot_list_getitem.lookup
   (wpAny_getItem_list_neg (Q:=fun r s'=>r=w∧EP X pins σ Q r s') pl.isList (by omega) (by rw [List.size_toArray] <;> omega) (by omega) (by rw [hj];simpa using ew) ⟨rfl,fin⟩) hs
theorem ix_str:IxR X rIxS:=by
 intro value slice pins s σ H x y v u Q I rx ry h hs
 obtain ⟨z,i,c,rfl,rfl,hz,he,q⟩:=h
 obtain ⟨t,rfl⟩:=rx
 obtain ⟨t',rfl⟩:=ry
 obtain ⟨j,h1,h2,h3,h4,h5⟩:=XaP he
 have hl:z.cps.toList.length=z.length:=by simp [Str.length]
 rw [hl] at h1 h4 h5
 have hn:=line63
 exact tail_any (typeIs_str s z t) slot_str_getitem.lookup (getItem_str (c:=c) (by
  have e1:decide (i < -(2 ^ 63:Int))=false:=decide_eq_false (by omega)
  have e2:decide (i ≥ 2 ^ 63)=false:=decide_eq_false (by omega)
  rw [e1,e2,Bool.or_false]) (by rw [h1];simpa using h2) ⟨.str ⟨#[c]⟩,H,I.tok _,⟨_,rfl⟩,q⟩) hs
theorem ZaL (its:List Value) (n j:Nat) (u:Value):Obj.mapSeq (·.setIfInBounds j u) { cls:=.type "list",data:=.seq its.toArray n }={ cls:=.type "list",data:=.seq (its.set j u).toArray n }:=by
 simp [Obj.mapSeq]
theorem Inv.lst {pins:List (Addr×Obj)} {σ:St} {H:Hp} {s:Shared} {p:Addr} {xs:List V} (I:Inv X pins σ H s) (h:H p=some (.lst xs)) :
  ∃ (its:List Value) (n:Nat),Vals xs its∧s.heap.get? p=some { cls:=.type "list",data:=.seq its.toArray n }∧xs.length≤sizeLine:=by
 obtain ⟨z,its,n,r,e⟩:=I.hok p _ h
 exact ⟨its,n,r,e,z⟩
theorem Inv.lstUpd {pins:List (Addr×Obj)} {σ:St} {H:Hp} {s:Shared} {p:Addr} {xs ys:List V} {its its':List Value} {n n':Nat} {f:Obj→Obj} (I:Inv X pins σ H s) (h:H p=some (.lst xs))
  (ho:s.heap.get? p=some { cls:=.type "list",data:=.seq its.toArray n }) (hf:f { cls:=.type "list",data:=.seq its.toArray n }={ cls:=.type "list",data:=.seq its'.toArray n' }) (r:Vals ys its') (hz:ys.length≤sizeLine) (t:Nat) :
  Inv X pins σ (upd H p (.lst ys)) { s with heap:=s.heap.update p f,toks:=t }:=by
 have e:(s.heap.update p f).get? p=some { cls:=.type "list",data:=.seq its'.toArray n' }:=by
  rw [Heap.get?_update_self f ho (by rw [hf] <;> rfl),hf]
 refine I.write (x:=p) (e:=p) (by rw [h];trivial) (.inl rfl) (fun b u hb q=>(Heap.get?_update_other _ _ (Ne.symm hb)).trans q) ⟨_,e⟩ ?_
 exact ⟨hz,its',n',r,e⟩
noncomputable def rSetL:V→V→V→Hp→(Hp→Prop)→Prop:=fun o i v H Q=>∃ p xs k j,o=.ref p∧i=.int k∧H p=some (.lst xs)∧ixN xs.length k=some j∧Q (upd H p (.lst (xs.set j v)))
theorem XaI:PSet X rSetL:=by
 intro pins s σ H o i v ov iv u Q I ro ri rv h
 obtain ⟨p,xs,k,j,rfl,rfl,hp,hj,q⟩:=h
 cases ro
 obtain ⟨t,rfl⟩:=ri
 obtain ⟨its,n,r,ho,hz⟩:=I.lst hp
 obtain ⟨h1,h2,h3,h4⟩:=xaP hj
 have hl:=r.length
 have hn:=line63
 have I':Inv X pins σ (upd H p (.lst (xs.set j v))) { s with heap:=s.heap.update p (Obj.mapSeq (·.setIfInBounds j u)) } :=
  I.lstUpd hp ho (ZaL its n j u) (r.set rv j) (by rw [List.length_set];exact hz) s.toks
 by_cases h0:0≤k
 ·have hk:k.toNat=j:=by
   rw [seqIndex_of h0 h4] at h1
   exact Option.some.inj h1
  exact PySem.W.ki_setAt ho h0 (by omega) (by rw [List.size_toArray,← hl];exact h4) (by rw [hk];exact ⟨_,I',q⟩)
 ·have hk:(k + (its.toArray.size:Int)).toNat=j:=by
   rw [seqIndex_neg (by omega) h3] at h1
   rw [List.size_toArray,← hl]
   exact Option.some.inj h1
  exact PySem.W.ki_setBack ho (by omega) (by rw [List.size_toArray,← hl];exact h3) (by omega) (by rw [hk];exact ⟨_,I',q⟩)
theorem Xao:CallR X (.builtin "len") (fun xs H Q=>∃ p ys,xs=[.ref p]∧(SqL X.K H p ys∨SqT X.K H p ys)∧Q (.int ys.length) H):=by
 intro pins s σ H xs us Q I r h
 obtain ⟨p,ys,rfl,hq,q⟩:=h
 obtain ⟨u,rfl,rx⟩:=vals1 r
 cases rx
 have hn:=line63
 rcases hq with hq | hq
 ·obtain ⟨its,r',pl,hz⟩:=I.list hq
  have hlen:=r'.length
  exact Calls.call_len_list pl.isList (by simp only [List.size_toArray] <;> omega) ⟨.int ys.length,H,I.tok _,⟨s.toks + 1,by rw [List.size_toArray,hlen]⟩,q⟩
 ·obtain ⟨its,r',pl,hz⟩:=I.tuple hq
  have hlen:=r'.length
  exact len_tuple pl (by simp only [List.size_toArray] <;> omega) ⟨.int ys.length,H,I.tok _,⟨s.toks + 1,by rw [List.size_toArray,hlen]⟩,q⟩
noncomputable def tyV (K:PySem.W.Frag) (T:String) (x:V) (H:Hp):Prop:=match x with
 | .str _=>T="str"
 | .int _=>T="int"
 | .ref p=>(T="list" ∧ ∃ xs,SqL K H p xs)∨(T="tuple" ∧ ∃ xs,SqT K H p xs) ∨
   (T="dict" ∧ ((∃ kvs,H p=some (.dK kvs))∨∃ kvs,H p=some (.dT kvs)))∨(T="set" ∧ ∃ S n,H p=some (.set S n))
 | _=>False
theorem tyV_is {pins:List (Addr×Obj)} {σ:St} {H:Hp} {s:Shared} {T:String} {x:V} {v:Value} (I:Inv X pins σ H s) (r:RelV x v) (ty:tyV X.K T x H) :
  s.TypeIs v T∧∀ a,v=.ref a→∃ ob,s.heap.get? a=some ob∧ob.dict=none:=by
 cases x with
 | str z =>
  obtain ⟨t,rfl⟩:=r
  cases (show T="str" from ty)
  exact ⟨typeIs_str s z t,fun _ e=>nomatch e⟩
 | int i =>
  obtain ⟨t,rfl⟩:=r
  cases (show T="int" from ty)
  exact ⟨typeIs_int s i t,fun _ e=>nomatch e⟩
 | ref p =>
  cases r
  rcases ty with ⟨rfl,xs,hq⟩ | ⟨rfl,xs,hq⟩ | ⟨rfl,hk⟩ | ⟨rfl,S,n,hk⟩
  ·obtain ⟨its,_,pl,_⟩:=I.list hq
   refine ⟨pl.isList.typeIs,fun a e=>?_⟩
   cases e
   obtain ⟨o,n,e,c,hd,_⟩:=pl
   exact ⟨o,e,hd⟩
  ·obtain ⟨its,_,⟨o,e,c,d,_⟩,_⟩:=I.tupleP hq
   refine ⟨⟨o,e,c⟩,fun a e2=>?_⟩
   cases e2
   exact ⟨o,e,d⟩
  ·have z:∃ o,s.heap.get? p=some o∧o.ExactDict:=by
    rcases hk with ⟨kvs,hk⟩ | ⟨kvs,hk⟩
    ·obtain ⟨_,_,_,_,o,_,_,e,ex,_⟩:=I.hok p _ hk
     exact ⟨o,e,ex⟩
    ·obtain ⟨_,_,_,_,o,_,_,e,ex,_⟩:=I.hok p _ hk
     exact ⟨o,e,ex⟩
   obtain ⟨o,e,ex⟩:=z
   refine ⟨⟨o,e,ex.1⟩,fun a e2=>?_⟩
   cases e2
   exact ⟨o,e,ex.2.1⟩
  ·obtain ⟨o,_,_,_,e,ex,_⟩:=I.hok p _ hk
   refine ⟨⟨o,e,ex.1⟩,fun a e2=>?_⟩
   cases e2
   exact ⟨o,e,ex.2.1⟩
 | _=>exact False.elim ty
noncomputable def tBM (K:PySem.W.Frag) (T:String) (r:V→List V→Hp→VK→Prop) (to:TE) (t:TA):TE:=fun σ H Q=>to σ H fun x H1=>tyV K T x H1∧t σ H1 fun xs H2=>r x xs H2 Q
variable {o e:Expr} {es:List Expr} {to:TE} {t:TA} {name:Str} {apos cpos:Pos} {T id:String} {r:V→List V→Hp→VK→Prop}
theorem pe_bm (pa:PlainAttrs T) (slot:Slot T name id) (hty:typeOf (.builtin id)=pure (.type "method_descriptor")) (hm:MtR X id r) (ho:PE X o to) (ha:PA X (e :: es) t)
  (hbase:attributeBase o name X.env (eval o X.env)=eval o X.env:=by rfl)
  (hfew:((backTo cpos (starEach (e :: es) X.env)).all (fun x=>!x.1) && (backToKw cpos (keywordEach [] X.env)).all (fun x=>x.1.isSome)
   && decide ((e :: es).length + ([]:List Keyword).length + (if ([]:List Keyword).isEmpty then 0 else 1) < 30))=true:=by rfl)
  (hline:(apos.endLine == cpos.line)=true:=by rfl) (hs:starEach (e :: es) X.env=(false,eval e X.env) :: starEach es X.env:=by rfl) (hplain:(backTo cpos (starEach es X.env)).any (·.1)=false:=by rfl) :
  PE X (.Call (.Attribute o name apos) (e :: es) [] cpos) (tBM X.K T r to t):=by
 intro pins s σ H Q I h
 refine wpAny_Call_method_late hbase hfew hline rfl (thn (ho pins s σ H _ I h) fun v s1 ⟨x,H1,I1,r1,ty,q1⟩=>?_)
 obtain ⟨h1,h2⟩:=tyV_is I1 r1 ty
 refine ⟨T,id,pa,slot,hty,h1,h2,?_⟩
 have hA:=ha cpos pins s1 σ H1 _ I1 q1
 rw [hs] at hA ⊢
 refine Calls.callWith_builtin (by show (false || (backTo cpos (starEach es X.env)).any (·.1))=false;rw [hplain] <;> rfl) (Calls.evalArgs_plain ?_)
 exact thn hA fun us s2 ⟨vs,H2,I2,r2,q2⟩=>hm pins s2 σ H2 x vs v us Q I2 r1 r2 q2
end
end L2
namespace L2
open PySem PySem.Spec PyProof.Rows
noncomputable def MtM (X:Cx) (id:String) (r:V→List V→Hp→VK→Prop):Prop :=
 ∀ (pins:List (Addr×Obj)) (s:Shared) (σ:St) (H:Hp) (x:V) (xs:List V) (v:Value) (us:List Value) (Q:VK),Inv X pins σ H s→RelV x v→Vals xs us→r x xs H Q →
  wpAny (model X.prog X.w) X.A (call (.builtin id) (v :: us)) (EP X pins σ Q) X.xe s
theorem Vals.one:∀ {x:V} {us:List Value},Vals [x] us→∃ u,us=[u]∧RelV x u
 | _,_,.cons r .nil=>⟨_,rfl,r⟩
section
variable {X:Cx} {pins:List (Addr×Obj)} {σ:St} {H:Hp} {s:Shared} {l b:Addr} {xs ys zs:List V}
theorem Inv.lset {its its':List Value} {n:Nat} {f:Array Value→Array Value} {t':Nat} (I:Inv X pins σ H s) (hH:H l=some (.lst xs))
  (e:s.heap.get? l=some { cls:=.type "list",data:=.seq its.toArray n }) (hf:f its.toArray=its'.toArray) (hv:Vals ys its') (hz:ys.length≤sizeLine) :
  Inv X pins σ (upd H l (.lst ys)) { s with heap:=s.heap.update l (Obj.mapSeq f),toks:=t' }:=by
 have q:=PySem.IsL.update e f
 rw [hf] at q
 refine I.write (x:=l) (e:=l) (by rw [hH];exact trivial) (.inl rfl) (fun b' u hb hu=>(Heap.get?_update_other s.heap (Obj.mapSeq f) (Ne.symm hb)).trans hu) ⟨_,q⟩ ?_
 exact ⟨hz,its',_,hv,q⟩
theorem Inv.lnew {its:List Value} {t':Nat} (I:Inv X pins σ H s) (hv:Vals ys its) (hz:ys.length≤sizeLine) :
  Inv X pins σ (upd H s.heap.objs.size (.lst ys)) { s with heap:=s.heap.push { cls:=.type "list",data:=.seq its.toArray },toks:=t' } :=
 I.laid (fun _ _ q=>Heap.get?_push_of_some _ q) (Nat.le_refl _) ⟨hz,its,0,hv,Heap.get?_push_size _ rfl⟩
theorem Inv.fresh (I:Inv X pins σ H s):H s.heap.objs.size=none:=I.hok.fresh (Nat.le_refl _)
theorem Inv.lstM (I:Inv X pins σ H s) (hH:H l=some (.lst xs)):xs.length≤sizeLine∧∃ (its:List Value) (n:Nat),Vals xs its∧xs.length=its.length∧s.heap.get? l=some { cls:=.type "list",data:=.seq its.toArray n }:=by
 obtain ⟨z,its,n,r,e⟩:=I.hok l _ hH
 exact ⟨z,its,n,r,r.length,e⟩
end
section
variable {X:Cx}
noncomputable def rAppend:V→List V→Hp→VK→Prop:=fun x vs H Q=>∃ l xs y,x=.ref l∧vs=[y]∧H l=some (.lst xs)∧xs.length < sizeLine∧Q .non (upd H l (.lst (xs ++ [y])))
theorem yaQ:MtM X "list.append" rAppend:=by
 intro pins s σ H x vs v us Q I rx rv h
 obtain ⟨l,xs,y,rfl,rfl,hH,hz,q⟩:=h
 cases rx
 obtain ⟨u,rfl,ru⟩:=rv.one
 obtain ⟨z,its,n,r,hl,e⟩:=I.lstM hH
 refine call_meets F.slot_list_append ⟨_,e,rfl⟩ F.entry_list_append (F.args_list_append_2 _ _) (PySem.list_append l its.toArray n u (by rw [List.size_toArray];omega)) ⟨e,?_⟩
 refine ⟨.non,_,I.lset (its':=its ++ [u]) hH e (by simp) (r.append (.cons ru .nil)) ?_,rfl,q⟩
 rw [List.length_append,List.length_singleton]
 omega
noncomputable def rCat:R2:=fun x y H Q=>∃ l b xs zs,x=.ref l∧y=.ref b∧H l=some (.lst xs)∧H b=some (.lst zs)∧xs.length + zs.length≤sizeLine∧∀ p,H p=none→Q (.ref p) (upd H p (.lst (xs ++ zs)))
theorem ya5:OpR X (binaryOp .Add) rCat:=by
 intro pins s σ H x y v u Q I rx ry h
 obtain ⟨l,b,xs,zs,rfl,rfl,hH,hB,hz,q⟩:=h
 cases rx
 cases ry
 obtain ⟨z,its,n,r,hl,e⟩:=I.lstM hH
 obtain ⟨z2,its2,n2,r2,hl2,e2⟩:=I.lstM hB
 refine PySem.P.add_list e e2 ?_ (by rw [List.size_toArray,List.size_toArray];omega)
 have ea:its.toArray ++ its2.toArray=(its ++ its2).toArray:=by simp
 rw [ea]
 exact ⟨.ref _,_,I.lnew (t':=s.toks) (r.append r2) (by rw [List.length_append];omega),rfl,q _ I.fresh⟩
end
section
variable {prog:Program} {w:World} {A:Around} {E:Value→Shared→Prop} {s:Shared}
end
section
variable {X:Cx}
end
end L2
namespace L2
open PySem PySem.Spec PyProof.Rows
section
variable {κ:Type} [DecidableEq κ]
noncomputable def putK (kvs:List (κ×V)) (k:κ) (v:V):List (κ×V) :=
 if (kvs.any fun kv=>decide (kv.1=k))=true then kvs.map (fun kv=>if kv.1=k then (kv.1,v) else kv) else kvs ++ [(k,v)]
theorem xaG (kvs:List (κ×V)) (k:κ) (v:V):(putK kvs k v).length≤kvs.length + 1:=by
 unfold putK
 split
 ·rw [List.length_map];omega
 ·rw [List.length_append,List.length_cons,List.length_nil];omega
theorem KV.any {kvs:List (κ×V)} {vs:List (κ×Value)} (r:KV kvs vs) (k:κ):(kvs.any fun kv=>decide (kv.1=k))=vs.any fun kv=>decide (kv.1=k):=by
 unfold KV at r
 induction r with
 | nil=>rfl
 | cons h t ih=>rw [List.any_cons,List.any_cons,ih,h.1]
theorem KV.repl {kvs:List (κ×V)} {vs:List (κ×Value)} (r:KV kvs vs) (k:κ) {y:V} {u:Value} (ry:RelV y u) :
  KV (kvs.map fun kv=>if kv.1=k then (kv.1,y) else kv) (vs.map fun kv=>if kv.1=k then (kv.1,u) else kv):=by
 unfold KV at r ⊢
 induction r with
 | nil=>exact .nil
 | @cons p q ps qs h t ih =>
  rw [List.map_cons,List.map_cons]
  refine .cons ?_ ih
  obtain ⟨h1,h2⟩:=h
  by_cases e:p.1=k
  ·rw [if_pos e,if_pos (h1.symm.trans e)];exact ⟨h1,ry⟩
  ·rw [if_neg e,if_neg (fun z=>e (h1.trans z))];exact ⟨h1,h2⟩
theorem KV.put {kvs:List (κ×V)} {vs:List (κ×Value)} (r:KV kvs vs) (k:κ) {y:V} {u:Value} (ry:RelV y u):KV (putK kvs k y) (stored vs k u):=by
 unfold putK stored
 rw [r.any k]
 by_cases e:(vs.any fun kv=>decide (kv.1=k))=true
 ·rw [if_pos e,if_pos e];exact r.repl k ry
 ·rw [if_neg e,if_neg e];exact Paired.snoc r ⟨rfl,ry⟩
end
theorem kV_is {P:Program} {w:World} {k:Key} {u:Value} (r:RelV (kV k) u):(mixKind P w).is k u=true:=by
 cases k with
 | inl i=>obtain ⟨t,e⟩:=(show ∃ t,u=Value.int i t from r);subst e;exact zaG P w i t
 | inr x=>obtain ⟨t,e⟩:=(show ∃ t,u=Value.str x t from r);subst e;exact yaG P w x t
theorem zaE {P:Program} {w:World}:∀ {ks:List Key} {us:List Value},Vals (ks.map kV) us→ItemsAre (mixKind P w) ks us
 | [],_,r=>by rw [List.map_nil] at r;cases r;exact .nil
 | k :: ks,_,r=>by
  rw [List.map_cons] at r
  cases r with
  | cons h t=>exact .cons (kV_is h) (zaE t)
section
variable {P:Program} {w:World} {H:Hp} {h:Heap} {a:Addr}
theorem rd_of {u:HO} (ok:HOk P w H h) (e:Rd H a u):ObjOk P w H h a u:=e.ok ok
theorem dk_rd {kvs:List (Key×V)} (ok:HOk P w H h) (e:Rd H a (.dK kvs)):kvs.length≤sizeLine∧(a == sysModules)=false∧∃ vs,KV kvs vs∧h.DictOf (mixKind P w) a vs :=
 show ObjOk P w H h a (.dK kvs) from rd_of ok e
theorem dk_of {kvs:List (Key×V)} (ok:HOk P w H h) (e:H a=some (.dK kvs)):kvs.length≤sizeLine∧(a == sysModules)=false∧∃ vs,KV kvs vs∧h.DictOf (mixKind P w) a vs:=dk_rd ok (.inl e)
theorem Za5 {ks:List Key} (ok:HOk P w H h) (e:H a=some (.tup (ks.map kV))):(tupleKind (mixKind P w)).is h ks a:=by
 obtain ⟨_,its,r,o,h1,h2,_,n,h3⟩:=(show ObjOk P w H h a (.tup (ks.map kV)) from ok a _ e)
 exact ⟨o,its.toArray,n,h1,h2,h3,by simpa using zaE r⟩
end
section
variable {X:Cx} {pins:List (Addr×Obj)} {σ:St} {H:Hp} {s:Shared} {a:Addr} {y v:V} {u r:Value} {o:Option V} {A:Around} {E:Value→Shared→Prop}
theorem Inv.big (I:Inv X pins σ H s):sysModules < s.heap.objs.size:=by
 have h:mainGlobals < s.heap.objs.size:=(I.mod.glob.keeps I.bk).lt
 exact Nat.lt_trans (by decide) h
theorem Ya9 {h':Heap} {t':Nat} {ob:HO} (I:Inv X pins σ H s) (mu:Mut (H a)) (hs:Heap.SameBut a s.heap h') (he:∃ q,h'.get? a=some q) (new:ObjOk X.prog X.w (upd H a ob) h' a ob) :
  Inv X pins σ (upd H a ob) { s with heap:=h',toks:=t' } :=
 I.write (x:=a) (e:=a) mu (.inl rfl) (fun b q hb z=>(hs.2 b hb).trans z) he new
theorem dk_new {P:Program} {w:World} {H':Hp} {h':Heap} {kvs:List (Key×V)} {vs:List (Key×Value)} (z:kvs.length≤sizeLine) (hd:(a == sysModules)=false) (rel:KV kvs vs) (dd:h'.DictOf (mixKind P w) a vs) :
  ObjOk P w H' h' a (.dK kvs):=⟨z,hd,vs,rel,dd⟩
end
section
variable {X:Cx} {pins:List (Addr×Obj)} {σ:St} {H:Hp} {s:Shared} {a:Addr} {kvs:List (Key×V)} {k:Key} {u:Value} {A:Around} {E:Value→Shared→Prop}
end
section
variable {X:Cx} {o i e value:Expr} {pos pos' tpos:Pos} {td ty tv:TE}
end
theorem zaY {P:Program} {w:World} {H:Hp} (h:Heap) (hb:sysModules < h.objs.size):ObjOk P w H (h.push { cls:=.type "dict",data:=.dict #[] }) h.objs.size (.dK []) :=
 ⟨Nat.zero_le _,beq_eq_false_iff_ne.mpr (Ne.symm (Nat.ne_of_lt hb)),[],.nil,Heap.DictOf.new h⟩
section
variable {X:Cx} {pos:Pos}
end
noncomputable def tPairs:List (TE×TE)→St→Hp→(List (V×V)→Hp→Prop)→Prop
 | [],_,H,Q=>Q [] H
 | (tk,tv) :: r,σ,H,Q=>tk σ H fun x H1=>tv σ H1 fun y H2=>tPairs r σ H2 fun ps H3=>Q ((x,y) :: ps) H3
abbrev VV:List (V×V)→List (Value×Value)→Prop:=Paired fun p q=>RelV p.1 q.1∧RelV p.2 q.2
noncomputable def PPs (X:Cx) (pos:Pos) (keys:List (Option Expr)) (values:List Expr) (trs:List (TE×TE)):Prop :=
 ∀ (pins:List (Addr×Obj)) (s:Shared) (σ:St) (H:Hp) (Q:List (V×V)→Hp→Prop),Inv X pins σ H s→tPairs trs σ H Q →
  wpAny (model X.prog X.w) X.A (evalPairs (pairTrees keys values X.env pos)) (fun vs s'=>∃ ps H',Inv X pins σ H' s'∧VV ps vs∧Q ps H') X.xe s
theorem xa9 {X:Cx} {pos:Pos}:PPs X pos [] [] []:=fun pins s σ H Q I h=>pairTrees_nil_walk ⟨[],H,I,.nil,h⟩
theorem yaY {X:Cx} {pos:Pos} {k v:Expr} {ks:List (Option Expr)} {vs:List Expr} {tk tv:TE} {trs:List (TE×TE)} (hk:PE X k tk) (hv:PE X v tv) (hr:PPs X pos ks vs trs) :
  PPs X pos (some k :: ks) (v :: vs) ((tk,tv) :: trs):=fun pins s σ H Q I h =>
 pairTrees_cons_walk (thn (hk pins s σ H _ I h) fun u s1 ⟨x,H1,I1,rx,q1⟩=>thn (hv pins s1 σ H1 _ I1 q1) fun w2 s2 ⟨y,H2,I2,ry,q2⟩ =>
  thn (hr pins s2 σ H2 _ I2 q2) fun ws s3 ⟨ps,H3,I3,rel,q3⟩=>⟨(x,y) :: ps,H3,I3,.cons ⟨rx,ry⟩ rel,q3⟩)
noncomputable def mergeK (kvs more:List (Key×V)):List (Key×V):=more.foldl (fun acc kv=>putK acc kv.1 kv.2) kvs
theorem KV.merge:∀ {more:List (Key×V)} {rs:List (Key×Value)} {kvs:List (Key×V)} {vs:List (Key×Value)},KV more rs→KV kvs vs→KV (mergeK kvs more) (merged vs rs):=by
 intro more rs kvs vs r
 unfold KV at r
 induction r generalizing kvs vs with
 | nil=>intro q;exact q
 | @cons p q ps qs h t ih =>
  intro r0
  have e:KV (putK kvs p.1 p.2) (stored vs q.1 q.2):=by
   have:=r0.put p.1 h.2
   rw [← h.1];exact this
  exact ih e
theorem Yar:∀ (more kvs:List (Key×V)),(mergeK kvs more).length≤kvs.length + more.length
 | [],kvs=>by show kvs.length≤kvs.length + 0;omega
 | p :: r,kvs=>by
  have h1:=Yar r (putK kvs p.1 p.2)
  have h2:=xaG kvs p.1 p.2
  show (mergeK (putK kvs p.1 p.2) r).length≤_
  rw [List.length_cons];omega
theorem Yaz {P:Program} {w:World}:∀ {kvs:List (Key×V)} {ws:List (Value×Value)},VV (kvs.map fun kv=>(kV kv.1,kv.2)) ws→∃ rs,Carries (mixKind P w) ws rs∧KV kvs rs
 | [],_,r=>by rw [List.map_nil] at r;cases r;exact ⟨[],True.intro,.nil⟩
 | p :: kvs,_,r=>by
  rw [List.map_cons] at r
  cases r with
  | @cons a b as bs h t =>
   obtain ⟨rs,c,q⟩:=Yaz (P:=P) (w:=w) t
   obtain ⟨b1,b2⟩:=b
   exact ⟨(p.1,b2) :: rs,⟨kV_is h.1,rfl,c⟩,.cons ⟨rfl,h.2⟩ q⟩
noncomputable def tDisp (trs:List (TE×TE)):TE:=fun σ H Q=>∀ p,H p=none→tPairs trs σ (upd H p (.dK [])) fun ps H2=>H2 p=some (.dK [])∧∃ kvs:List (Key×V),ps=kvs.map (fun kv=>(kV kv.1,kv.2))∧kvs.length≤15∧Q (.ref p) (upd H2 p (.dK (mergeK [] kvs)))
theorem Xa9 {X:Cx} {pos:Pos} {keys:List (Option Expr)} {values:List Expr} {trs:List (TE×TE)} (h:PPs X pos keys values trs) (hall:keys.all (·.isSome)=true) (hl:keys.length=values.length) (h0:keys≠[])
  (h15:keys.length≤15):PE X (.Dict keys values pos) (tDisp trs):=by
 intro pins s σ H Q I q
 have hn:=I.hok.fresh (Nat.le_refl s.heap.objs.size)
 have I1:=I.laid (a:=s.heap.objs.size) (o:=.dK []) (h':=s.heap.push { cls:=.type "dict",data:=.dict #[] }) (t':=s.toks) (fun _ _ q=>Heap.get?_push_of_some _ q) (Nat.le_refl _) (zaY s.heap I.big)
 refine wpAny_Dict_walk (knd:=mixKind X.prog X.w) hall hl h0 h15 (thn (h pins _ σ _ _ I1 (q _ hn)) fun ws s2 ⟨ps,H2,I2,rel,e,kvs,ep,lk,q2⟩=>?_)
 subst ep
 obtain ⟨rs,c,rk⟩:=Yaz (P:=X.prog) (w:=X.w) rel
 obtain ⟨z,hd,vs0,r0,dd⟩:=dk_of I2.hok e
 cases r0
 refine ⟨rs,c,dd,fun h' dd' hs=>⟨.ref s.heap.objs.size,_,?_,rfl,q2⟩⟩
 have hz:(mergeK [] kvs).length≤sizeLine:=by
  have h1:=Yar kvs []
  rw [List.length_nil] at h1
  rw [sizeLine_eq];omega
 have he:∃ q,h'.get? s.heap.objs.size=some q:=let ⟨q,_,_,hq,_⟩:=dd';⟨q,hq⟩
 exact Ya9 I2 (by rw [e];exact True.intro) hs he (dk_new hz hd (rk.merge .nil) dd')
section
variable {X:Cx} {pins:List (Addr×Obj)} {σ:St} {H:Hp} {s:Shared} {a:Addr} {y d:V} {u r:Value} {o:Option V} {A:Around} {E:Value→Shared→Prop}
end
section
variable {X:Cx} {o e f:Expr} {apos cpos:Pos} {td ty tx:TE}
end
section
variable {X:Cx} {pins:List (Addr×Obj)} {σ:St} {H:Hp} {s:Shared} {a:Addr} {kvs:List (Key×V)} {A:Around} {E:Value→Shared→Prop}
end
section
variable {X:Cx} {pins:List (Addr×Obj)} {σ:St} {H:Hp} {s:Shared} {a:Addr} {y:V} {u:Value} {A:Around} {E:Value→Shared→Prop}
end
end L2
namespace Att
open PySem PySem.W PySem.Calls PyProof.Rows
theorem xav {P:Params} {h:Heap}:∀ (ns:List Int) (vs:List Value),WellAll P h vs (ns.map WData.int)→IntsAre vs ns:=by
 intro ns
 induction ns with
 | nil =>
  intro vs w
  rw [List.map_nil] at w
  cases w
  exact .nil
 | cons n ns ih =>
  intro vs w
  rw [List.map_cons] at w
  cases w with
  | cons a b =>
   cases a
   exact .cons _ _ (ih _ b)
theorem ZaQ {l:OpenLaw} {n:Nat} (hn:l.most=some n) {P:Params} {h:Heap} {args:List WData} {vals:List Value}
  (hpre:l.row.toRowW.claim.pre args=true) (hwl:WellAll P h vals args) :
  ∃ a vs ns,vals=[Value.ref a]∧args=[WData.list (ns.map WData.int)]∧h.get? a=some { cls:=.type "list",data:=.seq vs.toArray }∧IntsAre vs ns∧ns.length≤n:=by
 have hsh:WShape.hasAll [] args [.list .int]=true:=(pre_splitW hpre).1
 have hc:l.pre.holds [] { args:=args }=true:=(pre_splitW hpre).2
 obtain ⟨d,r,rfl,h1,h2⟩:=hasAllW_cons hsh
 obtain rfl:=hasAllW_nil h2
 obtain ⟨xs,rfl,h3⟩:=hasW_list h1
 obtain ⟨ns,rfl⟩:=items_int h3
 have hlen:ns.length≤n:=by
  unfold OpenLaw.pre at hc
  have h4:(WTm.not (.lt (.lit (.int (n:Int))) (.len (.arg 0)))).holds [] { args:=[.list (ns.map .int)] }=true:=by
   have h4:=(holds_andW hc).1
   rw [hn] at h4
   exact h4
  have h5:=condW_of h4 (w_not (w_lt w_lit (w_len_list (w_arg rfl))))
  rw [List.length_map] at h5
  refine Nat.le_of_not_lt fun q=>?_
  have q':(n:Int) < ((ns.length:Nat):Int):=by omega
  first
   | (rw [decide_eq_true q'] at h5;exact absurd h5 (by decide))
   | (simp at h5;omega)
 cases hwl with
 | cons w1 w2 =>
  cases w2
  cases w1 with
  | list ho hall=>exact ⟨_,_,ns,rfl,rfl,ho,xav ns _ hall,hlen⟩
theorem YaQ (l:OpenLaw) (args:List WData):l.row.toRowW.claim.post args (.bool true) args=true :=
 postW_of (r:=l.row.toRowW) (X:=(true == true))
  (show WShape.has [] (.bool true) .bool=true by first | rfl | decide | simp [WShape.has,WShape.arms,WShape.armsAll])
  (show (WTm.eq .res (.lit (.bool true))).value [] { args:=args,res:=some (.bool true),after:=args }=some (.bool (true == true)) from w_eq_bool (w_res rfl) w_lit) rfl
theorem XaG {l:OpenLaw} {n:Nat} {q:Program} {loose:List Str} {XP:(Str→Option Value)→Heap→Prop} {YP:World→Heap→Prop} {d:DefRec}
  (hn:l.most=some n) (hdf:d.params.defaults=[])
  (call:∀ (w:World) (s₀ s₁:Shared) (mg mb:Str→Option Value) (fa:Addr) (o:Obj) (pm cd doc:Value) (a:Addr) (vs:List Value) (ns:List Int),
   Ground q loose [] XP w s₀ mg mb s₁.heap→YP w s₁.heap →
   s₁.heap.get? fa=some o→o.data=.func (docDef d.name d.params d.body d.scope pm cd doc)→s₁.heap.CodeRec cd d.name→mg d.name=some (.ref fa) →
   s₁.heap.get? a=some { cls:=.type "list",data:=.seq vs.toArray }→IntsAre vs ns→ns.length≤n→s₁.gens=#[] →
   codeAny (model l.prog w) callerA (.call (.ref fa) ⟨[.ref a],[]⟩) (fun r s'=>r=.ok (.ret (.bool true))∧OldK s₁.heap s'.heap∧s'.os=s₁.os∧AllBare s'.gens) s₁) :
  WalkO q loose XP YP l.row.toRowW d [] (fun f vs=>PySem.call f vs):=by
 intro w s₀ s₁ mg mb G Y fa o pm cd doc dV kV ho hd hcd hD hmg hg args vals as hpre hlay hrd hwl hlo
 obtain rfl:dV=.none:=Dflts.none hD hdf
 obtain rfl:kV=.none:=Dflts.noKw hD
 obtain ⟨a,vs,ns,rfl,rfl,hobj,hints,hlen⟩:=ZaQ hn hpre hwl
 refine enter_call (codeAny_mono (call w s₀ s₁ mg mb fa o pm cd doc a vs ns G Y ho (fd_plain hd) hcd hmg hobj hints hlen hg) fun r s' hq=>?_)
 obtain ⟨rfl,h2,h3,h4⟩:=hq
 exact ⟨.inl ⟨.bool true,.bool true,[],rfl,fun _=>rfl,.bool true,YaQ l _,fun _=>⟨List.Pairwise.nil,fun _ hm=>(nomatch hm)⟩⟩,h2,h3,h4⟩
section
variable {prog:Program} {w:World} {A:Around} {E:Value→Shared→Prop} {s:Shared} {K:Frag}
end
end Att
namespace L2
open PySem PySem.Spec PyProof.Rows
theorem yaE:∀ {vs:List Value} {ns:List Int},IntsAre vs ns→Vals (ns.map V.int) vs
 | _,_,.nil=>.nil
 | _,_,.cons n t h=>.cons ⟨t,rfl⟩ (yaE h)
noncomputable def Only (H:Hp):Prop:=∀ b,H b=none∨∃ o xs,H b=some (.frz o (.lst xs))
theorem ZaY {P:Program} {w:World} {K:PySem.W.Frag} {mg mb:Str→Option Value} {CX:CXT} {k:Nat} {fa a:Addr} {fd:FuncData} {x:Str} {sp:Sp} {s₁:Shared} {vs:List Value} {ns:List Int}
  (KX:K.In s₁.heap) (hns:s₁.heap.Ns mainGlobals mg) (hb:s₁.heap.Ns builtinsNs mb) (hbb:∀ x:Str,x≠"__name__" → mb x=bootBuiltins x) (hlim:s₁.heap.NoLimit) (hg:s₁.gens=#[])
  (ha:s₁.heap.get? a=some { cls:=.type "list",data:=.seq vs.toArray }) (hi:IntsAre vs ns) (hl:ns.length≤sizeLine) (hr:Room k callerA)
  (F:∀ base:Heap,K.In base→base.Ns mainGlobals mg→FnOk P w K mg base CX k fa fd [x] sp) (hbind:∀ (s:Shared) (u:Value),BindsTo s fd ⟨[u],[]⟩ [(x,u)])
  (hsp:∀ H:Hp,Only H→SqL K H a (ns.map V.int)→sp [.ref a] H (fun v _=>v=.bl true) fun _ _ _=>False)
  (hCX:∀ H e s',CX [] H s₁ (fun _ _ _=>False) e s'→False) :
  codeAny (model P w) callerA (.call (.ref fa) ⟨[.ref a],[]⟩) (fun r s'=>r=.ok (.ret (.bool true))∧OldK s₁.heap s'.heap∧s'.os=s₁.os∧AllBare s'.gens) s₁:=by
 have rv:=yaE hi
 have lenV:=hi.length
 have core:∀ H:Hp,Only H→SqL K H a (ns.map V.int)→HOk P w H s₁.heap→(∀ b,H b≠none→b=a)→(H a≠none→K.lookup a=none) →
   codeAny (model P w) callerA (.call (.ref fa) ⟨[.ref a],[]⟩) (fun r s'=>r=.ok (.ret (.bool true))∧OldK s₁.heap s'.heap∧s'.os=s₁.os∧AllBare s'.gens) s₁:=by
  intro H hO hS hok hA hK
  have base_of:∀ {b:Addr} {o:Obj},s₁.heap.get? b=some o→H b=none→(hidT s₁.heap H).get? b=some o:=fun e n=>xaX e n
  have noA:∀ {b:Addr} {o:Obj} {es:Array DictEntry} {ep:Nat},s₁.heap.get? b=some o→o.data=.dict es ep→H b=none:=fun {b o es ep} e d=>by
   cases q:H b with
   | none=>rfl
   | some u =>
    have e':b=a:=hA b (by rw [q];simp)
    subst e'
    rw [ha] at e;cases e
    have d':Data.seq vs.toArray _=Data.dict es ep:=d
    cases d'
  have nsK:∀ {b:Addr} {m:Str→Option Value},s₁.heap.Ns b m→(hidT s₁.heap H).Ns b m:=fun {b m} ⟨o,es,ep,e,d,r⟩=>⟨o,es,ep,base_of e (noA e d),d,r⟩
  have hKb:K.In (hidT s₁.heap H):=fun b o e=>base_of (KX b o e) (by
   cases q:H b with
   | none=>rfl
   | some u =>
    have e':b=a:=hA b (by rw [q];simp)
    subst e'
    rw [hK (by rw [q];simp)] at e;cases e)
  have hM:Mod K mg (hidT s₁.heap H):=⟨hKb,nsK hns,⟨mb,nsK hb,hbb⟩,let ⟨mc,h1,h2⟩:=hlim;⟨mc,nsK h1,h2⟩⟩
  have e0:Env0 P w K mg (hidT s₁.heap H) callerA [] s₁ H:=⟨rfl,hM,fun b o e=>xa7 e,Nat.le_of_eq (xaN _ _),trivial,fun b hb=>absurd (show b∈([]:List Addr) from hb) (by simp),hok,.of_eq hg⟩
  refine codeAny_mono ((F _ hKb (nsK hns)).run callerA [] s₁ H ⟨[.ref a],[]⟩ [.ref a] [.ref a] _ _ hr e0 (hbind s₁ (.ref a)) (.cons rfl .nil) (hsp H hO hS)) fun r s' h=>?_
  cases r with
  | error e=>exact (hCX H e s' h).elim
  | ok fl =>
   cases fl with
   | next=>exact False.elim h
   | brk=>exact False.elim h
   | cont=>exact False.elim h
   | ret u =>
    obtain ⟨v,H',os,bare,un,hok',r',q⟩:=h
    have q':v=.bl true:=q
    subst q'
    obtain rfl:u=Value.bool true:=r'
    refine ⟨rfl,OldK.of_keep fun b o e=>?_,os,bare⟩
    cases q:H b with
    | none=>exact un.keep b o e q (by intro z;exact absurd (show b∈([]:List Addr) from z) (by simp)) (by simp)
    | some u =>
     rcases hO b with z | ⟨ob,xs,z⟩
     ·rw [q] at z;cases z
     ·have z2:=un.frzs b ob _ z
      obtain ⟨e1,_⟩:=hok b _ z
      obtain ⟨e2,_⟩:=hok' b _ z2
      rw [e] at e1;cases e1
      exact e2
 cases hk:K.lookup a with
 | some o =>
  have e:=KX a o hk
  rw [ha] at e
  cases e
  refine core (fun _=>none) (fun _=>.inl rfl) (.inr ⟨_,vs.toArray,_,hk,rfl,rfl,rfl,by rw [List.size_toArray,lenV];exact hl,by simpa using rv⟩) (fun b u z=>by have z':(none:Option HO)=some u:=z;cases z') (fun b z=>absurd rfl z) fun z=>absurd rfl z
 | none =>
  refine core (fun b=>if b=a then some (.frz { cls:=.type "list",data:=.seq vs.toArray } (.lst (ns.map V.int))) else none) (fun b=>?_) (.inl (.inr ⟨{ cls:=.type "list",data:=.seq vs.toArray },if_pos rfl⟩)) (fun b u z=>?_) (fun b z=>?_) fun _=>hk
  ·by_cases hb:b=a
   ·exact .inr ⟨_,_,if_pos hb⟩
   ·exact .inl (if_neg hb)
  ·by_cases hb:b=a
   ·have z':=(if_pos hb).symm.trans z
    cases z'
    subst hb
    exact ⟨ha,by rw [List.length_map];exact hl,vs,_,rv,ha⟩
   ·have z':=(if_neg hb).symm.trans z
    cases z'
  ·by_cases hb:b=a
   ·exact hb
   ·exact absurd (if_neg hb) z
end L2
namespace L2
open PySem PySem.Spec PyProof.Rows
abbrev KOf {K:PySem.W.Frag} {h:Heap} (_:K.In h):PySem.W.Frag:=K
theorem zba {l:PySem.W.OpenLaw} {n k:Nat} {q:Program} {loose:List Str} {XP:(Str→Option Value)→Heap→Prop} {YP:World→Heap→Prop} {d:DefRec} {K:Params→PySem.W.Frag} {CX:World→CXT} {sp:World→Sp} {x:Str}
  (hn:l.most=some n) (hn2:n≤sizeLine) (hdf:d.params.defaults=[]) (hr:Room k callerA)
  (hY:∀ (w:World) (h:Heap),YP w h→(K w.params).In h)
  (F:∀ (w:World) (mg:Str→Option Value) (fa:Addr) (h:Heap),(K w.params).In h→h.Ns mainGlobals mg→mg d.name=some (.ref fa) →
   ∃ fd:FuncData,(∀ (s:Shared) (u:Value),BindsTo s fd ⟨[u],[]⟩ [(x,u)]) ∧
    ∀ base:Heap,(K w.params).In base→base.Ns mainGlobals mg→FnOk l.prog w (K w.params) mg base (CX w) k fa fd [x] (sp w))
  (hsp:∀ (w:World) (H:Hp) (a:Addr) (ns:List Int),ns.length≤n→Only H→SqL (K w.params) H a (ns.map V.int)→sp w [.ref a] H (fun v _=>v=.bl true) fun _ _ _=>False)
  (hCX:∀ (w:World) (H:Hp) (s:Shared) (e:Value) (s':Shared),CX w [] H s (fun _ _ _=>False) e s'→False) :
  PySem.W.WalkO q loose XP YP l.row.toRowW d [] (fun f vs=>PySem.call f vs):=by
 refine Att.XaG hn hdf fun w s₀ s₁ mg mb fa o pm cd doc a vs ns G Y ho hd hcd hmg hobj hints hlen hg=>?_
 have KX:=hY w _ Y
 obtain ⟨fd,hb,hF⟩:=F w mg fa _ KX G.T.g hmg
 exact ZaY KX G.T.g G.T.b G.T.builtins G.T.nolimit hg hobj hints (Nat.le_trans hlen hn2) hr hF hb (fun H hO hS=>hsp w H a ns hlen hO hS) fun H e s'=>hCX w H s₁ e s'
theorem YaY {l:PySem.W.OpenLaw} {n k:Nat} {q:Program} {loose:List Str} {XP:(Str→Option Value)→Heap→Prop} {YP:World→Heap→Prop} {d:DefRec} {K:Params→PySem.W.Frag} {CX:CXT} {sp:PySem.W.Frag→Sp} {x:Str}
  (hn:l.most=some n) (hn2:n≤sizeLine) (hdf:d.params.defaults=[]) (hr:Room k callerA)
  (hY:∀ (w:World) (h:Heap),YP w h→(K w.params).In h)
  (F:∀ (w:World) (mg:Str→Option Value) (fa:Addr) (h:Heap),(K w.params).In h→h.Ns mainGlobals mg→mg d.name=some (.ref fa) →
   ∃ fd:FuncData,(∀ (s:Shared) (u:Value),BindsTo s fd ⟨[u],[]⟩ [(x,u)]) ∧
    ∀ base:Heap,(K w.params).In base→base.Ns mainGlobals mg→FnOk l.prog w (K w.params) mg base CX k fa fd [x] (sp (K w.params)))
  (hsp:∀ (K:PySem.W.Frag) (H:Hp) (a:Addr) (ns:List Int),ns.length≤n→Only H→SqL K H a (ns.map V.int)→sp K [.ref a] H (fun v _=>v=.bl true) fun _ _ _=>False)
  (hCX:∀ (H:Hp) (s:Shared) (e:Value) (s':Shared),CX [] H s (fun _ _ _=>False) e s'→False) :
  PySem.W.WalkO q loose XP YP l.row.toRowW d [] (fun f vs=>PySem.call f vs) :=
 zba (K:=K) (CX:=fun _=>CX) (sp:=fun w=>sp (K w.params)) hn hn2 hdf hr hY F (fun w H a ns h1 h2 h3=>hsp (K w.params) H a ns h1 h2 h3) fun _ H s e s'=>hCX H s e s'
end L2
namespace L2
open PySem PySem.Spec PyProof.Rows
noncomputable def defArgs (s:Stmt):Arguments:=match s with
 | .FunctionDef _ a _ _ _ _ _ _ _ _=>a
 | _=>{ posonlyargs:=[],args:=[],vararg:=none,kwonlyargs:=[],kw_defaults:=[],kwarg:=none,defaults:=[] }
noncomputable def defBody (s:Stmt):List Stmt:=match s with
 | .FunctionDef _ _ b _ _ _ _ _ _ _=>b
 | _=>[]
noncomputable def defScope (s:Stmt):Scope:=match s with
 | .FunctionDef _ _ _ _ _ _ sc _ _ _=>sc
 | _=>{ kind:=.function,names:=[],isGenerator:=false,isCoroutine:=false }
abbrev CX0:CXT:=fun _ _ _ _ _ _=>False
abbrev E0:XK:=fun _ _ _=>False
theorem pass0 {X:Cx}:Passes CX0 X E0:=fun _ _ _ _ _ _ _ h=>h.elim
structure Fun (K:PySem.W.Frag) (x qual:Str) (st:Stmt) (f:Addr) (fd:FuncData):Prop where
 ex:∃ (oc:Value) (od:Option Addr) (kV doc pm:Value) (an:Option Addr) (cdv ct:Value) (osl:Array (Option Value)),
  fd=PySem.W.fnOf x qual (defArgs st) (defBody st) (defScope st) .none kV doc pm an cdv ct∧K.lookup f=some ⟨oc,od,.func fd,osl⟩∧PySem.W.codeIn K cdv qual=true
 kp:PySem.W.keepIn K (.ref f)=true
section
variable {P:Program} {w:World} {K:PySem.W.Frag} {mg:Str→Option Value} {base:Heap}
theorem Fun.ok {x qual:Str} {st:Stmt} {f:Addr} {fd:FuncData} {N ps:List Str} {k:Nat} {sp:Sp} (F:Fun K x qual st f fd) (S:FnScope N ps (defScope st)) (len:∀ vs H Q E,sp vs H Q E→vs.length=ps.length)
  (hbody:∀ (cdv:Value) (A:Around) (outer:List Env) (s:Shared) (H:Hp) (vs:List V) (Q:VK) (E:XK),Room k (A.deeper (envOfC qual (defScope st) s.heap.objs.size f cdv))→sp vs H Q E →
   ∃ t,PSs (cxOf CX0 P w K mg base N qual (defScope st) f cdv A outer s H E).nox (defBody st) t∧t { nx:=fun _ H'=>Q .non H',rt:=Q } (start N vs) H):FnOk P w K mg base CX0 (k + 1) f fd ps sp:=by
 obtain ⟨oc,od,kV,doc,pm,an,cdv,ct,osl,rfl,lk,hcd⟩:=F.ex
 refine fn_of lk hcd S len fun A outer s H vs Q E hr hsp=>?_
 obtain ⟨t,h,q⟩:=hbody cdv A outer s H vs Q E hr hsp
 exact ⟨t,h.nox,q⟩
theorem Ya5 {x qual:Str} {st:Stmt} {f:Addr} {oc:Value} {od an:Option Addr} {osl:Array (Option Value)} {kV doc pm cdv ct:Value} (l:K.lookup f=some ⟨oc,od,.func (PySem.W.fnOf x qual (defArgs st) (defBody st) (defScope st) .none kV doc pm an cdv ct),osl⟩)
  (c:PySem.W.codeIn K cdv qual=true) (k:PySem.W.keepIn K (.ref f)=true):Fun K x qual st f (PySem.W.fnOf x qual (defArgs st) (defBody st) (defScope st) .none kV doc pm an cdv ct):=⟨⟨oc,od,kV,doc,pm,an,cdv,ct,osl,rfl,l,c⟩,k⟩
end
theorem ZaE {A:Around} {k:Nat} (hr:Room k A):A.units + 1 < cLine:=Nat.lt_of_le_of_lt (Nat.add_le_add_left (by decide:1≤64) _) hr.units
section
variable {X:Cx}
theorem pv (i:Nat) {x:Str} {pos:Pos} (hN:X.N[i]?=some x:=by rfl) (hv:Vis X.env.scope x:=by first | exact Or.inl rfl | exact Or.inr (Or.inl rfl) | exact Or.inr (Or.inr rfl)) (hd:(x == ("__debug__" : Str))=false:=by decide)
  (hcd:(x == ("__classdict__" : Str))=false:=by decide):PE X (.Name x pos) (tVar i):=pe_var hN hv hd hcd
end
theorem iteF {A B:Prop} (h:B):if false=true then A else B:=by
 rw [if_neg Bool.false_ne_true]
 exact h
theorem iteT {A B:Prop} (h:A):if true=true then A else B:=by
 rw [if_pos rfl]
 exact h
noncomputable def Same (H H':Hp):Prop:=∀ b o,H b=some o→H' b=some o
section
variable {X:Cx}
end
section
variable {κ:Type} [DecidableEq κ]
end
end L2
namespace L2
open PySem PySem.Spec PyProof.Rows
theorem xaQ:bootBuiltins "len" = some (.builtin "len"):=by decide +kernel
theorem xac:bootBuiltins "isinstance" = some (.builtin "isinstance"):=by decide +kernel
theorem XaQ:bootBuiltins "repr" = some (.builtin "repr"):=by decide +kernel
theorem bt_all:bootBuiltins "all" = some (.builtin "all"):=by decide +kernel
structure Kp (ch:List Addr) (H H':Hp):Prop where
 keep:∀ b o,H b=some o→b ∉ ch→H' b=some o
 tup:∀ b xs,H b=some (.tup xs)→H' b=some (.tup xs)
 frz:∀ b o u,H b=some (.frz o u)→H' b=some (.frz o u)
section
variable {ch:List Addr} {H H1 H2:Hp} {a l p:Addr} {o:HO} {xs ys:List V} {K:PySem.W.Frag}
theorem Kp.refl:Kp ch H H:=⟨fun _ _ h _=>h,fun _ _ h=>h,fun _ _ _ h=>h⟩
theorem Kp.of_same (h:Same H H1):Kp ch H H1:=⟨fun b o e _=>h b o e,fun b xs e=>h b _ e,fun b o u e=>h b _ e⟩
theorem Kp.put (h:Kp ch H H1) (ha:a∈ch) (e:H1 a=some (.lst xs)):Kp ch H (upd H1 a o) :=
 ⟨fun b u q n=>by rw [zac (fun z=>n (by rw [z];exact ha))];exact h.keep b u q n,
   fun b u q=>by
  have r:=h.tup b u q
  rw [zac (ne_of r e (by intro z;cases z))];exact r,
   fun b u v q=>by
  have r:=h.frz b u v q
  rw [zac (ne_of r e (by intro z;cases z))];exact r⟩
theorem Kp.sqT (h:Kp ch H H1) (q:SqT K H a xs):SqT K H1 a xs:=by
 rcases q with (q | ⟨o,q⟩) | q
 ·exact .inl (.inl (h.tup a xs q))
 ·exact .inl (.inr ⟨o,h.frz a o _ q⟩)
 ·exact .inr q
noncomputable def SqF (K:PySem.W.Frag) (H:Hp) (a:Addr) (xs:List V):Prop :=
 (∃ o,H a=some (.frz o (.lst xs))) ∨
  ∃ (o:Obj) (its:Array Value) (n:Nat),K.lookup a=some o∧o.cls=.type "list" ∧ o.dict=none∧o.data=.seq its n∧its.size≤sizeLine∧Vals xs its.toList
theorem SqF.sq (h:SqF K H a xs):SqL K H a xs:=h.elim (fun ⟨o,e⟩=>.inl (.inr ⟨o,e⟩)) .inr
theorem SqL.script (hO:Only H) (q:SqL K H a xs):SqF K H a xs:=by
 rcases q with (q | ⟨o,q⟩) | q
 ·rcases hO a with e | ⟨o,ys,e⟩
  ·rw [e] at q;cases q
  ·rw [e] at q;cases q
 ·exact .inl ⟨o,q⟩
 ·exact .inr q
theorem Same.up (h:H p=none):Same H (upd H p o):=fun b u e=>by rw [zac (Zah e h)];exact e
end
noncomputable def GotT (K:PySem.W.Frag) (H:Hp) (xs:List V) (Q:VK):Prop:=∀ p H',SqT K H' p xs→Same H H'→Q (.ref p) H'
section
variable {X:Cx}
end
mutual
inductive Rep (K:PySem.W.Frag) (H:Hp):V→PyData→Prop
 | non:Rep K H .non .none
 | bl (b:Bool):Rep K H (.bl b) (.bool b)
 | int (i:Int):Rep K H (.int i) (.int i)
 | str (x:Str):Rep K H (.str x) (.str x)
 | tup {a:Addr} {xs:List V} {ds:List PyData}:SqT K H a xs→Reps K H xs ds→Rep K H (.ref a) (.tuple ds)
 | lst {a:Addr} {xs:List V} {ds:List PyData}:SqL K H a xs→Reps K H xs ds→Rep K H (.ref a) (.list ds)
inductive Reps (K:PySem.W.Frag) (H:Hp):List V→List PyData→Prop
 | nil:Reps K H [] []
 | cons {v:V} {vs:List V} {d:PyData} {ds:List PyData}:Rep K H v d→Reps K H vs ds→Reps K H (v :: vs) (d :: ds)
end
section
variable {X:Cx} {pins:List (Addr×Obj)} {σ:St} {H:Hp} {s:Shared}
mutual
theorem Rep.reads (I:Inv X pins σ H s):∀ {v:V} {d:PyData} {u:Value},Rep X.K H v d→RelV v u→∃ as,Reads s.heap u d as
 | _,_,_,.non,r=>by cases r;exact ⟨_,.none⟩
 | _,_,_,.bl b,r=>by cases r;exact ⟨_,.bool b⟩
 | _,_,_,.int i,r=>by obtain ⟨t,rfl⟩:=r;exact ⟨_,.int i t⟩
 | _,_,_,.str x,r=>by obtain ⟨t,rfl⟩:=r;exact ⟨_,.str x t⟩
 | _,_,_,.tup q rs,r=>by
  cases r
  obtain ⟨its,rv,⟨o,e,c,n,hd⟩,_⟩:=I.tuple q
  obtain ⟨as,ra⟩:=Reps.reads I rs rv
  exact ⟨_,.tuple e c hd (by simpa using ra)⟩
 | _,_,_,.lst q rs,r=>by
  cases r
  obtain ⟨its,rv,pl,_⟩:=I.list q
  obtain ⟨o,e,c,n,hd⟩:=pl.isList
  obtain ⟨as,ra⟩:=Reps.reads I rs rv
  exact ⟨_,.list e c hd (by simpa using ra)⟩
theorem Reps.reads (I:Inv X pins σ H s):∀ {vs:List V} {ds:List PyData} {us:List Value},Reps X.K H vs ds→Vals vs us→∃ as,ReadsAll s.heap us ds as
 | _,_,_,.nil,r=>by cases r;exact ⟨_,.nil⟩
 | _,_,_,.cons h t,r=>by
  cases r with
  | cons r1 r2 =>
   obtain ⟨as,h1⟩:=Rep.reads I h r1
   obtain ⟨bs,h2⟩:=Reps.reads I t r2
   exact ⟨_,.cons h1 h2⟩
end
noncomputable def rEqD (K:PySem.W.Frag) (neg:Bool):R2:=fun x y H Q=>∃ d e,Rep K H x d∧Rep K H y e∧PyData.canLay0 d=true∧PyData.canLay0 e=true∧min d.depth e.depth≤60∧Q (.bl (if neg then !PyData.eqv d e else PyData.eqv d e)) H
theorem op_neD (hu:X.A.units + 64 < cLine):OpR X (compareOp .NotEq) (rEqD X.K true):=by
 intro pins s σ H x y v u Q I rx ry h
 obtain ⟨d,e,hd,he,c1,c2,dp,q⟩:=h
 obtain ⟨as,ra⟩:=hd.reads I rx
 obtain ⟨bs,rb⟩:=he.reads I ry
 exact SeqAt.neOverData X.prog X.w X.A X.xe s v u d e as bs _ ra rb c1 c2 (by omega) ⟨.bl _,H,I,rfl,q⟩
end
section
variable {K:PySem.W.Frag} {H:Hp}
end
end L2
namespace L2
open PySem PySem.Spec PyProof.Rows
structure Def (K:PySem.W.Frag) (mg:Str→Option Value) (x:Str) (st:Stmt) (ps:List Str) (f:Addr) (fd:FuncData):Prop where
 F:Fun K x x st f fd
 be:∀ us:List Value,us.length=ps.length→bindArgs fd ⟨us,[]⟩=pure (ps.zip us)
 m:mg x=some (.ref f)
theorem Def.b {K:PySem.W.Frag} {mg:Str→Option Value} {x:Str} {st:Stmt} {ps:List Str} {f:Addr} {fd:FuncData} (D:Def K mg x st ps f fd):Binds K fd ps []:=.all D.be
theorem Yat {K:PySem.W.Frag} {h:Heap} {mg:Str→Option Value} (X:K.In h) (G:h.Ns mainGlobals mg) {x:Str} {st:Stmt} {ps:List Str} {f:Addr} {oc:Value} {od an:Option Addr} {osl:Array (Option Value)} {kV doc pm cdv ct:Value}
  (hb:∀ (kV doc pm:Value) (an:Option Addr) (cdv ct:Value) (us:List Value),us.length=ps.length→bindArgs (PySem.W.fnOf x x (defArgs st) (defBody st) (defScope st) .none kV doc pm an cdv ct) ⟨us,[]⟩=pure (ps.zip us))
  (a:PySem.W.nsIn K mainGlobals x=some (some (.ref f))) (l:K.lookup f=some ⟨oc,od,.func (PySem.W.fnOf x x (defArgs st) (defBody st) (defScope st) .none kV doc pm an cdv ct),osl⟩)
  (c:PySem.W.codeIn K cdv x=true) (k:PySem.W.keepIn K (.ref f)=true):∃ f fd,Def K mg x st ps f fd :=
 ⟨f,_,Ya5 l c k,hb kV doc pm an cdv ct,PySem.W.mg_of X G a⟩
theorem Def.bindsTo {K:PySem.W.Frag} {mg:Str→Option Value} {x p:Str} {st:Stmt} {f:Addr} {fd:FuncData} (D:Def K mg x st [p] f fd) (s:Shared) (u:Value):BindsTo s fd ⟨[u],[]⟩ [(p,u)]:=.of_eq (D.be [u] rfl)
theorem yas {K:PySem.W.Frag} {h:Heap} {mg:Str→Option Value} (X:K.In h) (G:h.Ns mainGlobals mg) {x:Str} (z:PySem.W.nsIn K mainGlobals x=some none):mg x=none:=PySem.W.mg_none_of X G z
theorem atI_lt {α:Type} {xs:List α} {i:Int} (h0:0≤i) (h1:i < xs.length):∃ v,atI xs i=some v∧v∈xs:=by
 have hi:i.toNat < xs.length:=by omega
 refine ⟨xs[i.toNat],?_,List.getElem_mem hi⟩
 have:=zaQ (xs:=xs) (j:=i.toNat) (v:=xs[i.toNat]) (by simp [hi])
 rwa [Int.toNat_of_nonneg h0] at this
theorem dT {c:Prop} [Decidable c] (h:decide c=true):c:=of_decide_eq_true h
end L2
namespace L2
open PySem PySem.Spec PyProof.Rows
section
variable {prog:Program} {w:World} {A:Around} {E:Value→Shared→Prop} {s:Shared}
end
section
variable {X:Cx} {e:Expr} {te:TE} {pos p0 p1 p2:Pos} {j:Nat}
end
end L2
namespace L2
open PySem PySem.Spec PyProof.Rows
section
variable {K:PySem.W.Frag} {f:Addr} {H0:Hp} {σ:St} {i:Nat} {t u ta tb:TE} {R R':V→Hp→Prop} {P P' P2:Int→Prop} {L M:Nat}
end
end L2
namespace L2
open PySem PySem.Spec PyProof.Rows
theorem Xag:∀ (names:List (Str×NameKind)) (n:Nat) (acc:List (Str×Addr)),cellsFrom n names acc=cellsFrom n names [] ++ acc
 | [],_,_=>rfl
 | (x,k) :: r,n,acc=>by
  show (if k == .cell then cellsFrom (n + 1) r ((x,n) :: acc) else cellsFrom n r acc)=(if k == .cell then cellsFrom (n + 1) r [(x,n)] else cellsFrom n r []) ++ acc
  by_cases hk:(k == NameKind.cell)=true
  ·rw [if_pos hk,if_pos hk,Xag r (n + 1) ((x,n) :: acc),Xag r (n + 1) [(x,n)],List.append_assoc];rfl
  ·rw [if_neg hk,if_neg hk];exact Xag r n acc
theorem zao {x:Str} {c:Addr}:∀ (names:List (Str×NameKind)) (n:Nat),(x,c)∈cellsFrom n names []→(x,NameKind.cell)∈names∧n≤c
 | [],_,h=>nomatch h
 | (y,k) :: r,n,h=>by
  have h':(x,c)∈(if k == .cell then cellsFrom (n + 1) r [(y,n)] else cellsFrom n r []):=h
  by_cases hk:(k == NameKind.cell)=true
  ·rw [if_pos hk,Xag] at h'
   rcases List.mem_append.mp h' with h' | h'
   ·obtain ⟨h1,h2⟩:=zao r (n + 1) h'
    exact ⟨List.mem_cons_of_mem _ h1,by omega⟩
   ·have e:(x,c)=(y,n):=by simpa using h'
    cases e
    have e2:k=NameKind.cell:=by simpa using hk
    subst e2
    exact ⟨List.mem_cons_self,Nat.le_refl _⟩
  ·rw [if_neg hk] at h'
   obtain ⟨h1,h2⟩:=zao r n h'
   exact ⟨List.mem_cons_of_mem _ h1,h2⟩
theorem zap {env:Env} (f:Str×NameKind→List (Str×Addr)→Sem (ForInStep (List (Str×Addr))))
  (hf:∀ name kind cs,f (name,kind) cs=if kind == .free then (do let c ← cellOf env name;pure (.yield ((name,c) :: cs))) else pure (.yield cs)) :
  ∀ (names:List (Str×NameKind)) (acc:List (Str×Addr)),(∀ y∈names,y.2=NameKind.free→∃ c,env.cells.lookup y.1=some c) →
   ∃ cl,(forIn names acc f:Sem (List (Str×Addr)))=pure cl∧(∀ n c,(n,c)∈cl→(n,c)∈acc∨(env.cells.lookup n=some c∧(n,NameKind.free)∈names))∧(∀ p∈acc,p∈cl)∧∀ n,(n,NameKind.free)∈names→∃ c,(n,c)∈cl
 | [],acc,_=>⟨acc,by rw [List.forIn_nil],fun n c h=>.inl h,fun p h=>h,fun n h=>nomatch h⟩
 | (x,k) :: r,acc,h=>by
  have hr:∀ y∈r,y.2=NameKind.free→∃ c,env.cells.lookup y.1=some c:=fun y hy=>h y (List.mem_cons_of_mem _ hy)
  by_cases hk:k=NameKind.free
  ·subst hk
   obtain ⟨c,hc⟩:=h (x,.free) List.mem_cons_self rfl
   have e:cellOf env x=pure c:=by unfold cellOf;rw [hc]
   obtain ⟨cl,e1,h1,h2,h3⟩:=zap f hf r ((x,c) :: acc) hr
   refine ⟨cl,?_,fun n d hd=>?_,fun p hp=>h2 p (List.mem_cons_of_mem _ hp),fun n hn=>?_⟩
   ·rw [List.forIn_cons,hf,if_pos (by rfl),e]
    exact e1
   ·rcases h1 n d hd with q | ⟨q,q'⟩
    ·rcases List.mem_cons.mp q with q | q
     ·cases q;exact .inr ⟨hc,List.mem_cons_self⟩
     ·exact .inl q
    ·exact .inr ⟨q,List.mem_cons_of_mem _ q'⟩
   ·rcases List.mem_cons.mp hn with q | q
    ·cases q;exact ⟨c,h2 _ List.mem_cons_self⟩
    ·exact h3 n q
  ·obtain ⟨cl,e1,h1,h2,h3⟩:=zap f hf r acc hr
   have hb:¬ ((k == NameKind.free)=true):=by simpa using hk
   refine ⟨cl,?_,fun n d hd=>?_,h2,fun n hn=>?_⟩
   ·rw [List.forIn_cons,hf,if_neg hb]
    exact e1
   ·rcases h1 n d hd with q | ⟨q,q'⟩
    ·exact .inl q
    ·exact .inr ⟨q,List.mem_cons_of_mem _ q'⟩
   ·rcases List.mem_cons.mp hn with q | q
    ·cases q;exact absurd rfl hk
    ·exact h3 n q
theorem YaL {scope:Scope} {env:Env} (h:∀ y∈scope.names,y.2=NameKind.free→∃ c,env.cells.lookup y.1=some c) :
  ∃ cl,closureFor scope env=pure cl∧(∀ n c,(n,c)∈cl→env.cells.lookup n=some c∧(n,NameKind.free)∈scope.names)∧∀ n,(n,NameKind.free)∈scope.names→∃ c,(n,c)∈cl:=by
 have key:∀ (f:Str×NameKind→List (Str×Addr)→Sem (ForInStep (List (Str×Addr)))),(∀ name kind cs,f (name,kind) cs=if kind == .free then (do let c ← cellOf env name;pure (.yield ((name,c) :: cs))) else pure (.yield cs)) →
   ∃ cl,((forIn scope.names [] f:Sem (List (Str×Addr))) >>= fun r=>pure r)=pure cl∧(∀ n c,(n,c)∈cl→env.cells.lookup n=some c∧(n,NameKind.free)∈scope.names)∧∀ n,(n,NameKind.free)∈scope.names→∃ c,(n,c)∈cl:=fun f hf=>by
  obtain ⟨cl,e,h1,_,h3⟩:=zap f hf scope.names [] h
  refine ⟨cl,?_,fun n c hc=>(h1 n c hc).elim (fun z=>nomatch z) id,h3⟩
  rw [e]
  rfl
 simp only [closureFor]
 exact key _ fun name kind cs=>by cases hk:kind == NameKind.free <;> simp [hk]
theorem ltN {a b:Addr} (h:a < b):@LT.lt Nat _ a b:=h
theorem neL {a b:Addr} (h:@LT.lt Nat _ a b):a≠b:=Nat.ne_of_lt h
theorem neG {a b:Addr} (h:@LT.lt Nat _ b a):a≠b:=Nat.ne_of_gt h
theorem zaH {M:Model} {A:Around} {E:Value→Shared→Prop} {s:Shared} {scope:Scope} {g:Addr} {cl:List (Str×Addr)} {q:Str} {env:Env} {Q:Env→Shared→Prop}
  (h:∀ h',h'.Ns s.heap.objs.size (fun _=>none)→(∀ b o,s.heap.get? b=some o→h'.get? b=some o)→CellsOk h' (s.heap.objs.size + 1) (cellsFrom (s.heap.objs.size + 1) scope.names []) →
   Q { scope:=scope,locals:=s.heap.objs.size,globals:=g,cells:=cellsFrom (s.heap.objs.size + 1) scope.names cl,qual:=q,func:=none,code:=env.code,frame:=env.frame,builtins:=env.builtins } { s with heap:=h' }) :
  wpAny M A (newFunctionEnv scope g cl [] q none .none (some env)) Q E s:=by
 simp only [newFunctionEnv,Option.isSome_some,if_true]
 refine wpAny_bind (wpAny_alloc ?_)
 refine wpAny_bind (wpAny_layCells _ (fun name kind cells=>by cases hkc:kind == NameKind.cell <;> simp [hkc]) _ _ _ _ ?_)
 have ok:=cellsFrom_ok scope.names (s.heap.push { cls:=.type "dict",data:=.dict #[] }) (s.heap.objs.size + 1) [] ⟨fun _ _ hm=>(nomatch hm),List.Pairwise.nil⟩ (by rw [Heap.size_push];exact Nat.le_refl _)
 rw [Heap.size_push] at ok
 rw [show ({ s with heap:=s.heap.push { cls:=.type "dict",data:=.dict #[] } }:Shared).heap.objs.size=s.heap.objs.size + 1 from Heap.size_push ..]
 refine wpAny_bind ?_
 rw [List.forIn_nil]
 refine wpAny_pure (wpAny_pure ?_)
 exact h _ ((Heap.Ns.new s.heap (.type "dict")).keeps (pushCells_keeps _ _)) (fun b o e=>pushCells_keeps _ _ b o (Heap.get?_push_of_some _ e)) ok
noncomputable def cxComp (X:Cx) (N:List Str) (scope:Scope) (cells:List (Str×Addr)) (C:Addr) (fp:List Addr) (s:Shared) (H:Hp):Cx where
 prog:=X.prog
 w:=X.w
 K:=X.K
 mg:=X.mg
 base:=X.base
 A:=X.A
 N:=N
 s₀:=s
 H₀:=H
 env:=compEnvC scope cells C X.env
 outer:=X.stack
 stack:=X.stack
 ex:=fp
 fn:=fun x=>decide (scope.names.lookup x=some .cell)
 calm:=X.calm
 pn:=[]
 xe:=fun _ _=>False
noncomputable def relabelS (scope sc:Scope):Scope :=
 { scope with names:=scope.names.map fun (n,k)=>if (k == .free && sc.kind == .function && sc.names.lookup n == some .cell) then (n,.cell) else (n,k) }
structure CompS (sc scope:Scope) (own fr:List Str):Prop where
 kind:scope.kind=.function
 nd:(own ++ fr).Nodup
 ndn:(scope.names.map (·.1)).Nodup
 free:∀ y∈scope.names,y.2=.free→sc.names.lookup y.1=some .cell∨sc.names.lookup y.1=some .free
 frl:∀ x∈fr,scope.names.lookup x=some .free
structure CompSc (X:Cx) (scope:Scope) (own fr:List Str) (js:List Nat):Prop where
 c:CompS X.env.scope scope own fr
 ix:js.map (fun j=>X.N[j]?)=fr.map some
theorem CompSc.kind {X:Cx} {scope:Scope} {own fr:List Str} {js:List Nat} (S:CompSc X scope own fr js):scope.kind=.function:=S.c.kind
theorem CompSc.ndn {X:Cx} {scope:Scope} {own fr:List Str} {js:List Nat} (S:CompSc X scope own fr js):(scope.names.map (·.1)).Nodup:=S.c.ndn
theorem CompSc.frl {X:Cx} {scope:Scope} {own fr:List Str} {js:List Nat} (S:CompSc X scope own fr js):∀ x∈fr,scope.names.lookup x=some .free:=S.c.frl
theorem CompSc.free {X:Cx} {scope:Scope} {own fr:List Str} {js:List Nat} (S:CompSc X scope own fr js):∀ y∈scope.names,y.2=.free→X.env.kindOf y.1=some .cell∨X.env.kindOf y.1=some .free:=S.c.free
theorem yak {α:Type}:∀ {l:List (Str×α)} {n:Str} {c:α},(l.map (·.1)).Nodup→(n,c)∈l→l.lookup n=some c
 | (k,v) :: r,n,c,nd,h=>by
  obtain ⟨h1,h2⟩:=List.nodup_cons.mp nd
  rw [List.lookup_cons]
  rcases List.mem_cons.mp h with e | h
  ·cases e;simp
  ·have:(n == k)=false:=beq_eq_false_iff_ne.mpr fun e=>h1 (by rw [← e];exact List.mem_map.mpr ⟨(n,c),h,rfl⟩)
   rw [this]
   exact yak h2 h
theorem xat (scope:Scope) (env:Env) (x:Str):(relabel scope env).names.lookup x=none∧scope.names.lookup x=none ∨
  ∃ k,scope.names.lookup x=some k∧(relabel scope env).names.lookup x=some (if (k == .free && env.scope.kind == .function && env.kindOf x == some .cell) then .cell else k):=by
 have key:∀ names:List (Str×NameKind),(names.map fun (n,k)=>if (k == NameKind.free && env.scope.kind == .function && env.kindOf n == some .cell) then (n,NameKind.cell) else (n,k)).lookup x=none∧names.lookup x=none ∨
   ∃ k,names.lookup x=some k∧(names.map fun (n,k)=>if (k == NameKind.free && env.scope.kind == .function && env.kindOf n == some .cell) then (n,NameKind.cell) else (n,k)).lookup x=some (if (k == .free && env.scope.kind == .function && env.kindOf x == some .cell) then .cell else k):=by
  intro names
  induction names with
  | nil=>exact .inl ⟨rfl,rfl⟩
  | cons p r ih =>
   obtain ⟨n,k⟩:=p
   rw [List.map_cons]
   cases hx:x == n with
   | true =>
    have e:x=n:=by simpa using hx
    subst e
    refine .inr ⟨k,by simp [List.lookup_cons],?_⟩
    by_cases hc:(k == NameKind.free && env.scope.kind == .function && env.kindOf x == some .cell)=true
    ·simp only [if_pos hc];simp [List.lookup_cons]
    ·simp only [if_neg hc];simp [List.lookup_cons]
   | false =>
    have e1:∀ q:NameKind,(((n,q) :: (r.map fun (n,k)=>if (k == NameKind.free && env.scope.kind == .function && env.kindOf n == some .cell) then (n,NameKind.cell) else (n,k))).lookup x)=((r.map fun (n,k)=>if (k == NameKind.free && env.scope.kind == .function && env.kindOf n == some .cell) then (n,NameKind.cell) else (n,k)).lookup x):=fun q=>by rw [List.lookup_cons,hx]
    have e2:((n,k) :: r).lookup x=r.lookup x:=by rw [List.lookup_cons,hx]
    rw [e2]
    by_cases hc:(k == NameKind.free && env.scope.kind == .function && env.kindOf n == some .cell)=true
    ·simp only [if_pos hc];rw [e1];exact ih
    ·simp only [if_neg hc];rw [e1];exact ih
 exact key scope.names
noncomputable def compSt (n:Nat) (js:List Nat) (σ:St):St:=List.replicate n none ++ js.map fun j=>σ.getD j none
theorem Inv.track {X:Cx} {pins:List (Addr×Obj)} {σ:St} {H:Hp} {s:Shared} {a:Addr} {o:HO} (I:Inv X pins σ H s) (f:FpOk X pins H a) (new:ObjOk X.prog X.w (upd H a o) s.heap a o):Inv X pins σ (upd H a o) s:=by
 obtain ⟨f0,f1,f2,f3,f4,f5⟩:=f
 have ne:∀ b u,H b=some u→b≠a:=fun b u e z=>by rw [z,f0] at e;cases e
 refine I.step (h':=s.heap) (H':=upd H a o) (g':=s.gens) (d':=s.drawn) (t':=s.toks) (ch:=[a]) (fun b hb=>?_) (fun b u _ _ _ e _=>e) (fun b u _ _ _ e _=>⟨u.slots,e⟩) (fun b u hb e n=>?_) (fun b u _ e=>⟨u,e⟩)
  (fun b xs e=>by rw [zac (ne b _ e)];exact e) (fun b u xs e=>by rw [zac (ne b _ e)];exact e) (fun b ps e=>⟨#[],by rw [zac (ne b _ e),e];simp⟩) (fun m hm=>hm) (fun b u e=>?_) I.bare
 ·have e:b=a:=by simpa using hb
  subst e
  exact ⟨f3,f1,f4,f5⟩
 ·rw [zac (fun z=>hb (by simp [z]))];exact n
 ·by_cases hb:b=a
  ·subst hb;rw [Xad] at e;cases e;exact new
  ·rw [zac hb] at e
   exact (I.hok b u e).stay (fun c v _ q=>q) (fun c q=>by rw [zac (ne c _ q)];exact q) fun c xs q=>by rw [zac (ne c _ q)];exact q
noncomputable def PF (X:Cx) (ifs:List Expr) (t:TT):Prop :=
 ∀ (pins:List (Addr×Obj)) (s:Shared) (σ:St) (H:Hp) (Q:Bool→Hp→Prop),Inv X pins σ H s→t σ H Q →
  wpAny (model X.prog X.w) X.A (forIn ifs true fun c r=>if r=true then do let ok ← isTrue c X.env (eval c X.env);pure (ForInStep.yield ok) else pure (ForInStep.yield r)) (TP X pins σ Q) X.xe s
theorem zaR {X:Cx}:PF X [] (fun _ H Q=>Q true H):=fun _ _ _ H _ I h=>wpAny_tests_nil ⟨H,I,h⟩
theorem yaH {prog:Program} {w:World} {A:Around} {R:Result→Shared→Prop} {s:Shared} {elt target iter:Expr} {ifs:List Expr} {scope:Scope} {pos:Pos} {it acc:Value} {env:Env} (I:Nat→Shared→Prop)
  (turn:∀ n s,I n s→wpAny (model prog w) A (pyNext it) (fun r s₁=>match r with
   | none=>R (.ok .next) s₁
   | some v=>wpAny (model prog w) A (letOwnedTupleGo target it v) (fun _ s₁'=>wpAny (model prog w) A (assign target env v) (fun _ s₂ =>
     wpAny (model prog w) A (forIn ifs true fun c r=>if r=true then do let ok ← isTrue c env (eval c env);pure (ForInStep.yield ok) else pure (ForInStep.yield r)) (fun ok s₃ =>
      if ok=true then wpAny (model prog w) A (eval elt env) (fun x s₄ =>
       wpAny (model prog w) A (call (.builtin "list.append") [acc,x]) (fun _ s₅=>∃ m,m < n∧I m s₅) (fun _ _=>False) s₄) (fun _ _=>False) s₃
      else ∃ m,m < n∧I m s₃) (fun _ _=>False) s₂) (fun _ _=>False) s₁') (fun _ _=>False) s₁) (fun _ _=>False) s)
  (n:Nat) (h:I n s) :
  codeAny (model prog w) A (.compLoop (.ListComp elt [⟨target,iter,ifs,0⟩] scope pos) 0 it acc env) R s:=by
 refine codeAny_loop rfl I (fun n s hI=>?_) n h
 show wpAny _ A ((compTurn (.ListComp elt [⟨target,iter,ifs,0⟩] scope pos) 0 it acc env).onRaise (fun x=>do noteFrame x env;theTreesLotGoes x)) _ _ s
 refine wpAny_noted ?_
 rw [compTurn_list]
 refine wpAny_bind (wpAny_standAt (wpAny_bind (wpAny_mono (turn n s hI) (fun r s₁ h₁=>?_) fun _ _ h'=>h'.elim)))
 cases r with
 | none=>exact wpAny_pure h₁
 | some v =>
  refine wpAny_bind (wpAny_mono h₁ (fun _ s₁' h₁'=>?_) fun _ _ h'=>h'.elim)
  refine wpAny_bind (wpAny_mono h₁' (fun _ s₂ h₂=>wpAny_bind (wpAny_mono h₂ (fun ok s₃ h₃=>?_) fun _ _ h'=>h'.elim)) fun _ _ h'=>h'.elim)
  cases ok with
  | false=>exact wpAny_pure ⟨rfl,h₃⟩
  | true =>
   exact wpAny_bind (wpAny_bind (wpAny_mono h₃ (fun x s₄ h₄=>wpAny_bind (wpAny_mono h₄ (fun _ s₅ h₅=>wpAny_pure (wpAny_pure ⟨rfl,h₅⟩)) fun _ _ h'=>h'.elim)) fun _ _ h'=>h'.elim))
noncomputable def CompGo (J:It) (n:Nat) (js:List Nat) (g:TG) (tc:TT) (te:TE) (σ:St) (H1:Hp) (Q:VK):Prop :=
 ∃ W:Nat→Nat→List V→St→Hp→Prop,(∃ m,W 0 m [] (compSt n js σ) H1)∧∀ i m ys σ' H',W i m ys σ' H' →
  ys.length < sizeLine∧((J.stop i H'∧∀ p,H' p=none→Q (.ref p) (upd H' p (.lst ys))) ∨
   (J.go i H'∧∀ x H2,J.yld i H' x H2→g x σ' H2 fun σ2 H3=>tc σ2 H3 fun b H4=>if b=true then te σ2 H4 fun y H5=>∃ m',m' < m∧W (i + 1) m' (ys ++ [y]) σ2 H5 else ∃ m',m' < m∧W (i + 1) m' ys σ2 H4))
noncomputable def tComp (wi:TI) (n:Nat) (js:List Nat) (g:TG) (tc:TT) (te:TE):TE:=fun σ H Q=>wi σ H fun J H1=>CompGo J n js g tc te σ H1 Q
section
variable {X:Cx} {pins:List (Addr×Obj)} {σ:St} {tg iter elt:Expr} {ifs:List Expr} {scope:Scope} {pos:Pos} {own fr:List Str} {js:List Nat} {g:TG} {tc:TT} {te:TE} {wi:TI}
theorem xaL {H2:Hp} {s2:Shared} {it:Addr} {fp:List Addr} {tn:Nat→Heap→Prop} {J:It} {Q:VK} {E:Value→Shared→Prop} {cl:List (Str×Addr)} {RR:Value→Addr→Result→Shared→Prop}
  (hc:X.calm=true) (S:CompSc X scope own fr js) (hg:∀ cells C fp s H,PG (cxComp X (own ++ fr) scope cells C fp s H) tg g) (hf:∀ cells C fp s H,PF (cxComp X (own ++ fr) scope cells C fp s H) ifs tc) (he:∀ cells C fp s H,PE (cxComp X (own ++ fr) scope cells C fp s H) elt te)
  (I2:Inv X pins σ H2 s2) (T:Turn X.prog X.w X.K tg J fp it tn) (st2:tn 0 s2.heap) (f2:∀ b∈fp,FpOk X pins H2 b)
  (hcl1:∀ n c,(n,c)∈cl→X.env.cells.lookup n=some c∧(n,NameKind.free)∈scope.names) (hcl2:∀ n,(n,NameKind.free)∈scope.names→∃ c,(n,c)∈cl)
  (W:Nat→Nat→List V→St→Hp→Prop) (m0:Nat) (w0:W 0 m0 [] (compSt own.length js σ) H2)
  (turn:∀ i m ys σ' H',W i m ys σ' H'→ys.length < sizeLine∧((J.stop i H'∧∀ p,H' p=none→Q (.ref p) (upd H' p (.lst ys))) ∨
   (J.go i H'∧∀ x H2,J.yld i H' x H2→g x σ' H2 fun σ2 H3=>tc σ2 H3 fun b H4=>if b=true then te σ2 H4 fun y H5=>∃ m',m' < m∧W (i + 1) m' (ys ++ [y]) σ2 H5 else ∃ m',m' < m∧W (i + 1) m' ys σ2 H4)))
  (fin:∀ (acc C:Addr) (H':Hp) (s':Shared) (v:V),v=.ref acc→Inv X pins σ H' s'→FpOk X pins H' C→(∃ m,s'.heap.Ns C m)→Q v H'→RR (.ref acc) C (.ok .next) s') :
  wpAny (model X.prog X.w) X.A (newList []) (fun acc s3=>wpAny (model X.prog X.w) X.A (newFunctionEnv scope X.env.globals cl [] X.env.qual none .none (some X.env)) (fun cenv s4 =>
   codeAny (model X.prog X.w) X.A (.compStart (.ListComp elt [⟨tg,iter,ifs,0⟩] scope pos) 0 (.ref it) acc { cenv with scope:=relabel scope X.env }) (RR acc cenv.locals) s4) E s3) E s2:=by
 refine wpAny_newObj_type ?_
 refine zaH fun h4 hns hk4 hcells=>?_
 have hA:s2.heap.objs.size < (s2.heap.push { cls:=.type "list",data:=.seq ([]:List Value).toArray }).objs.size:=by rw [Heap.size_push];exact Nat.lt_succ_self _
 generalize hC:(s2.heap.push { cls:=.type "list",data:=.seq ([]:List Value).toArray }).objs.size=C at hns hcells hA ⊢
 generalize hac:s2.heap.objs.size=acc at hA ⊢
 have hAC:acc≠C:=Nat.ne_of_lt hA
 have old:∀ b o,s2.heap.get? b=some o→h4.get? b=some o:=fun b o e=>hk4 b o (Heap.get?_push_of_some _ e)
 have hacc:h4.get? acc=some { cls:=.type "list",data:=.seq ([]:List Value).toArray }:=hk4 _ _ (by rw [← hac];exact Heap.get?_push_size _ rfl)
 have inA:∀ x c,(x,c)∈cellsFrom (C + 1) scope.names []→h4.IsCell c none∧C + 1≤c∧scope.names.lookup x=some .cell:=fun x c h=>⟨(hcells.empty x c h).1,(hcells.empty x c h).2,yak S.ndn (zao _ _ h).1⟩
 have lk:∀ x c,(cellsFrom (C + 1) scope.names cl).lookup x=some c→(h4.IsCell c none∧C + 1≤c∧(x,c)∈cellsFrom (C + 1) scope.names [])∨(X.env.cells.lookup x=some c∧scope.names.lookup x=some .free):=fun x c h=>by
  rw [Xag] at h
  rcases List.mem_append.mp (PySem.mem_of_lookup h) with q | q
  ·exact .inl ⟨(inA x c q).1,(inA x c q).2.1,q⟩
  ·exact .inr ⟨(hcl1 x c q).1,yak S.ndn (hcl1 x c q).2⟩
 have lt2:∀ x c,X.env.cells.lookup x=some c→c < s2.heap.objs.size:=fun x c h=>by
  obtain ⟨v,z⟩:=I2.cell x c h
  exact z.lt
 have cellC:∀ x c,(cellsFrom (C + 1) scope.names cl).lookup x=some c→c≠C∧c≠acc∧H2 c=none∧∀ b∈fp,c≠b:=fun x c h=>by
  rcases lk x c h with ⟨_,h1,_⟩ | ⟨h1,_⟩
  ·refine ⟨neG (by omega),neG (by omega),I2.hok.fresh (by omega),fun b hb z=>?_⟩
   obtain ⟨o,e,_⟩:=T.obj 0 _ st2 b hb
   have:=ltN (Heap.lt_size e)
   rw [← z] at this
   omega
  ·have:=ltN (lt2 x c h1)
   exact ⟨neL (by omega),neL (by omega),I2.freeC x c h1,fun b hb=>(f2 b hb).2.2.2.2.1 x c h1⟩
 have frlk:∀ x,scope.names.lookup x=some .free→∃ c,X.env.cells.lookup x=some c∧(cellsFrom (C + 1) scope.names cl).lookup x=some c:=fun x h=>by
  obtain ⟨c,hcm⟩:=hcl2 x (PySem.mem_of_lookup h)
  have hc1:=(hcl1 x c hcm).1
  have hs:((cellsFrom (C + 1) scope.names cl).lookup x).isSome=true:=by
   refine PySem.W.cellsFrom_some scope.names (C + 1) cl (.inr ?_)
   cases q:cl.lookup x with
   | some d=>rfl
   | none =>
    exfalso
    have:∀ {l:List (Str×Addr)},(x,c)∈l→l.lookup x≠none:=by
     intro l
     induction l with
     | nil=>intro h;exact nomatch h
     | cons p r ih =>
      intro h z
      obtain ⟨k,v⟩:=p
      rw [List.lookup_cons] at z
      cases hb:x == k with
      | true=>rw [hb] at z;cases z
      | false =>
       rw [hb] at z
       rcases List.mem_cons.mp h with e | h
       ·cases e;simp at hb
       ·exact ih h z
    exact this hcm q
  obtain ⟨d,hd⟩:=Option.isSome_iff_exists.mp hs
  rcases lk x d hd with ⟨_,_,h2⟩ | ⟨h1,_⟩
  ·have:=(inA x d h2).2.2
   rw [h] at this;cases this
  ·rw [hc1] at h1;cases h1
   exact ⟨c,hc1,hd⟩
 have fpd:∀ b∈fp,b≠C∧b≠acc:=fun b hb=>by
  obtain ⟨o,e,_⟩:=T.obj 0 _ st2 b hb
  have:=ltN (Heap.lt_size e)
  exact ⟨neL (by omega),neL (by omega)⟩
 have kfn:(relabel scope X.env).kind=.function:=S.kind
 have ok:(cxComp X (own ++ fr) scope (cellsFrom (C + 1) scope.names cl) C fp s2 H2).Ok:=by
  refine ⟨I2.ok.mod,kfn,I2.ok.glob,I2.ok.blt,?_,fun x y c h1 h2=>?_,fun x hx=>?_,fun x c hx h=>?_,I2.ok.hd,I2.ok.frames,.inl rfl,fun b hb=>⟨(fpd b hb).1,fun x c h=>(cellC x c h).2.2.2 b hb⟩,I2.bs,Nat.le_trans I2.ok.bsz I2.sz,fun b o e hb=>?_,fun b hb z=>?_,I2.stack,I2.stkFree⟩
  ·show s2.heap.objs.size≤C
   omega
  ·rcases lk x c h1 with ⟨_,q1,q2⟩ | ⟨q1,_⟩
   ·rcases lk y c h2 with ⟨_,r1,r2⟩ | ⟨r1,_⟩
    ·exact name_of_addr hcells.apart q2 r2
    ·have:=ltN (lt2 y c r1);omega
   ·rcases lk y c h2 with ⟨_,r1,r2⟩ | ⟨r1,_⟩
    ·have:=ltN (lt2 x c q1);omega
    ·exact I2.ok.inj x y c q1 r1
  ·have hx':(relabel scope X.env).names.lookup x=some .cell∨(relabel scope X.env).names.lookup x=some .free:=hx
   rcases xat scope X.env x with ⟨e,_⟩ | ⟨k,e1,e2⟩
   ·rcases hx' with z | z <;> (rw [e] at z;cases z)
   ·by_cases hk:k=.free
    ·subst hk
     obtain ⟨c,_,h⟩:=frlk x e1
     exact ⟨c,h⟩
    ·have hk':k=.cell:=by
      have hb:(k == NameKind.free)=false:=beq_eq_false_iff_ne.mpr hk
      rw [hb] at e2
      simp only [Bool.false_and,Bool.false_eq_true,if_false] at e2
      rcases hx' with z | z
      ·rw [e2] at z;exact Option.some.inj z
      ·rw [e2] at z;exact absurd (Option.some.inj z) hk
     subst hk'
     exact Option.isSome_iff_exists.mp (PySem.W.cellsFrom_some scope.names (C + 1) cl (.inl e1))
  ·have hx':scope.names.lookup x=some .cell:=of_decide_eq_true hx
   show s2.heap.objs.size≤c
   rcases lk x c h with ⟨_,q,_⟩ | ⟨_,q⟩
   ·omega
   ·rw [hx'] at q;cases q
  ·rcases (f2 b hb).2.2.2.1 with z | z
   ·exact I2.ok.noex b o e z
   ·have h1:@LT.lt Nat _ b X.base.objs.size:=Heap.lt_size e
    have h2:=I2.ok.bsz
    omega
  ·rcases List.mem_cons.mp (I2.stkSub b z) with e | e
   ·exact (f2 b hb).2.1 e
   ·exact (f2 b hb).2.2.1 e
 have I4:Inv (cxComp X (own ++ fr) scope (cellsFrom (C + 1) scope.names cl) C fp s2 H2) [(acc,{ cls:=.type "list",data:=.seq ([]:List Value).toArray })] (compSt own.length js σ) H2 { s2 with heap:=h4 }:=by
  refine ⟨ok,rfl,I2.bare,Un.kept old,⟨_,hns,fun i x v e1 e2 e3=>?_⟩,fun x c h=>?_,I2.hok.fresh (by show s2.heap.objs.size≤C;omega),fun x c h=>(cellC x c h).2.2.1,fun p hp=>?_,I2.hok.kept old,?_⟩
  ·have e1':(own ++ fr)[i]?=some x:=e1
   unfold compSt at e2
   by_cases hi:i < own.length
   ·rw [List.getElem?_append_left (by simpa using hi),List.getElem?_replicate] at e2
    split at e2 <;> cases e2
   ·rw [List.getElem?_append_right (by simpa using hi),List.length_replicate,List.getElem?_map] at e2
    rw [List.getElem?_append_right (by omega)] at e1'
    cases hj:js[i - own.length]? with
    | none=>rw [hj] at e2;cases e2
    | some j =>
     rw [hj] at e2
     have e2':σ.getD j none=some v:=Option.some.inj e2
     have hN:X.N[j]?=some x:=by
      have q:=congrArg (fun l=>l[i - own.length]?) S.ix
      simp only [List.getElem?_map,hj,e1',Option.map_some] at q
      exact Option.some.inj q
     have hσ:σ[j]?=some (some v):=by
      rw [List.getD_eq_getElem?_getD] at e2'
      cases q:σ[j]? with
      | none=>rw [q] at e2';cases e2'
      | some o=>rw [q] at e2';exact congrArg some e2'
     have hfr:scope.names.lookup x=some .free:=S.frl x (List.mem_of_getElem? e1')
     have hk:=S.free _ (PySem.mem_of_lookup hfr) rfl
     obtain ⟨m,_,hl⟩:=I2.loc
     obtain ⟨u,ru,lo⟩:=hl j x v hN hσ (by rcases hk with k | k;exact .inr (.inl k);exact .inr (.inr k))
     refine ⟨u,ru,.inr ⟨?_,?_⟩⟩
     ·rcases xat scope X.env x with ⟨_,e⟩ | ⟨k,q1,q2⟩
      ·rw [hfr] at e;cases e
      ·rw [hfr] at q1;cases q1
       have q2':(compEnvC scope (cellsFrom (C + 1) scope.names cl) C X.env).kindOf x=some (if (NameKind.free == .free && X.env.scope.kind == .function && X.env.kindOf x == some .cell)=true then .cell else .free):=q2
       rw [show (cxComp X (own ++ fr) scope (cellsFrom (C + 1) scope.names cl) C fp s2 H2).env.kindOf x=_ from q2']
       split
       ·exact .inl rfl
       ·exact .inr rfl
     ·rcases lo with ⟨k,_⟩ | ⟨_,c,hc1,hc2⟩
      ·rcases hk with k' | k' <;> (rw [k] at k';cases k')
      ·obtain ⟨d,hd1,hd2⟩:=frlk x hfr
       rw [hc1] at hd1;cases hd1
       exact ⟨c,hd2,hc2.keeps old⟩
  ·rcases lk x c h with ⟨q,_,_⟩ | ⟨q,_⟩
   ·exact ⟨_,q⟩
   ·obtain ⟨v,z⟩:=I2.cell x c q
    exact ⟨v,z.keeps old⟩
  ·have e:p=(acc,{ cls:=.type "list",data:=.seq ([]:List Value).toArray }):=by simpa [cxComp] using hp
   subst e
   refine ⟨hacc,I2.hok.fresh (by omega),hAC,fun z=>?_,fun v z=>nomatch z⟩
   rcases List.mem_cons.mp (I2.stkSub acc z) with e | e
   ·have:=ltN I2.lt
    rw [← e] at this
    omega
   ·exact I2.nofs (by omega) e
  ·show (compSt own.length js σ).length=(own ++ fr).length
   have q:=congrArg List.length S.ix
   simp only [List.length_map] at q
   unfold compSt
   rw [List.length_append,List.length_replicate,List.length_map,List.length_append,q]
 have fpC:∀ {H':Hp} {ob:Obj},(∀ b∈fp,H' b=none)→∀ b∈fp,FpOk (cxComp X (own ++ fr) scope (cellsFrom (C + 1) scope.names cl) C fp s2 H2) [(acc,ob)] H' b:=fun {H' ob} hn b hb =>
  ⟨hn b hb,(fpd b hb).1,fun z=>by
   rcases List.mem_cons.mp (I2.stkSub b z) with e | e
   ·exact (f2 b hb).2.1 e
   ·exact (f2 b hb).2.2.1 e,.inl hb,fun x c h=>(cellC x c h).2.2.2 b hb,fun p hp=>by
   have e:p=(acc,ob):=by simpa [cxComp] using hp
   subst e
   exact fun z=>(fpd b hb).2 z.symm⟩
 have loop:codeAny (model X.prog X.w) X.A (.compLoop (.ListComp elt [⟨tg,iter,ifs,0⟩] scope pos) 0 (.ref it) (.ref acc) (compEnvC scope (cellsFrom (C + 1) scope.names cl) C X.env)) (RR (.ref acc) C) { s2 with heap:=h4 }:=by
  refine yaH (fun m s'=>∃ (i:Nat) (ys:List V) (its:List Value) (n:Nat) (σ':St) (H':Hp),Inv (cxComp X (own ++ fr) scope (cellsFrom (C + 1) scope.names cl) C fp s2 H2) [(acc,{ cls:=.type "list",data:=.seq its.toArray n })] σ' H' s'∧Vals ys its∧tn i s'.heap∧(∀ b∈fp,H' b=none)∧W i m ys σ' H') ?_ m0
   ⟨0,[],[],0,_,H2,I4,.nil,T.keep _ _ _ st2 fun b _ o e=>old b o e,fun b hb=>(f2 b hb).1,w0⟩
  rintro n s5 ⟨i,ys,its,en,σ5,H5,I5,rv,st5,fr5,w5⟩
  obtain ⟨hz,alt⟩:=turn i n ys σ5 H5 w5
  rcases alt with ⟨stop,qn⟩ | ⟨go,step⟩
  ·refine thn (T.done (cxComp X (own ++ fr) scope (cellsFrom (C + 1) scope.names cl) C fp s2 H2) rfl rfl rfl hc i _ s5 σ5 H5 _ I5 (fpC fr5) st5 stop) fun r s6 ⟨hr,I6⟩=>?_
   subst hr
   show RR (.ref acc) C (.ok .next) s6
   have u:Un (frs X.stack) fp H2 H5 s2.heap s6.heap:=I6.base
   have J6:Inv X pins σ H5 s6:=I2.call' I6.os u I6.hok I6.bare fun b hb=>⟨(f2 b hb).2.2.2.1,(f2 b hb).2.1,(f2 b hb).2.2.2.2.1,(f2 b hb).2.2.2.2.2⟩
   have pacc:=I6.pin (acc,_) (List.mem_append_right _ List.mem_cons_self)
   have facc:FpOk X pins H5 acc:=I2.fpOk (by omega) pacc.2.1
   have fC:FpOk X pins H5 C:=I2.fpOk (by omega) I6.free
   have K6:Inv X pins σ (upd H5 acc (.lst ys)) s6:=J6.track facc ⟨Nat.le_of_lt hz,its,en,rv,pacc.1⟩
   obtain ⟨m,hm,_⟩:=I6.loc
   exact fin acc C _ s6 (.ref acc) rfl K6 ⟨by rw [zac hAC.symm];exact fC.1,fC.2⟩ ⟨m,hm⟩ (qn acc pacc.2.1)
  ·refine thn (T.item (cxComp X (own ++ fr) scope (cellsFrom (C + 1) scope.names cl) C fp s2 H2) rfl rfl rfl hc i _ s5 σ5 H5 _ I5 (fpC fr5) st5 go) fun r s6 ⟨u,hr,h6⟩=>?_
   subst hr
   refine thn h6 fun _ s7 ⟨x,H7,I7,r7,y7,st7,fr7⟩=>?_
   have I7':=I7.pinned (fpC fr7) (T.obj _ _ st7)
   refine thn (hg _ _ _ _ _ _ s7 σ5 H7 x u _ I7' r7 (step x H7 y7)) fun _ s8 ⟨σ8,H8,I8,q8⟩=>?_
   refine thn (hf _ _ _ _ _ _ s8 σ8 H8 _ I8 q8) fun b s9 ⟨H9,I9,q9⟩=>?_
   have tnk:∀ {s':Shared} {σ':St} {H':Hp},Inv (cxComp X (own ++ fr) scope (cellsFrom (C + 1) scope.names cl) C fp s2 H2) ([(acc,{ cls:=.type "list",data:=.seq its.toArray en })] ++ pinsAt fp s7.heap) σ' H' s'→tn (i + 1) s'.heap∧∀ b∈fp,H' b=none:=fun {s' σ' H'} I' =>
    ⟨T.keep _ _ _ st7 fun b hb o e=>(I'.pin (b,o) (List.mem_append_right _ (List.mem_append_right _ (Xap hb e)))).1,fun b hb=>by
     obtain ⟨o,e,d⟩:=T.obj _ _ st7 b hb
     exact (I'.pin (b,o) (List.mem_append_right _ (List.mem_append_right _ (Xap hb e)))).2.1⟩
   cases b with
   | false =>
    obtain ⟨m',hm,w9⟩:=q9
    exact ⟨m',hm,i + 1,ys,its,en,σ8,H9,I9.unpinned,rv,(tnk I9).1,(tnk I9).2,w9⟩
   | true =>
    refine thn (he _ _ _ _ _ _ s9 σ8 H9 _ I9 q9) fun y s10 ⟨yv,H10,I10,r10,m',hm,w10⟩=>?_
    have pacc:=I10.pin (acc,_) (List.mem_append_right _ (List.mem_append_left _ List.mem_cons_self))
    have hlen:=rv.length
    refine wpAny_list_append_plain (items:=its.toArray) ⟨en,pacc.1⟩ (fun h11 ⟨en',hl11⟩ hs11=>?_) (by simp only [List.size_toArray];omega)
    have cA:∀ x c,(cellsFrom (C + 1) scope.names cl).lookup x=some c→c≠acc:=fun x c h=>(cellC x c h).2.1
    have Ia:Inv (cxComp X (own ++ fr) scope (cellsFrom (C + 1) scope.names cl) C fp s2 H2) [] σ8 H10 s10:=I10.pins_of fun p hp=>nomatch hp
    have Ib:Inv (cxComp X (own ++ fr) scope (cellsFrom (C + 1) scope.names cl) C fp s2 H2) [] σ8 H10 { s10 with heap:=h11 }:=Ia.turned (it:=acc) (t':=s10.toks) (fun b o hb e=>(hs11.2 b hb).trans e) pacc.2.1 hAC (.inr (by show s2.heap.objs.size≤acc;omega)) cA fun p hp=>nomatch (show p∈([]:List (Addr×Obj)) from by simpa [cxComp] using hp)
    refine ⟨m',hm,i + 1,ys ++ [yv],its ++ [y],en',σ8,H10,Ib.pins_of fun p hp=>?_,rv.append (.cons r10 .nil),T.keep _ _ _ (tnk I10).1 fun b hb o e=>(hs11.2 b (fpd b hb).2).trans e,(tnk I10).2,w10⟩
    have e:p=(acc,{ cls:=.type "list",data:=.seq (its ++ [y]).toArray en' }):=by simpa using hp
    subst e
    exact ⟨by simpa using hl11,pacc.2.1,pacc.2.2.1,pacc.2.2.2.1,fun v z=>nomatch z⟩
 exact codeAny_compStart_list loop (T.self X.A 0 _ _ _ (T.keep _ _ _ st2 fun b _ o e=>old b o e) loop)
theorem ZaH (hc:X.calm=true) (S:CompSc X scope own fr js) (hi:PI X tg iter wi) (hg:∀ cells C fp s H,PG (cxComp X (own ++ fr) scope cells C fp s H) tg g) (hf:∀ cells C fp s H,PF (cxComp X (own ++ fr) scope cells C fp s H) ifs tc) (he:∀ cells C fp s H,PE (cxComp X (own ++ fr) scope cells C fp s H) elt te)
  (hs:∀ x,foldedSetIterable iter X.env x=pure x:=by intro _;rfl):PE X (.ListComp elt [⟨tg,iter,ifs,0⟩] scope pos) (tComp wi own.length js g tc te):=by
 intro pins s σ H Q I h
 obtain ⟨cl,hcl,hcl1,hcl2⟩:=YaL (scope:=scope) (env:=X.env) fun y hy hk=>I.ok.has y.1 (S.free y hy hk)
 rw [eval_ListComp]
 refine wpAny_comprehension_free (use:=none) rfl hs hcl S.kind (fun y hy hk=>by rw [← hk];exact yak S.ndn hy) (thn (hi pins s σ H _ I h) fun v s1 h1=>thn h1 fun itv s2 h2=>?_)
 obtain ⟨it,fp,tn,J,H2,e,I2,T,st2,f2,W,⟨m0,w0⟩,turn⟩:=h2
 subst e
 refine xaL (RR:=fun acc C=>compPost (model X.prog X.w) X.A X.xe none (EP X pins σ Q) acc C) hc S hg hf he I2 T st2 f2 hcl1 hcl2 W m0 w0 turn ?_
 intro acc C H' s' v hv I' fC ⟨m,hm⟩ q
 subst hv
 obtain ⟨f0,f1,f2',f3,f4,f5⟩:=fC
 exact ⟨m,hm,fun h'' hs''=>⟨.ref acc,H',I'.turned (it:=C) (t':=s'.toks) (fun b o hb e=>(hs''.2 b hb).trans e) f0 f1 f3 f4 f5,rfl,q⟩⟩
end
end L2
namespace L2
open PySem PySem.Spec PyProof.Rows
section
variable {X:Cx}
theorem zaJ:∀ {bs:List Bool} {us:List Value} {i:Nat} {v:Value},Vals (bs.map V.bl) us→us[i]?=some v→∃ b,bs[i]?=some b∧v=.bool b
 | [],_,i,v,r,h=>by cases r;simp at h
 | b :: bs,_,0,v,r,h=>by
  cases r with
  | cons r1 r2 =>
   cases (show _=Value.bool b from r1)
   simp at h
   exact ⟨b,rfl,h.symm⟩
 | b :: bs,_,i + 1,v,r,h=>by
  cases r with
  | cons r1 r2 =>
   obtain ⟨c,e1,e2⟩:=zaJ (i:=i) r2 (by simpa using h)
   exact ⟨c,by simpa using e1,e2⟩
theorem yaR (hc:X.calm=true):CallR X (.builtin "all") (fun xs H Q=>∃ (p:Addr) (bs:List Bool),xs=[.ref p]∧SqL X.K H p (bs.map V.bl)∧Q (.bl (bs.all id)) H):=by
 intro pins s σ H xs us Q I r h
 obtain ⟨p,bs,rfl,hq,q⟩:=h
 obtain ⟨u,rfl,ru⟩:=vals1 r
 cases ru
 obtain ⟨its,rv,pl,_⟩:=I.list hq
 have hl:=pl.isList
 have hlt:p < s.heap.objs.size:=by obtain ⟨_,e,_⟩:=hl;exact Heap.lt_size e
 have hlen:=rv.length
 rw [List.length_map] at hlen
 have hh:X.A.in1.handled=none:=I.ok.hd hc
 refine call_all_walk (wpAny_pyIter_list hl ?_)
 refine ⟨s.heap.objs.size,[s.heap.objs.size,p],[s.heap.objs.size],its.toArray.size,_,_,fun i=>(bs[i]?).getD true,rfl,Walks.list (A:=X.A.in1) hh _ p (Nat.ne_of_lt hlt) its.toArray,
  ⟨⟨_,Heap.get?_push_size _ rfl,rfl,rfl⟩,hl.push _⟩,fun i v s' Q' E' hP hQ=>?_,fun h' tk hk=>?_⟩
 ·obtain ⟨b,e,rfl⟩:=zaJ rv (by simpa using hP)
  simp only [e,Option.getD_some] at hQ
  exact wpAny_truthy_bool hQ
 ·have e:((List.range its.toArray.size).all fun i=>(bs[i]?).getD true)=bs.all id:=by
   rw [List.size_toArray,← hlen];exact PyProof.Rows.LSm.range_all bs
  rw [e]
  exact ⟨.bl _,H,I.kept (PyProof.Rows.LSm.kept_iter hk),rfl,q⟩
end
section
variable {prog:Program} {w:World} {A:Around} {E:Value→Shared→Prop} {s:Shared}
end
section
variable {X:Cx}
end
theorem Xat (ts:List Str):(tupleText ts).length≤piled ts + 3:=by
 unfold tupleText
 rw [strLen_append,strLen_append]
 have e1:((("(" : String):Str)).length=1:=rfl
 have e3:(((if ts.length == 1 then ",)" else ")" : String):Str)).length≤2:=by split <;> decide
 rw [e1]
 by_cases h:ts=[]
 ·subst h
  have e4:(Str.join ", " []).length=0:=rfl
  rw [e4];omega
 ·have:=join_length_add ts h
  omega
section
variable {K:PySem.W.Frag} {ch:List Addr} {H H':Hp}
end
noncomputable def smI (i:Int):Prop:=-1000000000000000000≤i∧i≤1000000000000000000
theorem smI.log {i:Int} (h:smI i):i.natAbs.log2 < 1920:=by
 have h1:i.natAbs < 2 ^ 1920:=Nat.lt_of_lt_of_le (show i.natAbs < 2 ^ 64 by unfold smI at h;omega) (Nat.pow_le_pow_right (n:=2) (by decide) (show 64≤1920 by decide))
 by_cases h0:i.natAbs=0
 ·rw [h0];decide
 ·exact (Nat.log2_lt h0).mpr h1
end L2
namespace L2
open PySem PySem.Spec PyProof.Rows
section
variable {X:Cx} {K:PySem.W.Frag}
end
end L2
namespace L2
open PySem PySem.Spec PyProof.Rows
section
variable {prog:Program} {w:World} {A:Around} {E:Value→Shared→Prop} {s:Shared}
end
section
variable {prog:Program} {w:World} {A:Around} {E:Value→Shared→Prop} {s:Shared}
end
section
variable {X:Cx} {pins:List (Addr×Obj)} {σ:St} {H:Hp} {s:Shared} {h':Heap}
end
end L2
namespace L2
open PySem PySem.Spec PyProof.Rows
section
open Sem (wp)
open PySem.AutoSeq1 (wpAny_loadPart')
open PySem.MeetsSeq PySem.MeetsSeq2 PySem.MeetsSeq3
end
section
variable {X:Cx} {K:PySem.W.Frag}
theorem yba {es:List Expr} {k:Nat} {t:TGs} {n:Nat} {pos:Pos} (hK:X.K=K) (hc:X.calm=true) (h:PGs X es t)
  (hn:(assignEach es X.env).length=n:=by rfl) (hst:(assignEach es X.env).findIdx? (·.1)=none:=by rfl):PG X (.Tuple es k pos) (gTup K n t):=by subst hK;exact pg_tup hc h hn hst
end
end L2
namespace L2
open PySem PySem.Spec PyProof.Rows
open Builtin.Str
section
variable {X:Cx} {K:PySem.W.Frag}
theorem YaA:∀ {xs:List Str} {us:List Value},Vals (xs.map V.str) us→∃ l:List (Str×Tok),us=strValues l∧l.map (·.1)=xs
 | [],us,h=>by
  cases us with
  | nil=>exact ⟨[],rfl,rfl⟩
  | cons a b=>cases h
 | x :: xs,us,h=>by
  cases us with
  | nil=>cases h
  | cons u us =>
   cases h with
   | cons r t =>
    obtain ⟨l,e1,e2⟩:=YaA t
    obtain ⟨tk,rfl⟩:=r
    exact ⟨(x,tk) :: l,by rw [e1];rfl,by rw [List.map_cons,e2]⟩
theorem yaJ (sep:Str) (hs:sep.length≤10):∀ (ts:List Str),(∀ y∈ts,y.length≤100)→(Str.join sep ts).length≤110 * ts.length
 | [],_=>Nat.zero_le _
 | [x],h=>by have:=h x (by simp);show x.length≤_;simp only [List.length_cons,List.length_nil];omega
 | x :: y :: r,h=>by
  have h1:=h x (by simp)
  have h2:=yaJ sep hs (y :: r) fun z hz=>h z (List.mem_cons_of_mem _ hz)
  have e:(Str.join sep (x :: y :: r)).length=x.length + sep.length + (Str.join sep (y :: r)).length:=by
   show (x ++ sep ++ Str.join sep (y :: r)).length=_
   show (Str.append (Str.append x sep) (Str.join sep (y :: r))).cps.size=_
   simp only [Str.append,Array.size_append,Str.length]
  rw [e]
  simp only [List.length_cons] at h2 ⊢
  omega
noncomputable def rJoin (K:PySem.W.Frag):V→List V→Hp→VK→Prop:=fun x vs H Q=>∃ (sep:Str) (a:Addr) (xs:List Str),x=.str sep∧vs=[.ref a]∧SqL K H a (xs.map V.str)∧xs.length≤100000∧sep.length≤10∧(∀ y∈xs,y.length≤100)∧Q (.str (Str.join sep xs)) H
theorem Zba:MtR X "str.join" (rJoin X.K):=by
 intro pins s σ H x xs v us Q I rx rv h
 obtain ⟨sep,a,ts,rfl,rfl,hq,h1,h2,h3,q⟩:=h
 obtain ⟨t,rfl⟩:=rx
 obtain ⟨u,rfl,ru⟩:=vals1 rv
 cases ru
 obtain ⟨its,r,pl,hz⟩:=I.list hq
 obtain ⟨l,rfl,e2⟩:=YaA r
 have hfit:tooLong ((l.map (·.1)).toArray.foldl (· + ·.length + sep.length) 0)=false:=by
  rw [e2]
  have a1:ts.length * sep.length≤100000 * 10:=Nat.mul_le_mul h1 h2
  exact StrLaws.joinFits (B:=100) h3 (by omega)
 refine call_meets F.slot_str_join (typeIs_str s sep t) F.entry_str_join (F.args_str_join_2 _ _) (meets_str_join_list sep t a l hfit) ⟨pl.isList,?_⟩
 have fin:∀ tk k,EP X pins σ Q (.str (Str.join sep ts) tk) { s with toks:=k }:=fun tk k=>⟨.str _,H,I.tok _,⟨_,rfl⟩,q⟩
 have hlen:=yaJ sep h2 ts h3
 have hz2:(Str.join sep ts).length≤sizeLine:=by
  have e:sizeLine=16777216:=rfl
  omega
 match l,e2 with
 | [],e2 =>
  cases e2
  exact ⟨hz2,fin _ _⟩
 | [p],e2 =>
  cases e2
  exact fin p.2 s.toks
 | p :: p2 :: r,e2 =>
  show (glued sep ((p :: p2 :: r).map (·.1))).length≤sizeLine∧_
  rw [StrLaws.glued_eq_join,e2]
  exact ⟨hz2,fin _ _⟩
end
section
variable {X:Cx} {tg:Expr}
end
end L2
namespace L2
open PySem PySem.Spec PyProof.Rows
open Builtin.Str
section
variable {prog:Program} {w:World} {A:Around} {E:Value→Shared→Prop} {s:Shared}
end
section
variable {X:Cx} {pins:List (Addr×Obj)} {σ:St} {H:Hp} {s:Shared}
end
end L2
namespace L2
open PySem PySem.Spec PyProof.Rows
section
variable {X:Cx} {K:PySem.W.Frag}
end
end L2
namespace L2
open PySem PySem.Spec PyProof.Rows
open Builtin.Str
section
variable {prog:Program} {w:World} {A:Around} {E:Value→Shared→Prop} {s:Shared}
end
end L2
namespace L2
open PySem PySem.Spec PyProof.Rows
open Builtin
section
variable {X:Cx}
end
end L2
namespace L2
open PySem PySem.Spec PyProof.Rows
section
variable {prog:Program} {w:World} {A:Around} {E:Value→Shared→Prop} {s:Shared}
end
section
variable {X:Cx} {pos:Pos}
end
end L2
namespace L2
open PySem PySem.Spec PyProof.Rows
section
variable {prog:Program} {w:World} {A:Around} {E:Value→Shared→Prop} {s:Shared}
end
end L2
namespace L2
open PySem PySem.Spec PyProof.Rows
section
variable {prog:Program} {w:World} {A:Around} {E:Value→Shared→Prop} {s:Shared}
end
end L2
namespace L2
open PySem PySem.Spec PyProof.Rows
end L2
namespace L2
open PySem PySem.Spec PyProof.Rows
section
variable {X:Cx} {pos:Pos}
end
end L2
namespace L2
open PySem PySem.Spec PyProof.Rows
noncomputable def DU (a:Addr) (xs:List (List Int×Addr×Value)):HO:=.ext fun h=>(a == sysModules)=false∧xs.length≤sizeLine∧∃ o es ep,h.get? a=some o∧o.ExactDict∧o.data=.dict es ep ∧
 (∃ (P:Program) (w:World),es.toList=xs.map (entryOfKey (tupleKind (intKind P w))))∧(xs.map (·.1)).Nodup
section
variable {X:Cx} {pins:List (Addr×Obj)} {σ:St} {H:Hp} {s:Shared} {a b:Addr} {k:List Int} {xs:List (List Int×Addr×Value)}
end
section
variable {X:Cx} {o i e value:Expr} {pos pos' tpos:Pos} {td ty tv:TE}
end
end L2
namespace L2
open PySem PySem.Spec PyProof.Rows PySem.SeqAt PySem.MeetsSeq
section
variable {prog:Program} {w:World} {A:Around} {R:Result→Shared→Prop} {I:Addr} {fp wr:List Addr} {n:Nat} {P:Nat→Value→Prop} {St:Nat→Heap→Prop}
end
section
variable {prog:Program} {w:World} {A:Around} {E:Value→Shared→Prop} {s:Shared}
end
section
variable {X:Cx}
end
end L2
namespace L2
open PySem PySem.Spec PyProof.Rows PySem.W
section
variable {lt:Nat→Nat→Bool} {n0:Nat} {cmp:Nat→Nat→(Bool→Shared→Prop)→Shared→Prop} {s:Shared}
structure Ord (lt:Nat→Nat→Bool):Prop where
 tr:∀ a b c,lt b a=false→lt c b=false→lt c a=false
 as:∀ a b,lt a b=true→lt b a=false
noncomputable def P (p:Array Nat) (i:Nat):Nat:=p.getD i 0
variable (o:Ord lt) (hn:0 < n0) (hc:∀ i j (C:Bool→Shared→Prop),i < n0→j < n0→C (lt i j) s→cmp i j C s)
include o hn hc
end
section
variable {prog:Program} {w:World} {A:Around} {E:Value→Shared→Prop} {s:Shared}
end
section
variable {prog:Program} {w:World} {A:Around} {E:Value→Shared→Prop} {s:Shared} {lt:Nat→Nat→Bool}
end
section
variable {X:Cx}
end
end L2
namespace L2
open PySem PySem.Spec PyProof.Rows
section
variable {X:Cx} {o e f:Expr} {apos cpos:Pos} {td ty tx:TE}
end
end L2
namespace L2
open PySem PySem.Spec PyProof.Rows PySem.W
section
variable {X:Cx} {o e:Expr} {t t' td:TE} {apos cpos pos p:Pos}
end
end L2
namespace L2
open PySem PySem.Spec PyProof.Rows
section
variable {X:Cx} {body:List Stmt} {h₀:ExceptHandler} {hs:List ExceptHandler} {pos:Pos} {t:TS}
end
end L2
namespace L2
open PySem PySem.Spec PyProof.Rows
section
variable {X:Cx} {K:PySem.W.Frag}
end
end L2
namespace L2
open PySem PySem.Spec PyProof.Rows
open Builtin
end L2
namespace L2
open PySem PySem.Spec PyProof.Rows
section
variable {X:Cx} {K:PySem.W.Frag}
end
end L2
namespace L2
open PySem PySem.Spec PyProof.Rows PySem.W
section
variable {prog:Program} {w:World} {A:Around} {E:Value→Shared→Prop} {s:Shared}
end
end L2
namespace L2
open PySem PySem.Spec PyProof.Rows PySem.W
end L2
namespace L2
open PySem PySem.Spec PyProof.Rows
section
variable {M:Model} {A:Around} {E:Value→Shared→Prop} {s:Shared}
end
noncomputable def trV:Option Addr→Value
 | none=>.none
 | some T=>.ref T
noncomputable def XO (a C:Addr) (dx tr:Option Addr):HO:=.ext fun h=>∃ o vs,h.get? a=some o∧o.cls=.ref C∧o.dict=dx∧o.data=.fields vs∧vs[1]?=some (trV tr)
section
variable {P:Program} {w:World} {H H' H2:Hp} {h h':Heap} {a C T:Addr} {dx tr:Option Addr} {o:HO}
theorem XO.ok (e:∃ o vs,h.get? a=some o∧o.cls=.ref C∧o.dict=dx∧o.data=.fields vs∧vs[1]?=some (trV tr)):ObjOk P w H h a (XO a C dx tr) :=
 ⟨e,let ⟨o,_,q,_⟩:=e;⟨o,q⟩,fun h1 h2 ⟨o,vs,q,r⟩ k=>⟨o,vs,k o q,r⟩⟩
theorem XO.of (ok:HOk P w H h) (e:H a=some (XO a C dx tr)):∃ o vs,h.get? a=some o∧o.cls=.ref C∧o.dict=dx∧o.data=.fields vs∧vs[1]?=some (trV tr):=(ok a _ e).1
theorem ObjOk.there (x:ObjOk P w H h a o):∃ ob,h.get? a=some ob:=by
 cases o with
 | lst xs=>obtain ⟨_,_,_,_,e⟩:=x;exact ⟨_,e⟩
 | tup xs=>obtain ⟨_,_,_,_,e,_⟩:=x;exact ⟨_,e⟩
 | dK kvs=>obtain ⟨_,_,_,_,o,_,_,e,_⟩:=x;exact ⟨_,e⟩
 | dT kvs=>obtain ⟨_,_,_,_,o,_,_,e,_⟩:=x;exact ⟨_,e⟩
 | set S n=>obtain ⟨o,_,_,_,e,_⟩:=x;exact ⟨_,e⟩
 | ins C dx fs=>obtain ⟨_,_,_,e,_⟩:=x;exact ⟨_,e⟩
 | own y=>obtain ⟨_,e⟩:=x;exact ⟨_,e⟩
 | xd fs=>obtain ⟨_,⟨_,_,_,e,_⟩,_⟩:=x;exact ⟨_,e⟩
 | rng lo hi=>obtain ⟨_,_,_,e⟩:=x;exact ⟨_,e⟩
 | frz ob u=>obtain ⟨e,_⟩:=x;exact ⟨_,e⟩
 | tbl ps=>exact ⟨_,(show h.get? a=some _ from x)⟩
 | met f y=>exact ⟨_,(show h.get? a=some _ from x)⟩
 | ext φ=>obtain ⟨_,e,_⟩:=x;exact e
theorem HOk.none_of (ok:HOk P w H h) (e:h.get? a=none):H a=none:=by
 cases q:H a with
 | none=>rfl
 | some o=>obtain ⟨ob,z⟩:=(ok a o q).there;rw [e] at z;cases z
end
section
variable {X:Cx} {pins:List (Addr×Obj)} {σ:St} {H:Hp} {s:Shared} {a C:Addr} {dx:Option Addr}
end
section
variable {P:Program} {w:World} {K:PySem.W.Frag} {mg:Str→Option Value} {base:Heap} {N:List Str} {qual:Str} {scope:Scope} {f:Addr} {cd:Value} {A:Around} {outer:List Env} {s0:Shared} {H0:Hp} {E:XK}
end
structure ExC (K:PySem.W.Frag) (mg:Str→Option Value) (x:Str) (C:Addr) (bmB:List Value) (newId:String):Prop where
 m:mg x=some (.ref C)
 k:PySem.W.excIn K C bmB newId=true
section
open PySem.W
theorem Yba {K:Frag} {h:Heap} {C:Addr} {bmB:List Value} {newId:String} (X:K.In h) (q:excIn K C bmB newId=true) :
  ∃ bm N nm qn bs hdct sn sub ab col dd k0 k1 k2 k3 k5 mN,h.get? C=some (excClassObj nm qn C N bs bm hdct sn sub ab col dd k0 k1 k2 k3 k5 newId)∧h.Ns N mN∧mN "__init__" = none∧OwnTail h bmB bm:=by
 unfold excIn at q
 split at q
 ·next dd cd sl ho =>
  split at q
  ·next C' bm k0 k1 k2 k3 n k5 hm hs =>
   simp only [Bool.and_eq_true,beq_iff_eq,Bool.not_eq_true'] at q
   obtain ⟨⟨⟨⟨⟨e1,e2⟩,e3⟩,e4⟩,e5⟩,e6⟩:=q
   subst e1 e2
   obtain ⟨nm,bs,mro,ns,qn,hd,sn,sub,ab,col,del⟩:=cd
   obtain ⟨l⟩:=sl
   dsimp only at hm hs e3 e5 e6
   subst hm e3 hs
   exact ⟨bm,ns,nm,qn,bs,hd,sn,sub,ab,col,dd,k0,k1,k2,k3,k5,_,X _ _ ho,.of_isNs (isNs_of_in X e5),nsMap_none_of_in X e5 e6,tail_of_in X e4⟩
  ·cases q
 ·cases q
end
section
variable {X:Cx} {pins:List (Addr×Obj)} {σ:St} {H:Hp} {s:Shared} {a C:Addr} {dx:Option Addr}
theorem Inv.lay1 {h':Heap} {o:HO} (I:Inv X pins σ H s) (kp:∀ b u,s.heap.get? b=some u→h'.get? b=some u) (hn:s.heap.get? a=none) (new:ObjOk X.prog X.w (upd H a o) h' a o):Inv X pins σ (upd H a o) { s with heap:=h' }:=by
 have Ha:H a=none:=I.hok.none_of hn
 have ne:∀ b u,H b=some u→b≠a:=fun b u q=>Zah q Ha
 have up:∀ b u,H b=some u→upd H a o b=some u:=fun b u q=>by rw [zac (ne b u q)];exact q
 have hok:HOk X.prog X.w (upd H a o) h':=fun b u q=>by
  by_cases hb:b=a
  ·subst hb;rw [Xad] at q;cases q;exact new
  ·rw [zac hb] at q
   exact (I.hok b u q).stay (fun c v _ r=>kp c v r) (fun c r=>up c _ r) fun c xs r=>up c _ r
 have un:Un (frs X.stack) [] H (upd H a o) s.heap h' :=
  ⟨fun b u q _ _ _=>kp b u q,fun b u q _ _ _=>⟨u.slots,kp b u q⟩,fun b u q n _=>by rw [zac (fun z=>by rw [z,hn] at q;cases q)];exact n,fun b u q _=>⟨u,kp b u q⟩,fun b xs q=>up b _ q,fun b x y q=>up b _ q,fun b ps q=>⟨#[],by rw [Array.append_empty];exact up b _ q⟩⟩
 exact I.call (ch:=[]) un hok I.bare fun b z=>absurd z (by simp)
end
section
variable {P:Program} {w:World} {K:PySem.W.Frag} {mg:Str→Option Value} {base:Heap} {N:List Str} {qual:Str} {scope:Scope} {f:Addr} {cd:Value} {A:Around} {outer:List Env} {s0:Shared} {H0:Hp} {E:XK}
end
end L2
namespace L2
open PySem PySem.Spec PyProof.Rows
section
variable {X:Cx} {pins:List (Addr×Obj)} {σ:St} {H:Hp} {s:Shared} {W:St→Addr→Hp→Prop} {a:Addr}
end
section
variable {X:Cx} {i:Nat} {x n:Str} {F:Addr} {bmB:List Value} {newId:String} {tb:(St→Addr→Hp→Prop)→TS} {ts:TS} {body suite:List Stmt} {b0:Stmt} {np hpos pos:Pos}
end
section
variable {X:Cx} {k:Nat} {f:Addr} {fd:FuncData} {ps:List Str} {sp:Sp} {x:Str} {p pos:Pos} {e:Expr} {es:List Expr} {t:TA} {pins:List (Addr×Obj)} {W:St→Addr→Hp→Prop}
end
end L2
namespace L2
open PySem PySem.Spec PyProof.Rows PySem.W
structure ExI (K:Frag) (C:Addr):Prop where
 ga:findIn K (.ref C) "__getattribute__" = some (some (.builtin "BaseException.__getattribute__"))
 gt:findIn K (.ref C) "__getattr__" = some none
 hd:hasDictIn K C=true
 bx:mroIn K C (.type "BaseException")=some true
 ob:mroIn K C (.type "object")=some true
 cl:findIn K (.ref C) "__class__" = some (some (.builtin "object.__class__"))
 gs:specialIn K (.builtin "object.__class__") "__get__" = some (some (.builtin "getset_descriptor.__get__"))
 tk:takesIn K (.builtin "object.__class__")=some true
section
variable {prog:Program} {w:World} {A:Around} {E:Value→Shared→Prop} {s:Shared} {K:Frag} {a C:Addr} {ox:Obj} {odo:Option Obj} {name:Str}
theorem ZaR {M:Model} {nv:Value} {Q:Unit→Shared→Prop} (X:K.In s.heap) (I:InstAt s.heap a ox C odo) (e:ExI K C) (hq:Q () s):wpAny M A (checkBuiltinCall "BaseException.__getattribute__" ⟨[.ref a,nv],[]⟩) Q E s:=by
 have hk:builtinKind "BaseException.__getattribute__" = some .slot:=by decide +kernel
 have hsplit:splitId "BaseException.__getattribute__" = some ("BaseException","__getattribute__"):=by decide +kernel
 have ha:=F.args_bexc_ga (.ref a) nv
 have LT:=I.type (M:=M)
 have LB:=looks_mroIn (M:=M) X e.bx
 obtain ⟨h,g,d,t,os⟩:=s
 simp only [checkBuiltinCall,hk,hsplit]
 refine wpAny_bind ?_
 unfold isInstance
 refine wpAny_bind (LT.at (LB.at ?_))
 repeat (first | assumption | wp_step)
theorem xa5 {tk:Tok} {fill expr:Bool} {Q:Value→Shared→Prop} (X:K.In s.heap) (I:InstAt s.heap a ox C odo) (e:ExI K C)
  (h:∀ A' (R:Fin→Shared→Prop) E',(∀ v s',handedOut v=pure v→Q v s'→R (.done (.ret v)) s')→wpAny (model prog w) A' (Builtin.«object.__getattribute__» ⟨[.ref a,.str name tk],[]⟩) R E' s) :
  wpAny (model prog w) A (getAttrBy (.ref a) (.str name tk) fill expr) Q E s:=by
 have f3:=F.attrBase_ValueError.ga.bind (.ref a)
 have LT:=I.type (M:=model prog w)
 have L1:=looks_findIn (M:=model prog w) X e.ga
 have L2:=looks_findIn (M:=model prog w) X e.gt
 have hx0:(expr && onTheHeap (Value.builtin "BaseException.__getattribute__"))=false:=by cases expr <;> rfl
 have hx2:(Value.builtin "BaseException.__getattribute__" == Value.builtin "object.__getattribute__")=false:=by decide +kernel
 have hx1:(onTheHeap (Value.ref C) && Value.builtin "BaseException.__getattribute__" == Value.builtin "object.__getattribute__")=false:=by rw [hx2];rfl
 obtain ⟨hh,g,d,t,os⟩:=s
 unfold getAttrBy
 repeat (any_goals (first | assumption | with_reducible refine LT.at ?_ | with_reducible refine L1.at ?_ | with_reducible refine L2.at ?_ | wp_step))
 refine codeAny_call_builtin F.attrBase_ValueError.ga.plain F.entry_bexc_ga (ZaR X I e ?_)
 refine h _ _ _ fun v s' hv q=>?_
 dsimp only
 rw [hv]
 exact wpAny_pure q
theorem YaR {tk:Tok} {v:Value} {R:Fin→Shared→Prop} (X:K.In s.heap) (I:InstAt s.heap a ox C odo) (hf:findObj K C odo name=some (.value v)) (h:R (.done (.ret v)) s) :
  wpAny (model prog w) A (Builtin.«object.__getattribute__» ⟨[.ref a,.str name tk],[]⟩) R E s:=by
 have LT:=I.type (M:=model prog w)
 have LF:=looks_find (M:=model prog w) X I hf
 obtain ⟨hh,g,d,t,os⟩:=s
 repeat (any_goals (first | assumption | with_reducible refine LT.at ?_ | with_reducible refine LF.at ?_ | wp_step))
theorem xaY {v:Value} {expr:Bool} {Q:Value→Shared→Prop} (X:K.In s.heap) (I:InstAt s.heap a ox C odo) (e:ExI K C) (hf:findObj K C odo name=some (.value v)) (hv:handedOut v=pure v) (h:Q v { s with toks:=s.toks + 1 }) :
  wpAny (model prog w) A (getAttr (.ref a) name expr) Q E s:=by
 obtain ⟨hh,g,d,t,os⟩:=s
 unfold getAttr
 repeat (any_goals (first | assumption | with_reducible refine xa5 (s:=⟨hh,g,d,t + 1,os⟩) X I e (fun A' R E' k=>YaR (s:=⟨hh,g,d,t + 1,os⟩) X I hf (k _ _ hv ?_)) | wp_step))
theorem XaL {tk:Tok} {R:Fin→Shared→Prop} (X:K.In s.heap) (I:InstAt s.heap a ox C odo) (e:ExI K C) (h:R (.done (.ret (.ref C))) s) :
  wpAny (model prog w) A (Builtin.«object.__getattribute__» ⟨[.ref a,.str "__class__" tk],[]⟩) R E s:=by
 have LT:=I.type (M:=model prog w)
 have hf:findObj K C odo "__class__" = some (.bind (.builtin "getset_descriptor.__get__") (.builtin "object.__class__")):=by
  obtain ⟨cd,hc,_⟩:=any_some e.hd
  unfold findObj
  rw [hc,Option.bind_some,e.cl,Option.bind_some]
  simp [e.gs,e.tk]
 have LF:=looks_find (M:=model prog w) X I hf
 obtain ⟨hh,g,d,t,os⟩:=s
 repeat (any_goals (first | assumption | with_reducible refine LT.at ?_ | with_reducible refine LF.at ?_ | wp_step))
 exact class_get (s:=⟨hh,g,d,t,os⟩) X I e.ob (wpAny_pure h)
theorem xaR {Q:Option Value→Shared→Prop} (X:K.In s.heap) (I:InstAt s.heap a ox C odo) (e:ExI K C) (h:Q (some (.ref C)) { s with toks:=s.toks + 1 }):wpAny (model prog w) A (getAttr? (.ref a) "__class__") Q E s:=by
 obtain ⟨hh,g,d,t,os⟩:=s
 unfold getAttr? getAttrBy?
 repeat (any_goals (first | assumption | with_reducible refine xa5 (s:=⟨hh,g,d,t + 1,os⟩) X I e (fun A' R E' k=>XaL (s:=⟨hh,g,d,t + 1,os⟩) X I e (k _ _ rfl ?_)) | wp_step))
theorem XaR (e:ExI K C):KitX K (.ref a) (.ref C) (fun h=>∃ ox odo,InstAt h a ox C odo) where
 ty:=fun _ _ _ ⟨_,_,I⟩=>I.type
 it:=fun _ _ X _=>by
  obtain ⟨cd,hc,_⟩:=any_some e.hd
  unfold clsIn at hc
  split at hc
  ·next c' d' cd' sl' ho =>
   intro A' Q' E' s' k q
   unfold isType loadHead
   exact wpAny_bind (wpAny_loadPart (k _ _ (X _ _ ho)) (wpAny_pure q))
  ·cases hc
 ne:=fun h tp dd its n sl X htp=>by
  obtain ⟨cd,hc,_⟩:=any_some e.hd
  refine Bool.eq_false_iff.mpr fun q=>?_
  have z:C=tp:=Value.ref.inj (beq_iff_eq.mp q)
  subst z
  unfold clsIn at hc
  split at hc
  ·next c' d' cd' sl' ho =>
   have z:=(X _ _ ho).symm.trans htp
   cases z
  ·cases hc
 ca:=fun X ⟨_,_,I⟩ k=>xaR X I e k
end
theorem XaY {P:Program} {w:World} {H:Hp} {h:Heap} {a C:Addr} {dx tr:Option Addr} (ok:HOk P w H h) (ea:H a=some (XO a C dx tr)) (hd:∀ d,dx=some d→∃ fs,H d=some (.xd fs)):∃ ox odo,InstAt h a ox C odo:=by
 obtain ⟨o,vs,he,hc,hdx,hdt,_⟩:=XO.of ok ea
 have nc:notCls o=true:=by unfold notCls;rw [hdt]
 cases dx with
 | none=>exact ⟨o,none,he,hc,nc,by rw [hdx];trivial⟩
 | some d =>
  obtain ⟨fs,ed⟩:=hd d rfl
  obtain ⟨mA,⟨od,es,ep,e1,_⟩,_⟩:=(show ObjOk P w H h d (.xd fs) from ok d _ ed)
  exact ⟨o,some od,he,hc,nc,by rw [hdx];exact e1⟩
inductive ClsN (K:Frag) (mg:Str→Option Value):Str→Value→V→Prop where
 | own {x:Str} {C:Addr}:mg x=some (.ref C)→ClsN K mg x (.ref C) (.ref C)
 | blt {x:Str} {n:String}:mg x=none→bootBuiltins x=some (.type n)→x≠"__name__" → ClsN K mg x (.type n) (.ty n)
section
variable {X:Cx} {x:Str} {c:Value} {v:V} {p pos:Pos} {e:Expr} {te:TE} {b:Bool}
theorem Zan (h:ClsN X.K X.mg x c v) (hg:Gl X x) (hdb:(x == ("__debug__" : Str))=false:=by decide):PE X (.Name x p) (tC v):=by
 cases h with
 | own m=>exact Xa7 hg m rfl hdb
 | blt m b n=>exact za8 hg m b rfl n hdb
end
noncomputable def clsV:V→Option Value
 | .ref a=>some (.ref a)
 | .ty n=>some (.type n)
 | _=>none
noncomputable def clsVs:List V→Option (List Value)
 | []=>some []
 | v :: r=>match clsV v,clsVs r with
  | some c,some cs=>some (c :: cs)
  | _,_=>none
theorem ZaJ {v:V} {c u:Value} (h:clsV v=some c) (r:RelV v u):u=c:=by
 cases v <;> first | (cases h;exact r) | cases h
theorem YaE:∀ {vs:List V} {cs us:List Value},clsVs vs=some cs→Vals vs us→us=cs
 | _,_,_,h,.nil=>by cases h;rfl
 | v :: r,cs,_,h,.cons a b=>by
  unfold clsVs at h
  split at h
  ·next c cs' e1 e2=>cases h;rw [ZaJ e1 a,YaE e2 b]
  ·cases h
noncomputable def rIsX (K:Frag):List V→Hp→VK→Prop:=fun xs H Q=>∃ a C dx tr v b,xs=[.ref a,v]∧H a=some (XO a C dx tr)∧(∀ d,dx=some d→∃ fs,H d=some (.xd fs))∧ExI K C ∧
 ((∃ c,clsV v=some c∧kitOne K (.ref C) c=some b)∨∃ p vs cs,v=.ref p∧H p=some (.tup vs)∧clsVs vs=some cs∧kitAny K (.ref C) cs=some b)∧Q (.bl b) H
theorem Xaf {X:Cx}:CallR X (.builtin "isinstance") (rIsX X.K):=by
 intro pins s σ H xs us Q I r h
 obtain ⟨a,C,dx,tr,v,b,rfl,ea,hd,ei,hc,q⟩:=h
 obtain ⟨u,u',rfl,ru,ru'⟩:=vals2 r
 cases (show u=Value.ref a from ru)
 have J:=XaY I.hok ea hd
 rcases hc with ⟨c,e1,e2⟩ | ⟨p,vs,cs,rfl,hp,e1,e2⟩
 ·rw [ZaJ e1 ru']
  exact kia_one (XaR ei) I.kIn J e2 (fun z=>nomatch z) fun tk=>⟨.bl b,H,I.tok tk,rfl,q⟩
 ·cases (show u'=Value.ref p from ru')
  obtain ⟨_,its,rv,o,h1,h2,h3,n,h4⟩:=(show ObjOk X.prog X.w H s.heap p (.tup vs) from I.hok p _ hp)
  have ec:=YaE e1 rv
  subst ec
  obtain ⟨oc,od,odt,osl⟩:=o
  cases h2
  cases h4
  exact kia_tup (XaR ei) I.kIn J h1 e2 (fun z=>nomatch z) fun tk=>⟨.bl b,H,I.tok tk,rfl,q⟩
end L2
namespace L2
open PySem PySem.Spec PyProof.Rows
section
variable {X:Cx}
end
end L2
namespace L2
open PySem PySem.Spec PyProof.Rows PySem.W PySem.Builtin PySem.Builtin.ObjectAttr
noncomputable def bmW:List Value:=[.type "ValueError",.type "Exception",.type "BaseException",.type "object"]
noncomputable def overV:List Value→Bool
 | []=>false
 | v :: r=>(v :: r) == bmW || (match v with | .ref _=>overV r | _=>false)
theorem YaJ (self:Value):∀ {l:List Value},overV l=true→refuseLoop self "__setattr__" l=pure ()∧l.contains (.type "object")=true
 | [],e=>by cases e
 | v :: r,e=>by
  unfold overV at e
  rcases Bool.or_eq_true_iff.mp e with e | e
  ·rw [beq_iff_eq.mp e];exact ⟨PySem.F.store_ValueError.passes self,by decide +kernel⟩
  ·split at e
   ·next c =>
    obtain ⟨h1,h2⟩:=YaJ self (l:=r) e
    exact ⟨by rw [refuseLoop_ref];exact h1,by rw [List.contains_cons,h2,Bool.or_true]⟩
   ·cases e
structure ExS (K:Frag) (C:Addr):Prop where
 sa:findIn K (.ref C) "__setattr__" = some (some (.builtin "object.__setattr__"))
 hd:hasDictIn K C=true
 po:(clsIn K C).any (fun cd=>overV cd.mro)=true
section
variable {prog:Program} {w:World} {A:Around} {E:Value→Shared→Prop} {s:Shared} {K:Frag} {a C:Addr} {ox:Obj} {odo:Option Obj} {name:Str} {v:Value}
theorem zaS {R:Result→Shared→Prop} {tk:Tok} (X:K.In s.heap) (I:InstAt s.heap a ox C odo) (e:ExS K C) (ht:takerIn K C name=some none)
  (h:∀ b,wpAny (model prog w) A.in1 (storeInOwnDict (.ref a) (.ref C) (.str name tk) name v b)
   (fun fin s'=>match fin with | .done f=>R (.ok f) s' | .again c'=>c'.quiet=true∧codeAny (model prog w) A c' R s') (fun e s'=>R (.error e) s') s) :
  codeAny (model prog w) A (.call (.builtin "object.__setattr__") ⟨[.ref a,.str name tk,v],[]⟩) R s:=by
 have SF:=PySem.F.store_object
 obtain ⟨cd,hc,ho⟩:=any_some e.po
 obtain ⟨o1,o2⟩:=YaJ (.ref a) ho
 have ne:cd.mro.isEmpty=false:=by
  cases q:cd.mro with
  | nil=>rw [q] at ho;cases ho
  | cons _ _=>rfl
 have sub:Looks (model prog w) s.heap (isInstance (.ref a) (.type "object")) true:=I.type.andThen (looks_mroIn X (by unfold mroIn;rw [hc,Option.bind_some,if_neg (by rw [ne];decide),o2]))
 refine codeAny_call_builtin SF.slot.plain SF.entry (@check_slot (model prog w) _ _ s "object.__setattr__" "object" "__setattr__" (.ref a) [.str name tk,v] [] _ SF.kind SF.split sub (SF.args (.ref a) (.str name tk) v) ?_)
 obtain ⟨attr,ha,hr⟩:=Option.bind_eq_some_iff.mp ht
 have LM:Looks (model prog w) s.heap (mroOf (.ref C)) cd.mro:=(looks_clsIn X hc).andThen .now
 have LT:Looks (model prog w) s.heap (storeTaker? attr) none:=by
  cases attr with
  | none=>exact .now
  | some u =>
   obtain ⟨b,hb,hn⟩:=Option.map_eq_some_iff.mp hr
   cases b with
   | true=>cases hn
   | false=>exact (looks_takesIn X hb).andThen .now
 rw [osa_eq,refuse_eq]
 refine wpAny_bind (wpAny_bind (I.type.here (wpAny_bind (LM.here ?_))))
 rw [o1]
 exact wpAny_pure (wpAny_bind (I.type.here (wpAny_bind ((looks_findIn X ha).here (wpAny_bind (LT.here (h _)))))))
theorem zaZ {Q:Unit→Shared→Prop} (X:K.In s.heap) (hx:s.heap.get? a=some ox) (hc:ox.cls=.ref C) (hdx:ox.dict=none) {vs:Array Value} (hdt:ox.data=.fields vs) (e:ExS K C) (ht:takerIn K C name=some none)
  (h:∀ h' d tk,s.heap.objs.size≤d→h'.get? a=some { ox with dict:=some d }→h'.Ns1 d (fun y=>if y=name then some v else none)→(∀ b o,b≠a→s.heap.get? b=some o→h'.get? b=some o)→Q () { s with heap:=h',toks:=tk }) :
  wpAny (model prog w) A (setAttr (.ref a) name v) Q E s:=by
 obtain ⟨oc,od,odt,osl⟩:=ox
 dsimp only at hc hdx hdt
 subst hc hdx hdt
 have J:InstAt s.heap a ⟨.ref C,none,.fields vs,osl⟩ C none:=⟨hx,rfl,rfl,trivial⟩
 refine set_plain X J e.sa (zaS (s:={ s with toks:=s.toks + 1 }) X J e ht fun b=>?_)
 obtain ⟨cd,hcd,hd'⟩:=any_some e.hd
 refine wpAny_bind (wpAny_pure (wpAny_bind (wpAny_bind (wpAny_loadPart hx (wpAny_bind (Looks.here (s:={ s with toks:=s.toks + 1 }) (looks_clsIn X hcd) ?_))))))
 rw [hd',if_neg (by decide)]
 dsimp only
 rw [if_neg (by simp [typeHasDict])]
 have x1:(s.heap.push { cls:=.type "dict",data:=.dict #[] }).get? a=some ⟨.ref C,none,.fields vs,osl⟩:=Heap.get?_push_of_some _ hx
 have ns:a≠s.heap.objs.size:=Nat.ne_of_lt (Heap.lt_size hx)
 refine wpAny_bind (wpAny_alloc' (wpAny_bind (wpAny_update' x1 (wpAny_pure ?_))))
 have gd:((s.heap.push { cls:=.type "dict",data:=.dict #[] }).update a fun o=>{ cls:=o.cls,dict:=some s.heap.objs.size,data:=o.data,slots:=o.slots }).get? s.heap.objs.size=some { cls:=.type "dict",data:=.dict #[] } :=
  (Heap.get?_update_ne _ _ _ _ ns.symm).trans (Heap.get?_push_at rfl rfl)
 have nd:((s.heap.push { cls:=.type "dict",data:=.dict #[] }).update a fun o=>{ cls:=o.cls,dict:=some s.heap.objs.size,data:=o.data,slots:=o.slots }).Ns s.heap.objs.size (fun _=>none) :=
  ⟨_,#[],_,gd,rfl,fun e he=>absurd he (by simp),fun _=>rfl⟩
 show wpAny _ _ (storeInDict s.heap.objs.size (.str name s.toks) name v) _ _ _
 unfold storeInDict newKeyGuard
 refine wpAny_bind (wpAny_pure (wpAny_bind (wpAny_nsSet1 (Heap.Ns1.of_empty nd) fun h' hn hs=>?_)))
 obtain ⟨oD,esD,epD,hoD,hdD,hcD⟩:=hn.count (Within.cons name v Within.nil)
 refine wpAny_bind (wpAny_lookBehind hoD (by rw [hdD];exact pastItsLine_dict (Nat.le_trans hcD (by rw [List.length_cons,List.length_nil,sizeLine_eq];omega))) ?_)
 refine wpAny_pure (h h' s.heap.objs.size _ (Nat.le_refl _) ((hs.2 a ns).trans (Heap.get?_update_self _ x1 rfl)) hn fun b o nb q=>?_)
 exact (hs.2 b (Nat.ne_of_lt (Heap.lt_size q))).trans ((Heap.get?_update_ne _ _ _ _ nb).trans (Heap.get?_push_of_some _ q))
theorem yaZ {Q:Unit→Shared→Prop} {d:Addr} {mA:Str→Option Value} {nms:List Str} (X:K.In s.heap) (hx:s.heap.get? a=some ox) (hc:ox.cls=.ref C) (hdx:ox.dict=some d) {vs:Array Value} (hdt:ox.data=.fields vs) (hn:s.heap.Ns1 d mA) (e:ExS K C) (ht:takerIn K C name=some none)
  (hw:Within mA nms) (hsz:nms.length + 1≤sizeLine) (h:∀ h' tk,Heap.SameBut d s.heap h'→h'.Ns1 d (fun y=>if y=name then some v else mA y)→Q () { s with heap:=h',toks:=tk }) :
  wpAny (model prog w) A (setAttr (.ref a) name v) Q E s:=by
 obtain ⟨oc,od,odt,osl⟩:=ox
 dsimp only at hc hdx hdt
 subst hc hdx hdt
 obtain ⟨odd,es,ep,e1,_⟩:=id hn
 have J:InstAt s.heap a ⟨.ref C,some d,.fields vs,osl⟩ C (some odd):=⟨hx,rfl,rfl,e1⟩
 refine set_plain X J e.sa (zaS (s:={ s with toks:=s.toks + 1 }) X J e ht fun b=>?_)
 obtain ⟨cd,hcd,hd'⟩:=any_some e.hd
 refine wpAny_bind (wpAny_pure (wpAny_bind (wpAny_bind (wpAny_loadPart hx (wpAny_bind (Looks.here (s:={ s with toks:=s.toks + 1 }) (looks_clsIn X hcd) ?_))))))
 rw [hd',if_neg (by decide)]
 refine wpAny_pure ?_
 show wpAny _ _ (storeInDict d (.str name s.toks) name v) _ _ _
 unfold storeInDict newKeyGuard
 refine wpAny_bind (wpAny_pure (wpAny_bind (wpAny_nsSet1 (s:={ s with toks:=s.toks + 1 }) hn fun h' hn2 hs2=>?_)))
 obtain ⟨oD,esD,epD,hoD,hdD,hcD⟩:=hn2.count (Within.cons name v hw)
 refine wpAny_bind (wpAny_lookBehind hoD (by rw [hdD];exact pastItsLine_dict (Nat.le_trans hcD (by rw [List.length_cons];omega))) ?_)
 exact wpAny_pure (h h' _ hs2 hn2)
end
noncomputable def sXf (K:Frag) (ta tv:TE) (f:Str):TS:=fun D σ H=>tv σ H fun y H1=>ta σ H1 fun x H2=>∃ a C tr,x=.ref a∧ExS K C∧takerIn K C f=some none ∧
 ((H2 a=some (XO a C none tr)∧∀ d,H2 d=none→d≠a→D.nx σ (upd (upd H2 a (XO a C (some d) tr)) d (.xd [(f,y)]))) ∨
   ∃ d fs,H2 a=some (XO a C (some d) tr)∧H2 d=some (.xd fs)∧fs.length≤10∧D.nx σ (upd H2 d (.xd ((f,y) :: fs))))
section
variable {X:Cx} {pins:List (Addr×Obj)} {σ:St} {H:Hp} {s:Shared} {a C:Addr} {tr:Option Addr} {f:Str} {y:V} {u:Value}
theorem xaJ {fs:List (Str×V)} {mA:Str→Option Value} (r:∀ g,RelO (fs.lookup g) (mA g)) (ry:RelV y u):∀ g,RelO (((f,y) :: fs).lookup g) (if g=f then some u else mA g):=fun g=>by
 rw [List.lookup_cons]
 by_cases e:g=f
 ·subst e;rw [if_pos rfl,beq_self_eq_true];exact ry
 ·rw [if_neg e,show (g == f)=false from by simpa using e];exact r g
theorem Inv.xset0 {A:Around} {E:Value→Shared→Prop} {Q:Unit→Shared→Prop} (I:Inv X pins σ H s) (ea:H a=some (XO a C none tr)) (e:ExS X.K C) (ht:takerIn X.K C f=some none) (ry:RelV y u)
  (h:∀ s' d,H d=none→d≠a→Inv X pins σ (upd (upd H a (XO a C (some d) tr)) d (.xd [(f,y)])) s'→Q () s'):wpAny (model X.prog X.w) A (setAttr (.ref a) f u) Q E s:=by
 obtain ⟨ox,vs,hx,hc,hdx,hdt,h1⟩:=XO.of I.hok ea
 refine zaZ I.kIn hx hc hdx hdt e ht fun h' d tk hd g1 g2 kp=>?_
 have Hd:H d=none:=I.hok.fresh hd
 have da:d≠a:=fun z=>by rw [z,ea] at Hd;cases Hd
 refine h _ d Hd da ?_
 have Hb:∀ b o,b≠a→H b=some o→upd (upd H a (XO a C (some d) tr)) d (.xd [(f,y)]) b=some o:=fun b o n q=>by rw [zac (fun z=>by rw [z,Hd] at q;cases q),zac n];exact q
 have tne:∀ b o,H b=some o→(∀ φ,o≠.ext φ)→b≠a:=fun b o q n z=>by rw [z,ea] at q;cases q;exact n _ rfl
 have low:∀ b o,s.heap.get? b=some o→b≠d:=fun b o q=>Nat.ne_of_lt (Nat.lt_of_lt_of_le (Heap.lt_size q) hd)
 refine I.call (ch:=[]) ⟨fun b o q n _ _=>kp b o (fun z=>by rw [z,ea] at n;cases n) q,fun b o q n _ _=>⟨o.slots,kp b o (fun z=>by rw [z,ea] at n;cases n) q⟩,fun b o q n _=>?_,fun b o q _=>?_,
  fun b xs q=>Hb b _ (tne b _ q fun φ z=>by cases z) q,fun b o v q=>Hb b _ (tne b _ q fun φ z=>by cases z) q,fun b ps q=>⟨#[],by rw [Array.append_empty];exact Hb b _ (tne b _ q fun φ z=>by cases z) q⟩⟩ ?_ I.bare fun b z=>absurd z (by simp)
 ·rw [zac (low b o q),zac (fun z=>by rw [z,ea] at n;cases n)];exact n
 ·by_cases z:b=a
  ·subst z;exact ⟨_,g1⟩
  ·exact ⟨o,kp b o z q⟩
 ·intro b o q
  by_cases z:b=d
  ·subst z;rw [Xad] at q;cases q
   exact ⟨_,g2,xaJ (fs:=[]) (fun g=>trivial) ry⟩
  ·rw [zac z] at q
   by_cases z2:b=a
   ·subst z2;rw [Xad] at q;cases q
    exact XO.ok ⟨_,vs,g1,hc,rfl,hdt,h1⟩
   ·rw [zac z2] at q
    refine (I.hok b o q).stay (fun c w' hc' r=>kp c w' ?_ r) (fun c r=>Hb c _ (tne c _ r fun φ z=>by cases z) r) fun c xs r=>Hb c _ (tne c _ r fun φ z=>by cases z) r
    rcases hc' with rfl | hc'
    ·exact z2
    ·exact tne c _ hc' fun φ z=>by cases z
theorem Inv.xset1 {A:Around} {E:Value→Shared→Prop} {Q:Unit→Shared→Prop} {d:Addr} {fs:List (Str×V)} (I:Inv X pins σ H s) (ea:H a=some (XO a C (some d) tr)) (ed:H d=some (.xd fs)) (hl:fs.length≤10) (e:ExS X.K C) (ht:takerIn X.K C f=some none) (ry:RelV y u)
  (h:∀ s',Inv X pins σ (upd H d (.xd ((f,y) :: fs))) s'→Q () s'):wpAny (model X.prog X.w) A (setAttr (.ref a) f u) Q E s:=by
 obtain ⟨ox,vs,hx,hc,hdx,hdt,h1⟩:=XO.of I.hok ea
 obtain ⟨mA,hn,rf⟩:=(show ObjOk X.prog X.w H s.heap d (.xd fs) from I.hok d _ ed)
 have wi:Within mA (fs.map (·.1)):=fun g hg=>by
  cases q:fs.lookup g with
  | some v =>
   have:=PySem.mem_of_lookup q
   exact List.mem_map.mpr ⟨(g,v),this,rfl⟩
  | none =>
   have z:=rf g
   rw [q] at z
   cases m:mA g with
   | none=>exact absurd m hg
   | some w=>rw [m] at z;exact z.elim
 refine yaZ I.kIn hx hc hdx hdt hn e ht wi (by rw [List.length_map,sizeLine_eq];omega) fun h' tk sb hn2=>h _ ?_
 have kp:∀ b o,b≠d→s.heap.get? b=some o→h'.get? b=some o:=fun b o n q=>(sb.2 b n).trans q
 have nd:∀ b o,H b=some o→(∀ ws,o≠.xd ws)→b≠d:=fun b o q n z=>by rw [z,ed] at q;cases q;exact n _ rfl
 have Hb:∀ b o,H b=some o→(∀ ws,o≠.xd ws)→upd H d (.xd ((f,y) :: fs)) b=some o:=fun b o q n=>by rw [zac (nd b o q n)];exact q
 obtain ⟨od,es,ep,gd,_⟩:=id hn2
 refine I.call (ch:=[]) ⟨fun b o q n _ _=>kp b o (fun z=>by rw [z,ed] at n;cases n) q,fun b o q n _ _=>⟨o.slots,kp b o (fun z=>by rw [z,ed] at n;cases n) q⟩,fun b o q n _=>by rw [zac (fun z=>by rw [z,ed] at n;cases n)];exact n,fun b o q _=>?_,
  fun b xs q=>Hb b _ q (fun ws z=>by cases z),fun b o v q=>Hb b _ q (fun ws z=>by cases z),fun b ps q=>⟨#[],by rw [Array.append_empty];exact Hb b _ q (fun ws z=>by cases z)⟩⟩ ?_ I.bare fun b z=>absurd z (by simp)
 ·by_cases z:b=d
  ·subst z;exact ⟨_,gd⟩
  ·exact ⟨o,kp b o z q⟩
 ·intro b o q
  by_cases z:b=d
  ·subst z;rw [Xad] at q;cases q
   exact ⟨_,hn2,xaJ rf ry⟩
  ·rw [zac z] at q
   refine (I.hok b o q).stay (fun c w' hc' r=>kp c w' ?_ r) (fun c r=>Hb c _ r fun ws z=>by cases z) fun c xs r=>Hb c _ r fun ws z=>by cases z
   rcases hc' with rfl | hc'
   ·exact z
   ·exact nd c _ hc' fun ws z=>by cases z
variable {o value:Expr} {ta tv:TE} {pos pos':Pos}
theorem Xav (ha:PE X o ta) (hv:PE X value tv) (hs:swapsWith value (some (.Attribute o f pos')) pos.line X.env=pure false):PS X (.Assign [.Attribute o f pos'] value pos) (sXf X.K ta tv f):=by
 intro pins s σ H D I h
 refine plainObj_wpAny_Assign_Attribute (thn (hv pins s σ H _ I h) fun u s1 ⟨y,H1,I1,ry,q⟩=>thn (ha pins s1 σ H1 _ I1 q) fun ov s2 ⟨x,H2,I2,rx,a,C,tr,ex,e,ht,q2⟩=>?_) hs
 subst ex
 obtain rfl:ov=Value.ref a:=rx
 rcases q2 with ⟨ea,q2⟩ | ⟨d,fs,ea,ed,hl,q2⟩
 ·exact I2.xset0 ea e ht ry fun s3 d h1 h2 I3=>⟨σ,_,I3,q2 d h1 h2⟩
 ·exact I2.xset1 ea ed hl e ht ry fun s3 I3=>⟨σ,_,I3,q2⟩
end
end L2
namespace L2
open PySem PySem.Spec PyProof.Rows PySem.W
noncomputable def excInI (K:Frag) (C:Addr) (bmB:List Value) (newId:String) (f:Addr):Bool:=match K.lookup C with
 | some ⟨.type "type",_,.cls cd,sl⟩=>(match cd.mro,sl.toList with
  | .ref C' :: bm,[_,_,_,_,some (.builtin n),_]=>C' == C && n == newId && !cd.hasDel && tailIn K bmB bm && nsOkIn K cd.ns && nsIn K cd.ns "__init__" == some (some (.ref f))
  | _,_=>false)
 | _=>false
theorem xba {K:Frag} {h:Heap} {N:Addr} {mN:Str→Option Value} {n:Str} {v:Value} (X:K.In h) (G:h.Ns N mN) (e:nsIn K N n=some (some v)):mN n=some v:=by
 obtain ⟨o,es,ep,ho,hd,_,hf⟩:=G
 unfold nsIn at e
 split at e
 ·next c d es' n' sl q =>
  have z:=X _ _ q
  rw [ho] at z
  cases z
  cases hd
  split at e
  ·next en he =>
   cases e
   rw [← hf]
   unfold nsFind findBy
   rw [← Array.find?_toList,he]
   rfl
  ·split at e <;> cases e
 ·cases e
theorem ZaZ {K:Frag} {h:Heap} {C f:Addr} {bmB:List Value} {newId:String} (X:K.In h) (q:excInI K C bmB newId f=true) :
  ∃ bm N nm qn bs hdct sn sub ab col dd k0 k1 k2 k3 k5 mN,h.get? C=some (excClassObj nm qn C N bs bm hdct sn sub ab col dd k0 k1 k2 k3 k5 newId)∧h.Ns N mN∧mN "__init__" = some (.ref f)∧OwnTail h bmB bm:=by
 unfold excInI at q
 split at q
 ·next dd cd sl ho =>
  split at q
  ·next C' bm k0 k1 k2 k3 n k5 hm hs =>
   simp only [Bool.and_eq_true,beq_iff_eq,Bool.not_eq_true'] at q
   obtain ⟨⟨⟨⟨⟨e1,e2⟩,e3⟩,e4⟩,e5⟩,e6⟩:=q
   subst e1 e2
   obtain ⟨nm,bs,mro,ns,qn,hd,sn,sub,ab,col,del⟩:=cd
   obtain ⟨l⟩:=sl
   dsimp only at hm hs e3 e5 e6
   subst hm e3 hs
   have G:h.Ns ns (h.nsMap ns):=.of_isNs (isNs_of_in X e5)
   exact ⟨bm,ns,nm,qn,bs,hd,sn,sub,ab,col,dd,k0,k1,k2,k3,k5,_,X _ _ ho,G,xba X G e6,tail_of_in X e4⟩
  ·cases q
 ·cases q
section
variable {prog:Program} {w:World} {A:Around} {E:Value→Shared→Prop} {h:Heap} {g:Array GenState} {d:Drawn} {t:Nat} {os:OsState}
variable {nm q:Str} {C N:Addr} {bs bm bmB:List Value} {hdct:Bool} {sn:List Str} {sub:List Value} {ab:Bool} {col:Option Bool} {dd:Option Addr} {k0 k1 k2 k3 k5:Option Value} {B newId initId:String}
theorem yaS (F:ExcBaseFacts B newId initId bmB) (T:OwnTail h bmB bm) {mN:Str→Option Value} {rest:List Value} {f:Addr} {oI:Obj} {Q:PySem.Fin→Shared→Prop}
  (hC:h.get? C=some (excClassObj nm q C N bs bm hdct sn sub ab col dd k0 k1 k2 k3 k5 newId)) (hn:h.Ns N mN) (hi:mN "__init__" = some (.ref f)) (hf:h.get? f=some oI) (hfc:oI.cls=.type "function")
  (hq:∀ h' e,Heap.MadeExcOf h h' e (.ref C) rest→wpAny (model prog w) A (call (.ref f) (.ref e :: rest)) (fun r s'=>r=.none∧Q (.done (.ret (.ref e))) s') E ⟨h',g,d,t,os⟩) (hrest:rest.length≤sizeLine) :
  wpAny (model prog w) A (Builtin.«type.__call__» ⟨.ref C :: rest,[]⟩) Q E ⟨h,g,d,t,os⟩:=by
 repeat (first | with_reducible refine wpAny_loadPart_at hC ?_ | with_reducible refine wpAny_madeBy_exc hC ?_ | wp_step)
 refine codeAny_call_builtin_code (Code.quiet_builtin _ F.quiet) (wpAny_check_new_subT F T hC (codeAny_exc_new_subT F T hC ?_ hrest))
 show wpAny _ _ _ _ _ _
 generalize e1:({ cls:=.type "tuple",data:=.seq rest.toArray }:Obj)=o1
 generalize e2:({ cls:=.ref C,data:=.fields #[.ref h.objs.size,.none,.none,.none,.bool false,.none] }:Obj)=o2
 have f1:o1.isFreed=false:=by rw [← e1];rfl
 have f2:o2.isFreed=false:=by rw [← e2];rfl
 have kp:∀ b o,h.get? b=some o→((h.push o1).push o2).get? b=some o:=fun b o z=>Heap.get?_push_of_some _ (Heap.get?_push_of_some _ z)
 have gE:((h.push o1).push o2).get? (h.objs.size + 1)=some o2:=Heap.get?_push_at (by simp only [Heap.size_push]) f2
 have gE':((h.push o1).push o2).get? (h.objs.size + 1)=some { cls:=.ref C,data:=.fields #[.ref h.objs.size,.none,.none,.none,.bool false,.none] }:=by rw [gE,← e2]
 have cC:(Value.ref C :: bm).contains (.ref C)=true:=by simp
 have hC1:=kp _ _ hC
 have hn1:((h.push o1).push o2).Ns N mN:=hn.keeps kp
 have T1:=T.keeps kp
 unfold isInstance
 repeat (first | with_reducible refine wpAny_loadPart_at gE' ?_ | (with_reducible refine wpAny_isSubtype_exc hC1 ?_;rw [cC]) | wp_step)
 show wpAny _ _ (typeLookup (.ref C) _) _ _ _
 refine wpAny_typeLookup_tail hC1 hn1 T1 F.mroIs F.init.lookup ?_
 rw [hi]
 refine wpAny_holding (wpAny_bind ?_)
 unfold bindSpecial
 refine wpAny_bind (wpAny_typeOf (T:="function") ⟨_,kp _ _ hf,hfc⟩ ?_)
 rw [if_pos (by decide)]
 refine wpAny_pure (wpAny_bind (wpAny_mono (hq _ (h.objs.size + 1) ⟨kp,Heap.get?_none_of_le (Nat.le_succ _),h.objs.size,gE',Heap.get?_none_of_le (Nat.le_refl _),?_⟩) (fun r s' hr=>?_) fun _ _ x=>x))
 ·rw [Heap.get?_push_of_some o2 (Heap.get?_push_at rfl f1),e1]
 ·obtain ⟨rfl,hQ⟩:=hr
  wp_walk
  exact hQ
theorem YaZ (F:ExcBaseFacts B newId initId bmB) (T:OwnTail h bmB bm) {mN:Str→Option Value} {rest:List Value} {f:Addr} {oI:Obj} {Q:Value→Shared→Prop}
  (hC:h.get? C=some (excClassObj nm q C N bs bm hdct sn sub ab col dd k0 k1 k2 k3 k5 newId)) (hn:h.Ns N mN) (hi:mN "__init__" = some (.ref f)) (hf:h.get? f=some oI) (hfc:oI.cls=.type "function")
  (hq:∀ h' e,Heap.MadeExcOf h h' e (.ref C) rest→wpAny (model prog w) (A.under (.builtin "type.__call__" ⟨.ref C :: rest,[]⟩)) (call (.ref f) (.ref e :: rest)) (fun r s'=>r=.none∧Q (.ref e) s') E ⟨h',g,d,t,os⟩) (hrest:rest.length≤sizeLine) :
  wpAny (model prog w) A (call (.ref C) rest) Q E ⟨h,g,d,t,os⟩:=by
 have f1:=tc_lookup
 have f2:=tc_bind (.ref C)
 have hT:(⟨h,g,d,t,os⟩:Shared).TypeIs (.ref C) "type" := ⟨_,hC,rfl⟩
 refine wpAny_call (codeAny_of_tree ?_)
 show wpAny _ _ (callAny (.ref C) _) _ _ _
 repeat (any_goals (first | assumption | with_reducible refine wpAny_loadPart_at hC ?_ | wp_step))
 refine ⟨rfl,?_⟩
 exact codeAny_call_builtin_at (Code.quiet_builtin _ (by decide +kernel)) entry_typeCall (wpAny_check_type_call_sub hC (yaS F T hC hn hi hf hfc (fun h' e hm=>hq h' e hm) hrest))
end
structure ExM (K:Frag) (mg:Str→Option Value) (x:Str) (C f:Addr) (bmB:List Value) (newId:String):Prop where
 m:mg x=some (.ref C)
 k:excInI K C bmB newId f=true
 fn:isFn K (.ref f)=true
 kp:keepIn K (.ref C)=true
noncomputable def tXMake (C:Addr) (sp:Sp) (t:TA):TE:=fun σ H Q=>t σ H fun vs H1=>vs.length≤10∧∀ a,H1 a=none→sp (.ref a :: vs) (upd H1 a (XO a C none none)) (fun v H2=>v=.non∧Q (.ref a) H2) E0
section
variable {X:Cx} {k:Nat} {f C:Addr} {fd:FuncData} {ps:List Str} {sp:Sp} {x:Str} {p pos:Pos} {e:Expr} {es:List Expr} {t:TA} {B newId initId:String} {bmB:List Value}
theorem ZaS {pins:List (Addr×Obj)} {σ:St} {H:Hp} {s:Shared} {Q:VK} {us:List Value} {vs:List V} (FB:ExcBaseFacts B newId initId bmB) (M:ExM X.K X.mg x C f bmB newId) (F:FnOk X.prog X.w X.K X.mg X.base CX0 k f fd ps sp) (hr:Room (k + 1) X.A) (hb:Binds X.K fd ps [])
  (I:Inv X pins σ H s) (r:Vals vs us) (hl:vs.length≤10) (h:∀ a,H a=none→sp (.ref a :: vs) (upd H a (XO a C none none)) (fun v H2=>v=.non∧Q (.ref a) H2) E0) :
  wpAny (model X.prog X.w) X.A (call (.ref C) us) (EP X pins σ Q) X.xe s:=by
 obtain ⟨bm,NN,nm,qn,bs,hdct,sn,sub,ab,col,dd,k0,k1,k2,k3,k5,mN,hC,hN,hni,T⟩:=ZaZ I.kIn M.k
 obtain ⟨oI,lI,cI⟩:=Option.map_eq_some_iff.mp (show (X.K.lookup f).map (·.cls)=some (.type "function") from beq_iff_eq.mp M.fn)
 obtain ⟨hp,g,d,tk,os⟩:=s
 refine YaZ FB T hC hN hni (I.kIn _ _ lI) cI (fun h' a hm=>?_) (by rw [← r.length,sizeLine_eq];omega)
 obtain ⟨t0,ht,_,_⟩:=hm.there
 have I2:=I.lay1 (o:=XO a C none none) hm.keeps hm.new (XO.ok ⟨_,_,ht,rfl,rfl,rfl,rfl⟩)
 have hq:=h a (I.hok.none_of hm.new)
 have r2:Vals (V.ref a :: vs) (Value.ref a :: us):=.cons rfl r
 have hl2:(Value.ref a :: us).length=ps.length:=by rw [← r2.length];exact F.len _ _ _ _ hq
 have hbd:=hb _ (Value.ref a :: us) I2.kIn (by rw [List.append_nil];exact hl2)
 rw [List.append_nil] at hbd
 refine wpAny_call (codeAny_mono (F.run _ X.stack _ _ ⟨Value.ref a :: us,[]⟩ (Value.ref a :: us) _ _ E0 (hr.make C us []) (I2.env0.make C us []) hbd r2 hq) fun r s' hq'=>?_)
 cases r with
 | error e=>exact hq'.elim
 | ok fl =>
  cases fl with
  | ret u =>
   obtain ⟨v,H',I3,rv,ev,q3⟩:=I2.after hq'
   subst ev
   exact ⟨rv,V.ref a,H',I3,rfl,q3⟩
  | next=>exact False.elim hq'
  | brk=>exact False.elim hq'
  | cont=>exact False.elim hq'
theorem yav (FB:ExcBaseFacts B newId initId bmB) (M:ExM X.K X.mg x C f bmB newId) (F:FnOk X.prog X.w X.K X.mg X.base CX0 k f fd ps sp) (hr:Room (k + 1) X.A) (hg:Gl X x) (hb:Binds X.K fd ps [])
  (ha:PA X (e :: es) t) (hdb:(x == ("__debug__" : Str))=false:=by decide) (he:starEach (e :: es) X.env=(false,eval e X.env) :: starEach es X.env:=by rfl) (hpl:(backTo pos (starEach es X.env)).any (·.1)=false:=by rfl) :
  PE X (.Call (.Name x p) (e :: es) [] pos) (tXMake C sp t):=by
 intro pins s σ H Q I h
 refine wpAny_Call_Name_kw (yaA I hg M.m ?_ hdb)
 refine callWith_K (h₀:=X.base) I.ok.mod.kin M.kp (thn (ha pos pins s σ H _ I h) fun us s1 ⟨vs,H1,I1,r,hl,q⟩=>⟨I1.kIn,?_⟩) he hpl
 exact ZaS FB M F hr hb I1 r hl q
end
section
variable {P:Program} {w:World} {K:Frag} {mg:Str→Option Value} {base:Heap} {N:List Str} {qual:Str} {scope:Scope} {f:Addr} {cd:Value} {A:Around} {outer:List Env} {s0:Shared} {H0:Hp} {E:XK}
end
end L2
namespace L2
open PySem PySem.Spec PyProof.Rows PySem.W
noncomputable def tXg (K:Frag) (te:TE) (f:Str):TE:=fun σ H Q=>te σ H fun x H1=>∃ a C d tr fs v,x=.ref a∧H1 a=some (XO a C (some d) tr)∧H1 d=some (.xd fs)∧fs.lookup f=some v∧ExI K C∧findIn K (.ref C) f=some none∧Q v H1
section
variable {X:Cx} {e:Expr} {te:TE} {f:Str} {pos:Pos}
theorem zaw (he:PE X e te) (hb:attributeBase e f X.env (eval e X.env)=eval e X.env):PE X (.Attribute e f pos) (tXg X.K te f):=by
 intro pins s σ H Q I h
 refine Za9 hb (thn (he pins s σ H _ I h) fun u s1 ⟨x,H1,I1,rx,a,C,d,tr,fs,v,ex,ea,ed,l,ei,n,q⟩=>?_)
 subst ex
 obtain rfl:u=Value.ref a:=rx
 obtain ⟨ox,vs,hx,hc,hdx,hdt,_⟩:=XO.of I1.hok ea
 obtain ⟨mA,hn,rf⟩:=(show ObjOk X.prog X.w H1 s1.heap d (.xd fs) from I1.hok d _ ed)
 obtain ⟨w',hw,rw'⟩:=RelO.some_of (v:=v) (o:=mA f) (by rw [← l];exact rf f)
 obtain ⟨od,ho,hl⟩:=yaP hn
 have J:InstAt s1.heap a ox C (some od):=⟨hx,hc,by unfold notCls;rw [hdt],by rw [hdx];exact ho⟩
 exact xaY I1.kIn J ei (findObj_own ei.hd n rfl (by rw [hl,hw])) (handedOut_of (ZaP rw')) ⟨v,H1,I1.tok _,rw',q⟩
end
noncomputable def spI2 (K:Frag) (f1 f2:Str):Sp:=fun vs H Q _=>∃ a C tr v1 v2,vs=[.ref a,v1,v2]∧H a=some (XO a C none tr)∧ExS K C∧takerIn K C f1=some none∧takerIn K C f2=some none ∧
 ∀ d,H d=none→d≠a→Q .non (upd (upd H a (XO a C (some d) tr)) d (.xd [(f2,v2),(f1,v1)]))
noncomputable def spI1 (K:Frag) (f1:Str):Sp:=fun vs H Q _=>∃ a C tr v1,vs=[.ref a,v1]∧H a=some (XO a C none tr)∧ExS K C∧takerIn K C f1=some none∧∀ d,H d=none→d≠a→Q .non (upd (upd H a (XO a C (some d) tr)) d (.xd [(f1,v1)]))
theorem xaZ {K:Frag} {f1 f2:Str} {vs:List V} {H:Hp} {Q:VK} {E:XK} (h:spI2 K f1 f2 vs H Q E):vs.length=3:=by obtain ⟨_,_,_,_,_,rfl,_⟩:=h;rfl
theorem xaA {K:Frag} {f1:Str} {vs:List V} {H:Hp} {Q:VK} {E:XK} (h:spI1 K f1 vs H Q E):vs.length=2:=by obtain ⟨_,_,_,_,rfl,_⟩:=h;rfl
theorem zaM {K:Frag} {f1 f2 p0 p1 p2:Str} {vs:List V} {H:Hp} {Q:VK} {E:XK} (h:spI2 K f1 f2 vs H Q E) :
  tSeq (sXf K (tVar 0) (tVar 1) f1) (sXf K (tVar 0) (tVar 2) f2) { nx:=fun _ H'=>Q .non H',rt:=Q } (start [p0,p1,p2] vs) H:=by
 obtain ⟨a,C,tr,v1,v2,rfl,ea,es,t1,t2,q⟩:=h
 refine ⟨v1,rfl,.ref a,rfl,a,C,tr,rfl,es,t1,.inl ⟨ea,fun d hd da=>?_⟩⟩
 refine ⟨v2,rfl,.ref a,rfl,a,C,tr,rfl,es,t2,.inr ⟨d,[(f1,v1)],by rw [zac (Ne.symm da),Xad],Xad,(show 1≤10 by decide),?_⟩⟩
 show Q .non _
 rw [ZaG]
 exact q d hd da
theorem Zas {K:Frag} {f1 p0 p1:Str} {vs:List V} {H:Hp} {Q:VK} {E:XK} (h:spI1 K f1 vs H Q E) :
  sXf K (tVar 0) (tVar 1) f1 { nx:=fun _ H'=>Q .non H',rt:=Q } (start [p0,p1] vs) H:=by
 obtain ⟨a,C,tr,v1,rfl,ea,es,t1,q⟩:=h
 exact ⟨v1,rfl,.ref a,rfl,a,C,tr,rfl,es,t1,.inl ⟨ea,fun d hd da=>q d hd da⟩⟩
theorem XaA {K:Frag} {x qual:Str} {st:Stmt} {ps:List Str} {f:Addr} {oc:Value} {od an:Option Addr} {osl:Array (Option Value)} {kV doc pm cdv ct:Value}
  (hb:∀ (kV doc pm:Value) (an:Option Addr) (cdv ct:Value) (us:List Value),us.length=ps.length→bindArgs (fnOf x qual (defArgs st) (defBody st) (defScope st) .none kV doc pm an cdv ct) ⟨us,[]⟩=pure (ps.zip us))
  (l:K.lookup f=some ⟨oc,od,.func (fnOf x qual (defArgs st) (defBody st) (defScope st) .none kV doc pm an cdv ct),osl⟩) (c:codeIn K cdv qual=true) (k:keepIn K (.ref f)=true):∃ fd,Fun K x qual st f fd∧Binds K fd ps [] :=
 ⟨_,Ya5 l c k,.all (hb kV doc pm an cdv ct)⟩
end L2
namespace L2
open PySem PySem.Spec PyProof.Rows PySem.W
noncomputable def tXMake0 (C:Addr):TE:=fun _ H Q=>∀ a,H a=none→Q (.ref a) (upd H a (XO a C none none))
section
variable {X:Cx} {C:Addr} {x:Str} {p pos:Pos} {B newId initId:String} {bmB:List Value}
theorem yaw (FB:ExcBaseFacts B newId initId bmB) (ec:ExC X.K X.mg x C bmB newId) (hk:keepIn X.K (.ref C)=true) (hg:Gl X x) (hdb:(x == ("__debug__" : Str))=false:=by decide):PE X (.Call (.Name x p) [] [] pos) (tXMake0 C):=by
 intro pins s σ H Q I h
 refine wpAny_Call_Name_kw (yaA I hg ec.m ?_ hdb)
 refine callWith_K0 (X:=I.kIn) hk ?_
 obtain ⟨bm,NN,nm,qn,bs,hdct,sn,sub,ab,col,dd,k0,k1,k2,k3,k5,mN,hC,hN,hni,T⟩:=Yba I.kIn ec.k
 obtain ⟨hp,g,d,tk,os⟩:=s
 refine wpAny_call_exc_subT FB T hC hN hni (fun h' a hm=>?_)
 obtain ⟨t,ht,_,_⟩:=hm.there
 exact ⟨.ref a,_,I.lay1 hm.keeps hm.new (XO.ok ⟨_,_,ht,rfl,rfl,rfl,rfl⟩),rfl,h a (I.hok.none_of hm.new)⟩
end
noncomputable def Piece (K:Frag) (H:Hp) (x:V) (d:PyData):Prop:=(Rep K H x d∧d.canLay0=true)∨∃ a w n,x=.ref a∧H a=some (.dK [(.inr w,.int n)])∧d=.dict [(.str w,.int n)]
section
variable {X:Cx} {pins:List (Addr×Obj)} {σ:St} {H:Hp} {s:Shared}
theorem Piece.reads {x:V} {d:PyData} {u:Value} (I:Inv X pins σ H s) (h:Piece X.K H x d) (r:RelV x u):∃ as,Reads s.heap u d as∧(d.hasDict=true→sysModules ∉ as):=by
 rcases h with ⟨h,c⟩ | ⟨a,w,n,rfl,e,rfl⟩
 ·obtain ⟨as,ra⟩:=h.reads I r
  exact ⟨as,ra,PyData.noDict_hsm (PyData.hasDict_of_canLay _ c)⟩
 ·obtain rfl:u=Value.ref a:=r
  obtain ⟨_,hsm,vs,kv,o,es,ep,ho,ex,hd,_,hp,nd⟩:=dk_of I.hok e
  cases kv with
  | @cons p q ps qs hk kt =>
   cases kt
   obtain ⟨q1,q2⟩:=q
   obtain ⟨ek,rv⟩:=hk
   dsimp only at ek rv
   subst ek
   obtain ⟨t2,rfl⟩:=rv
   obtain ⟨l⟩:=es
   cases (show Pairs (mixKind X.prog X.w) l _ from hp) with
   | @cons en kv es kvs hi hv ht =>
    cases ht
    rcases Zae (show keyIs (.inr w) en.key=true from hi) with ⟨i,t,e1,_⟩ | ⟨y,t,e1,e2⟩
    ·cases e1
    ·cases e1
     refine ⟨_,.dict ho ex.1 hd (kvs:=[(.str w,.int n)]) (as:=[]) (bs:=[]) ?_ ?_,fun _ hm=>?_⟩
     ·show ReadsAll _ [en.key] [.str w] _
      rw [e2]
      exact .cons (as:=[]) (bs:=[]) (.str _ _) .nil
     ·show ReadsAll _ [en.val] [.int n] _
      rw [hv]
      exact .cons (as:=[]) (bs:=[]) (.int _ _) .nil
     ·have:sysModules=a:=by simpa using hm
      rw [this] at hsm
      simp at hsm
theorem zau (I:Inv X pins σ H s):∀ {vs:List V} {ds:List PyData} {us:List Value},Paired (Piece X.K H) vs ds→Vals vs us→PyData.showableAll ds=true→(∀ t∈PyData.shownAll ds,t.length≤sizeLine) →
  (∃ as,ReadsAll s.heap us ds as)∧∃ bs,ReadAtMost s.heap (PyData.depthAll ds) bs∧ReprAllK X.prog X.w bs s.heap (PyData.depthAll ds) us (PyData.shownAll ds)
 | _,_,_,.nil,r,_,_=>by cases r;exact ⟨⟨_,.nil⟩,[],(fun _ h=>nomatch h),by simp only [PyData.shownAll];exact .nil⟩
 | _,d :: ds,_,.cons h t,r,hs,hz=>by
  cases r with
  | cons r1 r2 =>
   have hs':d.showable=true∧PyData.showableAll ds=true:=by simpa [PyData.showableAll] using hs
   obtain ⟨as1,ra,hsm⟩:=Piece.reads I h r1
   obtain ⟨b1,hb1,k1⟩:=ReprK.of_reads (prog:=X.prog) (w:=X.w) ra hs'.1 hsm (hz _ (by simp only [PyData.shownAll];exact List.mem_cons_self ..))
   obtain ⟨⟨as2,ra2⟩,b2,hb2,k2⟩:=zau I t r2 hs'.2 (fun t ht=>hz t (by simp only [PyData.shownAll];exact List.mem_cons_of_mem _ ht))
   refine ⟨⟨_,.cons ra ra2⟩,b1 ++ b2,?_,?_⟩
   ·intro b hm
    simp only [PyData.depthAll]
    rcases List.mem_append.mp hm with hm | hm
    ·obtain ⟨d',as',r',hd'⟩:=hb1 b hm
     exact ⟨d',as',r',Nat.le_trans hd' (Nat.le_max_left _ _)⟩
    ·obtain ⟨d',as',r',hd'⟩:=hb2 b hm
     exact ⟨d',as',r',Nat.le_trans hd' (Nat.le_max_right _ _)⟩
   ·simp only [PyData.depthAll,PyData.shownAll]
    exact .cons ((k1.more fun b hb=>List.mem_append_left _ hb).level_le (Nat.le_max_left _ _)) (k2.more_le (fun b hb=>List.mem_append_right _ hb) (Nat.le_max_right _ _))
end
noncomputable def rReprM (K:Frag):List V→Hp→VK→Prop:=fun xs H Q=>∃ (a:Addr) (vs:List V) (ds:List PyData),xs=[.ref a]∧SqT K H a vs∧Paired (Piece K H) vs ds∧PyData.showableAll ds=true∧(PyData.shown (.tuple ds)).length≤sizeLine∧PyData.depthAll ds≤60∧Q (.str (PyData.shown (.tuple ds))) H
theorem xaz {X:Cx} {k:Nat} (hr:Room k X.A):CallR X (.builtin "repr") (rReprM X.K):=by
 intro pins s σ H xs us Q I r h
 obtain ⟨a,vs,ds,rfl,q,pc,sh,sz,dp,qq⟩:=h
 obtain ⟨u,rfl,ru⟩:=vals1 r
 obtain rfl:u=Value.ref a:=ru
 obtain ⟨its,rv,⟨o,e,c,n,hd⟩,_⟩:=I.tuple q
 have hz':(tupleText (PyData.shownAll ds)).length≤sizeLine:=by simpa only [PyData.shown] using sz
 have hu:=hr.units
 obtain ⟨⟨as,ra⟩,bs,hb,hk⟩:=zau I pc rv sh (fun t ht=>Nat.le_trans (tupleText_mem_le ht) hz')
 have hna:a ∉ bs:=not_mem_of_deeper (.tuple e c hd (by simpa using ra)) (by simp only [PyData.depth];omega) hb
 have S:ShowsBy X.prog X.w s.heap a (.tuple ds) "tuple" "tuple.__repr__" := by
  refine ⟨PySem.F.slot_tuple_repr,PySem.F.slot_tuple_str,PySem.F.slot_tuple_format,fun s' hk0=>⟨o,hk0 _ _ e,c⟩,fun A E s' Q hg hu hk0 hQ=>?_⟩
  simp only [PyData.depth] at hu
  simp only [PyData.shown] at hQ
  exact call_tuple_reprK e c hd hna (by simpa using hk) hg (fun b _=>Clear.nil b) hu hk0 hQ hz'
 refine call_repr_slot (by omega) (S.typeIs s fun _ _ z=>z) S.slotRepr (S.call X.A.in1 X.xe s _ hr.gd (by show X.A.units + 1 + _ < cLine;simp only [PyData.depth];omega) (fun _ _ z=>z) fun h' u tk hk=>⟨_,_,rfl,⟨.str _,H,I.kept hk,⟨_,rfl⟩,qq⟩⟩)
end L2
namespace Mth
noncomputable def upto (n:Nat):List Int:=(List.range n).map fun (k:Nat)=>(k:Int)
end Mth
namespace Mth
noncomputable def app (xs:List Int) (i:Int):Int:=xs.getD i.toNat 0
noncomputable def itr (xs:List Int) (i:Int):Nat→Int
 | 0=>i
 | j + 1=>app xs (itr xs i j)
noncomputable def row (xs:List Int) (i:Int) (m:Nat):List Int:=(List.range (m + 1)).map (itr xs i)
end Mth
namespace Mth
end Mth
namespace Mth
end Mth
namespace Mth
end Mth
namespace Mth
section
variable {n:Nat} {xs ys:List Int} {s:Int}
end
end Mth
namespace Mth
section
variable {n:Nat} {xs:List Int} {i:Int}
end
end Mth
namespace Mth
noncomputable def odd (n:Nat):Bool:=n % 2 == 1
noncomputable def tb (l:Int→Nat) (p:Int→Int) (a b:Int):Bool:=if l a=l b∨l (p a)=l (p b) then false else (decide (l a < l b)).xor (decide (l (p a) < l (p b)))
section
variable {n:Nat} {L:List Int} {l:Int→Nat}
end
end Mth
namespace Mth
end Mth
namespace Mth
abbrev Sp:=Bool×Int
end Mth
namespace Mth
abbrev Flo:=List Int×List Int
end Mth
namespace Mth
section
variable {n:Nat} {a b c g x y:List Int}
end
section
variable {n:Nat} {p q r:Flo}
end
section
variable {n:Nat} {p q r:Flo}
noncomputable def big:List Int→Prop
 | []=>True
 | [_]=>True
 | j :: b :: ks=>(2≤j∨j≤-2)∧big (b :: ks)
end
section
variable {n:Nat} {p q:Flo}
end
end Mth
namespace Mth
section
variable {n:Nat} {p q:Flo} {g h:List Int} {s t:Int}
end
end Mth
namespace Mth
end Mth
namespace L4
open PySem PySem.Spec L2
inductive D where
 | non | bl (b:Bool) | int (i:Int) | str (x:Str) | ty (n:String) | tup (ds:List D) | ref (i:Nat)
instance:Inhabited D:=⟨.non⟩
inductive O where
 | lst (ds:List D) | fzn (ds:List D) | dct (kvs:List (Key×D)) | dcu (kvs:List (List Int×D)) | exc (c:Str) (fs:List (Str×D)) | any | rng (lo hi:Int)
abbrev Store:=List O
abbrev DSt:=List (Option D)
abbrev Dm (α:Type):=Store→Option (α×Store)
inductive Fl where
 | nx (δ:DSt) | bk (δ:DSt) | ct (δ:DSt) | rt (d:D)
mutual
inductive Rp (K:PySem.W.Frag) (ρ:List Addr) (H:Hp):V→D→Prop
 | non:Rp K ρ H .non .non
 | bl (b:Bool):Rp K ρ H (.bl b) (.bl b)
 | int (i:Int):Rp K ρ H (.int i) (.int i)
 | str (x:Str):Rp K ρ H (.str x) (.str x)
 | ty (n:String):Rp K ρ H (.ty n) (.ty n)
 | ref {a:Addr} {i:Nat}:ρ[i]?=some a→Rp K ρ H (.ref a) (.ref i)
 | tup {a:Addr} {vs:List V} {ds:List D}:SqT K H a vs→Rps K ρ H vs ds→Rp K ρ H (.ref a) (.tup ds)
inductive Rps (K:PySem.W.Frag) (ρ:List Addr) (H:Hp):List V→List D→Prop
 | nil:Rps K ρ H [] []
 | cons {v:V} {vs:List V} {d:D} {ds:List D}:Rp K ρ H v d→Rps K ρ H vs ds→Rps K ρ H (v :: vs) (d :: ds)
end
structure Mn (K:PySem.W.Frag) (ρ:List Addr) (H:Hp) (ρ':List Addr) (H':Hp):Prop where
 r:∀ (i:Nat) (a:Addr),ρ[i]?=some a→ρ'[i]?=some a
 t:∀ a vs,SqT K H a vs→SqT K H' a vs
 f:∀ a o u,H a=some (.frz o u)→H' a=some (.frz o u)
 x:∀ a ws,H a=some (.xd ws)→H' a=some (.xd ws)
section
variable {K:PySem.W.Frag} {ρ ρ' ρ2:List Addr} {H H' H2:Hp}
theorem Mn.refl:Mn K ρ H ρ H:=⟨fun _ _ h=>h,fun _ _ h=>h,fun _ _ _ h=>h,fun _ _ h=>h⟩
theorem Mn.trans (m:Mn K ρ H ρ' H') (n:Mn K ρ' H' ρ2 H2):Mn K ρ H ρ2 H2:=⟨fun i a h=>n.r i a (m.r i a h),fun a vs h=>n.t a vs (m.t a vs h),fun a o u h=>n.f a o u (m.f a o u h),fun a ws h=>n.x a ws (m.x a ws h)⟩
mutual
theorem Rp.mn (m:Mn K ρ H ρ' H'):∀ {v:V} {d:D},Rp K ρ H v d→Rp K ρ' H' v d
 | _,_,.non=>.non
 | _,_,.bl b=>.bl b
 | _,_,.int i=>.int i
 | _,_,.str x=>.str x
 | _,_,.ty n=>.ty n
 | _,_,.ref e=>.ref (m.r _ _ e)
 | _,_,.tup q r=>.tup (m.t _ _ q) (Rps.mn m r)
theorem Rps.mn (m:Mn K ρ H ρ' H'):∀ {vs:List V} {ds:List D},Rps K ρ H vs ds→Rps K ρ' H' vs ds
 | _,_,.nil=>.nil
 | _,_,.cons a b=>.cons (Rp.mn m a) (Rps.mn m b)
end
theorem Rps.length:∀ {vs:List V} {ds:List D},Rps K ρ H vs ds→vs.length=ds.length
 | _,_,.nil=>rfl
 | _,_,.cons _ r=>by rw [List.length_cons,List.length_cons,r.length]
theorem Rps.got:∀ {vs:List V} {ds:List D},Rps K ρ H vs ds→∀ {i:Nat} {d:D},ds[i]?=some d→∃ v,vs[i]?=some v∧Rp K ρ H v d
 | _,_,.nil,i,v,e=>by simp at e
 | _,_,.cons (v:=v) a b,0,d,e=>⟨v,by simp,by have:_=d:=Option.some.inj (by simpa using e);rw [← this];exact a⟩
 | _,_,.cons a b,i + 1,d,e=>by
  obtain ⟨v,e1,r⟩:=Rps.got b (i:=i) (by simpa using e)
  exact ⟨v,by simpa using e1,r⟩
theorem Rps.append:∀ {vs:List V} {ds:List D} {ws:List V} {es:List D},Rps K ρ H vs ds→Rps K ρ H ws es→Rps K ρ H (vs ++ ws) (ds ++ es)
 | _,_,_,_,.nil,s=>s
 | _,_,_,_,.cons a b,s=>.cons a (Rps.append b s)
theorem Rps.one {v:V} {d:D} (r:Rp K ρ H v d):Rps K ρ H [v] [d]:=.cons r .nil
theorem Rps.set {v:V} {d:D} (r:Rp K ρ H v d):∀ {vs:List V} {ds:List D} (i:Nat),Rps K ρ H vs ds→Rps K ρ H (vs.set i v) (ds.set i d)
 | _,_,_,.nil=>.nil
 | _,_,0,.cons _ t=>.cons r t
 | _,_,i + 1,.cons q t=>.cons q (Rps.set r i t)
theorem Rps.ints:∀ (ns:List Int),Rps K ρ H (ns.map V.int) (ns.map D.int)
 | []=>.nil
 | n :: r=>.cons (.int n) (Rps.ints r)
end
noncomputable def Rs (K:PySem.W.Frag) (ρ:List Addr) (H:Hp) (σ:St) (δ:DSt):Prop:=σ.length=δ.length∧∀ (i:Nat) (d:D),δ[i]?=some (some d)→∃ v,σ[i]?=some (some v)∧Rp K ρ H v d
noncomputable def Rk (K:PySem.W.Frag) (ρ:List Addr) (H:Hp):List (Key×V)→List (Key×D)→Prop:=Paired fun p q=>p.1=q.1∧Rp K ρ H p.2 q.2
noncomputable def Ru (K:PySem.W.Frag) (ρ:List Addr) (H:Hp):List (List Int×D)→List (List Int×Addr×Value)→Prop:=Paired fun q x=>q.1=x.1∧SqT K H x.2.1 (x.1.map V.int)∧∃ v,RelV v x.2.2∧Rp K ρ H v q.2
noncomputable def Xd (K:PySem.W.Frag) (ρ:List Addr) (H:Hp):Option Addr→List (Str×D)→Prop
 | none,fs=>fs=[]
 | some d,fs=>∃ ws,H d=some (.xd ws)∧∀ f e,fs.lookup f=some e→∃ v,ws.lookup f=some v∧Rp K ρ H v e
noncomputable def RpO (K:PySem.W.Frag) (ρ:List Addr) (H:Hp) (a:Addr):O→Prop
 | .lst ds=>∃ vs,H a=some (.lst vs)∧Rps K ρ H vs ds
 | .fzn ds=>∃ vs,SqF K H a vs∧Rps K ρ H vs ds
 | .dct kvs=>∃ ws,H a=some (.dK ws)∧Rk K ρ H ws kvs
 | .dcu kvs=>∃ xs,H a=some (DU a xs)∧Ru K ρ H kvs xs
 | .exc c fs=>∃ C dx tr,PySem.W.nsIn K mainGlobals c=some (some (.ref C))∧H a=some (XO a C dx tr)∧Xd K ρ H dx fs
 | .any=>True
 | .rng lo hi=>H a=some (.rng lo hi)
noncomputable def O.mut:O→Bool
 | .fzn _=>false
 | .any=>false
 | _=>true
structure Rl (K:PySem.W.Frag) (ρ:List Addr) (H:Hp) (st:Store):Prop where
 len:ρ.length=st.length
 nd:∀ (i j:Nat) (a:Addr) (o o':O),ρ[i]?=some a→ρ[j]?=some a→st[i]?=some o→st[j]?=some o'→o.mut=true→o'.mut=true→i=j
 obj:∀ (i:Nat) (a:Addr) (o:O),ρ[i]?=some a→st[i]?=some o→RpO K ρ H a o
section
variable {K:PySem.W.Frag} {ρ ρ' ρ2:List Addr} {H H' H2:Hp} {st st':Store} {a p:Addr} {i:Nat} {o o':O} {ho:HO} {σ:St} {δ:DSt}
theorem Rs.mn (h:Rs K ρ H σ δ) (m:Mn K ρ H ρ' H'):Rs K ρ' H' σ δ:=⟨h.1,fun i d e=>let ⟨v,e1,r⟩:=h.2 i d e;⟨v,e1,r.mn m⟩⟩
theorem Rk.mn (m:Mn K ρ H ρ' H') {ws:List (Key×V)} {kvs:List (Key×D)} (h:Rk K ρ H ws kvs):Rk K ρ' H' ws kvs:=by
 induction h with
 | nil=>exact .nil
 | cons a _ ih=>exact .cons ⟨a.1,a.2.mn m⟩ ih
theorem Ru.mn (m:Mn K ρ H ρ' H') {kvs:List (List Int×D)} {xs:List (List Int×Addr×Value)} (h:Ru K ρ H kvs xs):Ru K ρ' H' kvs xs:=by
 induction h with
 | nil=>exact .nil
 | cons a _ ih=>obtain ⟨a1,a2,v,a3,a4⟩:=a;exact .cons ⟨a1,m.t _ _ a2,v,a3,a4.mn m⟩ ih
theorem Xd.mn (m:Mn K ρ H ρ' H') {dx:Option Addr} {fs:List (Str×D)} (h:Xd K ρ H dx fs):Xd K ρ' H' dx fs:=by
 cases dx with
 | none=>exact h
 | some d=>obtain ⟨ws,e,q⟩:=h;exact ⟨ws,m.x _ _ e,fun f e' z=>let ⟨v,z1,z2⟩:=q f e' z;⟨v,z1,z2.mn m⟩⟩
theorem RpO.keep (m:Mn K ρ H ρ' H') (h:∀ u,H a=some u→H' a=some u) (r:RpO K ρ H a o):RpO K ρ' H' a o:=by
 cases o with
 | lst ds=>obtain ⟨vs,e,q⟩:=r;exact ⟨vs,h _ e,q.mn m⟩
 | fzn ds =>
  obtain ⟨vs,e,q⟩:=r
  refine ⟨vs,?_,q.mn m⟩
  rcases e with ⟨u,e⟩ | e
  ·exact .inl ⟨u,h _ e⟩
  ·exact .inr e
 | dct kvs=>obtain ⟨ws,e,q⟩:=r;exact ⟨ws,h _ e,q.mn m⟩
 | dcu kvs=>obtain ⟨ws,e,q⟩:=r;exact ⟨ws,h _ e,q.mn m⟩
 | exc c fs=>obtain ⟨C,dx,tr,n,e,q⟩:=r;exact ⟨C,dx,tr,n,h _ e,q.mn m⟩
 | any=>trivial
 | rng lo hi=>exact h _ r
theorem Mn.same (s:Same H H'):Mn K ρ H ρ H':=⟨fun _ _ h=>h,fun _ _ h=>(Kp.of_same (ch:=[]) s).sqT h,fun _ _ _ h=>s _ _ h,fun _ _ h=>s _ _ h⟩
theorem Rl.same (l:Rl K ρ H st) (s:Same H H'):Rl K ρ H' st:=⟨l.len,l.nd,fun i a o h1 h2=>(l.obj i a o h1 h2).keep (Mn.same s) fun u e=>s _ _ e⟩
theorem Rl.at (l:Rl K ρ H st) (h1:ρ[i]?=some a) (h2:st[i]?=some o) (hm:o.mut=true):∃ u,H a=some u∧∀ x y,u≠.frz x y:=by
 have r:=l.obj i a o h1 h2
 cases o with
 | lst ds=>obtain ⟨vs,e,_⟩:=r;exact ⟨_,e,fun x y z=>nomatch z⟩
 | fzn ds=>cases hm
 | dct kvs=>obtain ⟨ws,e,_⟩:=r;exact ⟨_,e,fun x y z=>nomatch z⟩
 | dcu kvs=>obtain ⟨ws,e,_⟩:=r;exact ⟨_,e,fun x y z=>by cases z⟩
 | exc c fs=>obtain ⟨C,dx,tr,_,e,_⟩:=r;exact ⟨_,e,fun x y z=>by cases z⟩
 | any=>cases hm
 | rng lo hi=>exact ⟨_,r,fun x y z=>nomatch z⟩
theorem Mn.new (hp:H p=none):Mn K ρ H (ρ ++ [p]) (upd H p ho):=⟨fun i a h=>by
  obtain ⟨hi,_⟩:=List.getElem?_eq_some_iff.mp h
  rw [List.getElem?_append_left hi];exact h,fun _ _ h=>(Kp.of_same (ch:=[]) (Same.up hp)).sqT h,fun _ _ _ h=>Same.up hp _ _ h,fun _ _ h=>Same.up hp _ _ h⟩
theorem Rl.new (l:Rl K ρ H st) (hp:H p=none) (mk:RpO K (ρ ++ [p]) (upd H p ho) p o):Rl K (ρ ++ [p]) (upd H p ho) (st ++ [o]):=by
 have m:Mn K ρ H (ρ ++ [p]) (upd H p ho):=Mn.new hp
 have split:∀ (i:Nat) (a:Addr) (o':O),(ρ ++ [p])[i]?=some a→(st ++ [o])[i]?=some o'→(ρ[i]?=some a∧st[i]?=some o')∨(i=ρ.length∧a=p∧o'=o):=fun i a o' h1 h2=>by
  by_cases hi:i < ρ.length
  ·rw [List.getElem?_append_left hi] at h1
   rw [List.getElem?_append_left (by rw [← l.len];exact hi)] at h2
   exact .inl ⟨h1,h2⟩
  ·obtain ⟨hb,_⟩:=List.getElem?_eq_some_iff.mp h1
   rw [List.length_append,List.length_singleton] at hb
   have e:i=ρ.length:=by omega
   subst e
   rw [List.getElem?_append_right (Nat.le_refl _),Nat.sub_self] at h1
   rw [l.len,List.getElem?_append_right (Nat.le_refl _),Nat.sub_self] at h2
   exact .inr ⟨rfl,(Option.some.inj h1).symm,(Option.some.inj h2).symm⟩
 refine ⟨by rw [List.length_append,List.length_append,l.len];rfl,fun i j a u u' h1 h2 h3 h4 m1 m2=>?_,fun i a u h1 h2=>?_⟩
 ·rcases split i a u h1 h3 with ⟨g1,g2⟩ | ⟨rfl,rfl,rfl⟩ <;> rcases split j _ u' h2 h4 with ⟨k1,k2⟩ | ⟨k1,k2,k3⟩
  ·exact l.nd i j a u u' g1 k1 g2 k2 m1 m2
  ·subst k2
   obtain ⟨w,e,_⟩:=l.at g1 g2 m1
   rw [e] at hp;cases hp
  ·obtain ⟨w,e,_⟩:=l.at k1 k2 m2
   rw [e] at hp;cases hp
  ·exact k1.symm
 ·rcases split i a u h1 h2 with ⟨g1,g2⟩ | ⟨rfl,rfl,rfl⟩
  ·exact (l.obj i a u g1 g2).keep m fun w e=>Same.up hp _ _ e
  ·exact mk
theorem Rl.put (l:Rl K ρ H st) (hi:ρ[i]?=some a) (hs:st[i]?=some o) (hm:o.mut=true) (hm':o'.mut=true) (m:Mn K ρ H ρ (upd H a ho)) (r:RpO K ρ (upd H a ho) a o'):Rl K ρ (upd H a ho) (st.set i o'):=by
 obtain ⟨w,ew,nf⟩:=l.at hi hs hm
 have ils:i < st.length:=(List.getElem?_eq_some_iff.mp hs).1
 have old:∀ (j:Nat) (u:O),(st.set i o')[j]?=some u→(j=i∧u=o')∨(j≠i∧st[j]?=some u):=fun j u h=>by
  by_cases hj:i=j
  ·subst hj
   rw [List.getElem?_set_self ils] at h
   exact .inl ⟨rfl,(Option.some.inj h).symm⟩
  ·rw [List.getElem?_set_ne hj] at h
   exact .inr ⟨fun z=>hj z.symm,h⟩
 refine ⟨by rw [List.length_set];exact l.len,fun j k b u u' h1 h2 h3 h4 m1 m2=>?_,fun j b u h1 h2=>?_⟩
 ·rcases old j u h3 with ⟨rfl,rfl⟩ | ⟨nj,g3⟩ <;> rcases old k u' h4 with ⟨rfl,rfl⟩ | ⟨nk,g4⟩
  ·rfl
  ·exact l.nd _ _ b o u' h1 h2 hs g4 hm m2
  ·exact l.nd _ _ b u o h1 h2 g3 hs m1 hm
  ·exact l.nd _ _ b u u' h1 h2 g3 g4 m1 m2
 ·rcases old j u h2 with ⟨rfl,rfl⟩ | ⟨nj,g2⟩
  ·rw [hi] at h1;cases h1;exact r
  ·by_cases hb:b=a
   ·subst hb
    cases u with
    | fzn ds =>
     obtain ⟨vs,e,q⟩:=l.obj j b _ h1 g2
     refine ⟨vs,?_,q.mn m⟩
     rcases e with ⟨x,e⟩ | e
     ·rw [ew] at e;cases e;exact absurd rfl (nf _ _)
     ·exact .inr e
    | lst ds=>exact absurd (l.nd j i b _ o h1 hi g2 hs rfl hm) nj
    | dcu ds=>exact absurd (l.nd j i b _ o h1 hi g2 hs rfl hm) nj
    | exc c fs=>exact absurd (l.nd j i b _ o h1 hi g2 hs rfl hm) nj
    | dct ds=>exact absurd (l.nd j i b _ o h1 hi g2 hs rfl hm) nj
    | any=>trivial
    | rng lo up=>exact absurd (l.nd j i b _ o h1 hi g2 hs rfl hm) nj
   ·exact (l.obj j b u h1 g2).keep m fun w e=>by rw [zac hb];exact e
theorem Mn.put {xs:List V} (e:H a=some (.lst xs)):Mn K ρ H ρ (upd H a ho):=⟨fun _ _ h=>h,fun b vs h=>(Kp.put (ch:=[a]) (o:=ho) Kp.refl (by simp) e).sqT h,fun b o u h=>by rw [zac (fun z=>by rw [z,e] at h;cases h)];exact h,fun b ws h=>by rw [zac (fun z=>by rw [z,e] at h;cases h)];exact h⟩
theorem Mn.putD {ws:List (Key×V)} (e:H a=some (.dK ws)):Mn K ρ H ρ (upd H a ho):=⟨fun _ _ h=>h,fun b vs q=>by
 have ne:∀ u,H b=some u→(∀ w,u≠.dK w)→b≠a:=fun u hu n z=>by rw [z,e] at hu;cases hu;exact n _ rfl
 rcases q with (q | ⟨o,q⟩) | q
 ·exact .inl (.inl (by rw [zac (ne _ q fun w z=>nomatch z)];exact q))
 ·exact .inl (.inr ⟨o,by rw [zac (ne _ q fun w z=>nomatch z)];exact q⟩)
 ·exact .inr q,fun b o u h=>by rw [zac (fun z=>by rw [z,e] at h;cases h)];exact h,fun b ws h=>by rw [zac (fun z=>by rw [z,e] at h;cases h)];exact h⟩
theorem Rl.newL {vs:List V} {ds:List D} (l:Rl K ρ H st) (hp:H p=none) (r:Rps K ρ H vs ds):Rl K (ρ ++ [p]) (upd H p (.lst vs)) (st ++ [.lst ds]):=l.new hp ⟨vs,Xad,r.mn (Mn.new hp)⟩
theorem Rl.newD {vs:List (Key×V)} {ds:List (Key×D)} (l:Rl K ρ H st) (hp:H p=none) (r:Rk K ρ H vs ds):Rl K (ρ ++ [p]) (upd H p (.dK vs)) (st ++ [.dct ds]):=l.new hp ⟨vs,Xad,r.mn (Mn.new hp)⟩
theorem newR (l:Rl K ρ H st) (v:D:=.ref st.length):(ρ ++ [p])[st.length]?=some p:=by rw [← l.len,List.getElem?_append_right (Nat.le_refl _),Nat.sub_self];rfl
theorem Rl.putL {vs:List V} {ds xs:List D} (l:Rl K ρ H st) (hi:ρ[i]?=some a) (hs:st[i]?=some (.lst xs)) (r:Rps K ρ H vs ds):Rl K ρ (upd H a (.lst vs)) (st.set i (.lst ds))∧Mn K ρ H ρ (upd H a (.lst vs)):=by
 obtain ⟨ws,e,_⟩:=l.obj i a _ hi hs
 have m:Mn K ρ H ρ (upd H a (.lst vs)):=Mn.put e
 exact ⟨l.put hi hs rfl rfl m ⟨vs,Xad,r.mn m⟩,m⟩
theorem Rl.putDct {vs:List (Key×V)} {ds xs:List (Key×D)} (l:Rl K ρ H st) (hi:ρ[i]?=some a) (hs:st[i]?=some (.dct xs)) (r:Rk K ρ H vs ds):Rl K ρ (upd H a (.dK vs)) (st.set i (.dct ds))∧Mn K ρ H ρ (upd H a (.dK vs)):=by
 obtain ⟨ws,e,_⟩:=l.obj i a _ hi hs
 have m:Mn K ρ H ρ (upd H a (.dK vs)):=Mn.putD e
 exact ⟨l.put hi hs rfl rfl m ⟨vs,Xad,r.mn m⟩,m⟩
noncomputable def items (st:Store) (i:Nat):Option (List D):=match st[i]? with
 | some (.lst ds)=>some ds
 | some (.fzn ds)=>some ds
 | _=>none
theorem Rl.items {ds:List D} (l:Rl K ρ H st) (hi:ρ[i]?=some a) (h:items st i=some ds):∃ vs,SqL K H a vs∧Rps K ρ H vs ds:=by
 unfold L4.items at h
 split at h
 ·next ds' hs=>cases h;obtain ⟨vs,e,r⟩:=l.obj i a _ hi hs;exact ⟨vs,.inl (.inl e),r⟩
 ·next ds' hs=>cases h;obtain ⟨vs,e,r⟩:=l.obj i a _ hi hs;exact ⟨vs,e.sq,r⟩
 ·cases h
end
noncomputable def So (K:PySem.W.Frag) {α β:Type} (R:List Addr→Hp→α→β→Prop) (t:St→Hp→(α→Hp→Prop)→Prop) (f:DSt→Dm β):Prop :=
 ∀ (ρ:List Addr) (σ:St) (H:Hp) (δ:DSt) (st:Store) (b:β) (st':Store) (Q:α→Hp→Prop),Rl K ρ H st→Rs K ρ H σ δ→f δ st=some (b,st') →
  (∀ a H' ρ',Mn K ρ H ρ' H'→Rl K ρ' H' st'→R ρ' H' a b→Q a H')→t σ H Q
abbrev SoE (K:PySem.W.Frag) (t:TE) (f:DSt→Dm D):Prop:=So K (Rp K) t f
abbrev SoT (K:PySem.W.Frag) (t:TT) (f:DSt→Dm Bool):Prop:=So K (fun _ _=>Eq) t f
abbrev SoA (K:PySem.W.Frag) (t:TA) (f:DSt→Dm (List D)):Prop:=So K (Rps K) t f
noncomputable def So2 (K:PySem.W.Frag) (r:R2) (g:D→D→Dm D):Prop :=
 ∀ (ρ:List Addr) (H:Hp) (st:Store) (x y:V) (a c:D) (b:D) (st':Store) (Q:VK),Rl K ρ H st→Rp K ρ H x a→Rp K ρ H y c→g a c st=some (b,st')→(∀ v H' ρ',Mn K ρ H ρ' H'→Rl K ρ' H' st'→Rp K ρ' H' v b→Q v H')→r x y H Q
noncomputable def SoC (K:PySem.W.Frag) (r:List V→Hp→VK→Prop) (g:List D→Dm D):Prop :=
 ∀ (ρ:List Addr) (H:Hp) (st:Store) (xs:List V) (as:List D) (b:D) (st':Store) (Q:VK),Rl K ρ H st→Rps K ρ H xs as→g as st=some (b,st')→(∀ v H' ρ',Mn K ρ H ρ' H'→Rl K ρ' H' st'→Rp K ρ' H' v b→Q v H')→r xs H Q
noncomputable def SoM (K:PySem.W.Frag) (T:String) (r:V→List V→Hp→VK→Prop) (g:D→List D→Dm D):Prop :=
 ∀ (ρ:List Addr) (H:Hp) (st:Store) (x:V) (xs:List V) (a:D) (as:List D) (b:D) (st':Store) (Q:VK),Rl K ρ H st→Rp K ρ H x a→Rps K ρ H xs as→g a as st=some (b,st')→(∀ v H' ρ',Mn K ρ H ρ' H'→Rl K ρ' H' st'→Rp K ρ' H' v b→Q v H')→r x xs H Q
noncomputable def bnd {α β:Type} (m:Option (α×Store)) (k:α→Dm β):Option (β×Store):=match m with
 | some (a,st)=>k a st
 | none=>none
theorem Xaa {α β:Type} {m:Option (α×Store)} {k:α→Dm β} {r:β×Store} (h:bnd m k=some r):∃ a st,m=some (a,st)∧k a st=some r:=by
 cases m with
 | none=>cases h
 | some p=>exact ⟨p.1,p.2,rfl,h⟩
section
variable {K:PySem.W.Frag}
noncomputable def fVar (i:Nat):DSt→Dm D:=fun δ st=>match δ[i]? with
 | some (some d)=>some (d,st)
 | _=>none
theorem xaa (i:Nat):SoE K (tVar i) (fVar i):=by
 intro ρ σ H δ st b st' Q l rs e q
 unfold fVar at e
 split at e
 ·next d hd=>cases e;obtain ⟨v,ev,r⟩:=rs.2 i _ hd;exact ⟨v,ev,q v H ρ .refl l r⟩
 ·cases e
noncomputable def fC (d:D):DSt→Dm D:=fun _ st=>some (d,st)
theorem so_c {v:V} {d:D} (h:∀ ρ H,Rp K ρ H v d):SoE K (tC v) (fC d):=by
 intro ρ σ H δ st b st' Q l rs e q
 cases e
 exact q v H ρ .refl l (h ρ H)
theorem Zac (i:Int):SoE K (tC (.int i)) (fC (.int i)):=so_c fun _ _=>.int i
theorem so_bl (b:Bool):SoE K (tC (.bl b)) (fC (.bl b)):=so_c fun _ _=>.bl b
theorem xaE (x:Str):SoE K (tC (.str x)) (fC (.str x)):=so_c fun _ _=>.str x
theorem Xa5:SoE K (tC .non) (fC .non):=so_c fun _ _=>.non
noncomputable def fOp (g:D→D→Dm D) (fa fb:DSt→Dm D):DSt→Dm D:=fun δ st=>bnd (fa δ st) fun a st1=>bnd (fb δ st1) fun b st2=>g a b st2
theorem zad {r:R2} {g:D→D→Dm D} {ta tb:TE} {fa fb:DSt→Dm D} (hr:So2 K r g) (ha:SoE K ta fa) (hb:SoE K tb fb):SoE K (tOp r ta tb) (fOp g fa fb):=by
 intro ρ σ H δ st b st' Q l rs e q
 obtain ⟨a,st1,e1,e⟩:=Xaa e
 obtain ⟨c,st2,e2,e⟩:=Xaa e
 refine ha ρ σ H δ st a st1 _ l rs e1 fun x H1 ρ1 m1 l1 r1=>hb ρ1 σ H1 δ st1 c st2 _ l1 (rs.mn m1) e2 fun y H2 ρ2 m2 l2 r2=>?_
 exact hr ρ2 H2 st2 x y a c b st' Q l2 (r1.mn m2) r2 e fun v H3 ρ3 m3 l3 r3=>q v H3 ρ3 ((m1.trans m2).trans m3) l3 r3
noncomputable def fUn (g:D→Dm D) (fa:DSt→Dm D):DSt→Dm D:=fun δ st=>bnd (fa δ st) fun a st1=>g a st1
noncomputable def fNil:DSt→Dm (List D):=fun _ st=>some ([],st)
noncomputable def fCons (fa:DSt→Dm D) (fr:DSt→Dm (List D)):DSt→Dm (List D):=fun δ st=>bnd (fa δ st) fun a st1=>bnd (fr δ st1) fun r st2=>some (a :: r,st2)
theorem Yab:SoA K tNil fNil:=by
 intro ρ σ H δ st b st' Q l rs e q
 cases e
 exact q [] H ρ .refl l .nil
theorem Zaa {ta:TE} {tr:TA} {fa:DSt→Dm D} {fr:DSt→Dm (List D)} (ha:SoE K ta fa) (hr:SoA K tr fr):SoA K (tCons ta tr) (fCons fa fr):=by
 intro ρ σ H δ st b st' Q l rs e q
 obtain ⟨a,st1,e1,e⟩:=Xaa e
 obtain ⟨c,st2,e2,e⟩:=Xaa e
 cases e
 exact ha ρ σ H δ st a st1 _ l rs e1 fun x H1 ρ1 m1 l1 r1=>hr ρ1 σ H1 δ st1 c _ _ l1 (rs.mn m1) e2 fun y H2 ρ2 m2 l2 r2=>q _ H2 ρ2 (m1.trans m2) l2 (.cons (r1.mn m2) r2)
noncomputable def lim (n:Nat):Bool:=Nat.ble n 100000
theorem XaE {n:Nat} (h:lim n=true):n≤sizeLine:=Nat.le_trans (Nat.le_of_ble_eq_true h) (by decide)
theorem za6 {n:Nat} (h:lim n=true):n < sizeLine:=Nat.lt_of_le_of_lt (Nat.le_of_ble_eq_true h) (by decide)
noncomputable def fTup (fa:DSt→Dm (List D)):DSt→Dm D:=fun δ st=>bnd (fa δ st) fun as st1=>if lim as.length=true then some (.tup as,st1) else none
theorem zam {ta:TA} {fa:DSt→Dm (List D)} (ha:SoA K ta fa):SoE K (tTup ta) (fTup fa):=by
 intro ρ σ H δ st b st' Q l rs e q
 obtain ⟨as,st1,e1,e⟩:=Xaa e
 split at e
 ·next hl =>
  cases e
  refine ha ρ σ H δ st as _ _ l rs e1 fun xs H1 ρ1 m1 l1 r1=>⟨by rw [r1.length];exact XaE hl,fun p hp=>?_⟩
  have m2:Mn K ρ1 H1 ρ1 (upd H1 p (.tup xs)):=Mn.same (Same.up hp)
  exact q _ _ ρ1 (m1.trans m2) (l1.same (Same.up hp)) (.tup (SqT.of Xad) (r1.mn m2))
 ·cases e
noncomputable def fLst (fa:DSt→Dm (List D)):DSt→Dm D:=fun δ st=>bnd (fa δ st) fun as st1=>if lim as.length=true then some (.ref st1.length,st1 ++ [.lst as]) else none
theorem yap {ta:TA} {fa:DSt→Dm (List D)} (ha:SoA K ta fa):SoE K (tLst ta) (fLst fa):=by
 intro ρ σ H δ st b st' Q l rs e q
 obtain ⟨as,st1,e1,e⟩:=Xaa e
 split at e
 ·next hl =>
  cases e
  refine ha ρ σ H δ st as _ _ l rs e1 fun xs H1 ρ1 m1 l1 r1=>⟨by rw [r1.length];exact XaE hl,fun p hp=>?_⟩
  exact q _ _ _ (m1.trans (Mn.new hp)) (l1.newL hp r1) (.ref (newR l1))
 ·cases e
noncomputable def fTest (fa:DSt→Dm D):DSt→Dm Bool:=fun δ st=>bnd (fa δ st) fun a st1=>match a with
 | .bl b=>some (b,st1)
 | _=>none
theorem Zap {ta:TE} {fa:DSt→Dm D} (ha:SoE K ta fa):SoT K (tTest ta) (fTest fa):=by
 intro ρ σ H δ st b st' Q l rs e q
 obtain ⟨a,st1,e1,e⟩:=Xaa e
 cases a <;> simp at e
 obtain ⟨rfl,rfl⟩:=e
 refine ha ρ σ H δ st _ _ _ l rs e1 fun x H1 ρ1 m1 l1 r1=>?_
 cases r1
 exact ⟨_,rfl,q _ H1 ρ1 m1 l1 rfl⟩
theorem YaS {ta:TE} {fa:DSt→Dm D} (ha:SoE K ta fa):SoT K (tB ta) (fTest fa):=Zap ha
noncomputable def fNot (fa:DSt→Dm Bool):DSt→Dm Bool:=fun δ st=>bnd (fa δ st) fun a st1=>some (!a,st1)
theorem so_not {ta:TT} {fa:DSt→Dm Bool} (ha:SoT K ta fa):SoT K (tNot ta) (fNot fa):=by
 intro ρ σ H δ st b st' Q l rs e q
 obtain ⟨a,st1,e1,e⟩:=Xaa e
 cases e
 exact ha ρ σ H δ st _ _ _ l rs e1 fun x H1 ρ1 m1 l1 r1=>q _ H1 ρ1 m1 l1 (by rw [r1])
noncomputable def fAnd (fa fb:DSt→Dm Bool):DSt→Dm Bool:=fun δ st=>bnd (fa δ st) fun a st1=>if a=true then fb δ st1 else some (false,st1)
noncomputable def fOr (fa fb:DSt→Dm Bool):DSt→Dm Bool:=fun δ st=>bnd (fa δ st) fun a st1=>if a=true then some (true,st1) else fb δ st1
theorem so_or {ta tb:TT} {fa fb:DSt→Dm Bool} (ha:SoT K ta fa) (hb:SoT K tb fb):SoT K (tOr ta tb) (fOr fa fb):=by
 intro ρ σ H δ st b st' Q l rs e q
 obtain ⟨a,st1,e1,e⟩:=Xaa e
 refine ha ρ σ H δ st _ _ _ l rs e1 fun x H1 ρ1 m1 l1 r1=>?_
 subst r1
 cases x with
 | false =>
  refine iteF ?_
  rw [if_neg Bool.false_ne_true] at e
  exact hb ρ1 σ H1 δ st1 b st' _ l1 (rs.mn m1) e fun y H2 ρ2 m2 l2 r2=>q y H2 ρ2 (m1.trans m2) l2 r2
 | true =>
  refine iteT ?_
  rw [if_pos rfl] at e
  cases e
  exact q _ H1 ρ1 m1 l1 rfl
noncomputable def fAndV (fa fb:DSt→Dm D):DSt→Dm D:=fun δ st=>bnd (fTest fa δ st) fun a st1=>if a=true then fb δ st1 else some (.bl false,st1)
noncomputable def fOrV (fa fb:DSt→Dm D):DSt→Dm D:=fun δ st=>bnd (fTest fa δ st) fun a st1=>if a=true then some (.bl true,st1) else fb δ st1
noncomputable def fNotV (fa:DSt→Dm D):DSt→Dm D:=fun δ st=>bnd (fTest fa δ st) fun a st1=>some (.bl (!a),st1)
theorem yaM {fa:DSt→Dm D} {δ:DSt} {st st1:Store} {b:Bool} (h:fTest fa δ st=some (b,st1)):fa δ st=some (.bl b,st1):=by
 obtain ⟨a,st2,e1,e⟩:=Xaa h
 cases a <;> simp at e
 obtain ⟨rfl,rfl⟩:=e
 exact e1
theorem Xba {ta tb:TE} {fa fb:DSt→Dm D} (ha:SoE K ta fa) (hb:SoE K tb fb):SoE K (tAndV ta tb) (fAndV fa fb):=by
 intro ρ σ H δ st b st' Q l rs e q
 obtain ⟨a,st1,e1,e⟩:=Xaa e
 refine ha ρ σ H δ st _ _ _ l rs (yaM e1) fun x H1 ρ1 m1 l1 r1=>?_
 cases r1
 refine ⟨a,rfl,?_⟩
 cases a with
 | true =>
  refine iteT ?_
  rw [if_pos rfl] at e
  exact hb ρ1 σ H1 δ st1 b st' _ l1 (rs.mn m1) e fun y H2 ρ2 m2 l2 r2=>q y H2 ρ2 (m1.trans m2) l2 r2
 | false =>
  refine iteF ?_
  rw [if_neg Bool.false_ne_true] at e
  cases e
  exact q _ H1 ρ1 m1 l1 (.bl _)
noncomputable def fIf {β:Type} (c:DSt→Dm Bool) (fa fb:DSt→Dm β):DSt→Dm β:=fun δ st=>bnd (c δ st) fun a st1=>if a=true then fa δ st1 else fb δ st1
noncomputable def fNoPart:DSt→Dm (Option Int):=fun _ st=>some (none,st)
noncomputable def fPart (fa:DSt→Dm D):DSt→Dm (Option Int):=fun δ st=>bnd (fa δ st) fun a st1=>match a with
 | .int i=>some (some i,st1)
 | _=>none
noncomputable def fSl (g:D→Option Int→Option Int→Dm D) (fa:DSt→Dm D) (fl fh:DSt→Dm (Option Int)):DSt→Dm D:=fun δ st=>bnd (fa δ st) fun a st1=>bnd (fl δ st1) fun lo st2=>bnd (fh δ st2) fun hi st3=>g a lo hi st3
noncomputable def fCB (g:List D→Dm D) (fa:DSt→Dm (List D)):DSt→Dm D:=fun δ st=>bnd (fa δ st) fun as st1=>g as st1
theorem ZaM {r:List V→Hp→VK→Prop} {g:List D→Dm D} {ta:TA} {fa:DSt→Dm (List D)} (hr:SoC K r g) (ha:SoA K ta fa):SoE K (tCB r ta) (fCB g fa):=by
 intro ρ σ H δ st b st' Q l rs e q
 obtain ⟨as,st1,e1,e⟩:=Xaa e
 exact ha ρ σ H δ st as st1 _ l rs e1 fun x H1 ρ1 m1 l1 r1=>hr ρ1 H1 st1 x as b st' Q l1 r1 e fun v H3 ρ3 m3 l3 r3=>q v H3 ρ3 (m1.trans m3) l3 r3
noncomputable def spF (K:PySem.W.Frag) (n:Nat) (F:List D→Dm D):Sp:=fun vs H Q _=>vs.length=n∧∃ (ρ:List Addr) (st:Store) (ds:List D) (b:D) (st':Store),Rl K ρ H st∧Rps K ρ H vs ds∧F ds st=some (b,st') ∧
 ∀ v H' ρ',Mn K ρ H ρ' H'→Rl K ρ' H' st'→Rp K ρ' H' v b→Q v H'
theorem Xah {n:Nat} {F:List D→Dm D} {ta:TA} {fa:DSt→Dm (List D)} {E:XK} (ha:SoA K ta fa) (hn:∀ δ st as st',fa δ st=some (as,st')→as.length=n):SoE K (tCall (spF K n F) [] E ta) (fCB F fa):=by
 intro ρ σ H δ st b st' Q l rs e q
 obtain ⟨as,st1,e1,e⟩:=Xaa e
 refine ha ρ σ H δ st as st1 _ l rs e1 fun vs H1 ρ1 m1 l1 r1=>⟨?_,ρ1,st1,as,b,st',l1,?_,e,fun v H3 ρ3 m3 l3 r3=>q v H3 ρ3 (m1.trans m3) l3 r3⟩
 ·rw [List.append_nil,r1.length];exact hn _ _ _ _ e1
 ·rw [List.append_nil];exact r1
theorem Yaf {δ:DSt} {st st':Store} {as:List D} (h:fNil δ st=some (as,st')):as.length=0:=by cases h;rfl
theorem xab {fa:DSt→Dm D} {fr:DSt→Dm (List D)} {n:Nat} (hr:∀ δ st as st',fr δ st=some (as,st')→as.length=n):∀ δ st as st',fCons fa fr δ st=some (as,st')→as.length=n + 1:=fun δ st as st' h=>by
 obtain ⟨a,st1,e1,e⟩:=Xaa h
 obtain ⟨c,st2,e2,e⟩:=Xaa e
 cases e
 rw [List.length_cons,hr _ _ _ _ e2]
end
end L4
namespace L4
open PySem PySem.Spec L2
section
variable {K:PySem.W.Frag}
noncomputable def gI0 (h:Int→Int→D):D→D→Dm D
 | .int i,.int j,st=>some (h i j,st)
 | _,_,_=>none
theorem xaS {gv:Int→Int→V} {h:Int→Int→D} (hh:∀ i j ρ H,Rp K ρ H (gv i j) (h i j)):So2 K (rI0 gv) (gI0 h):=by
 intro ρ H st x y a c b st' Q l rx ry e q
 unfold gI0 at e
 split at e
 ·cases e;cases rx;cases ry;exact ⟨_,_,rfl,rfl,q _ H ρ .refl l (hh _ _ ρ H)⟩
 ·cases e
noncomputable def gIC (c:Int→Int→Bool) (h:Int→Int→D):D→D→Dm D
 | .int i,.int j,st=>if c i j=true then some (h i j,st) else none
 | _,_,_=>none
theorem XaZ {C:Int→Int→Prop} {c:Int→Int→Bool} {gv:Int→Int→V} {h:Int→Int→D} (hc:∀ i j,c i j=true→C i j) (hh:∀ i j ρ H,Rp K ρ H (gv i j) (h i j)):So2 K (rI C gv) (gIC c h):=by
 intro ρ H st x y a d b st' Q l rx ry e q
 unfold gIC at e
 split at e
 ·split at e
  ·next hcc=>cases e;cases rx;cases ry;exact ⟨_,_,rfl,rfl,hc _ _ hcc,q _ H ρ .refl l (hh _ _ ρ H)⟩
  ·cases e
 ·cases e
noncomputable def gAdd:D→D→Dm D:=gI0 fun i j=>.int (i + j)
noncomputable def gSub:D→D→Dm D:=gI0 fun i j=>.int (i - j)
noncomputable def gMul:D→D→Dm D:=gIC (fun i j=>decide (-18446744073709551616 < i∧i < 18446744073709551616) || decide (-18446744073709551616 < j∧j < 18446744073709551616)) fun i j=>.int (i * j)
noncomputable def gFdiv:D→D→Dm D:=gIC (fun i j=>decide (0 < j∧j < 1073741824)) fun i j=>.int (i / j)
noncomputable def gMod:D→D→Dm D:=gIC (fun i j=>decide (0 < j)) fun i j=>.int (i % j)
noncomputable def gPow:D→D→Dm D:=gIC (fun i j=>decide (0≤j∧j≤1000000∧i.natAbs < 18446744073709551616)) fun i j=>.int (i ^ j.toNat)
noncomputable def gLt:D→D→Dm D:=gI0 fun i j=>.bl (decide (i < j))
noncomputable def gLe:D→D→Dm D:=gI0 fun i j=>.bl (decide (i≤j))
noncomputable def gGt:D→D→Dm D:=gI0 fun i j=>.bl (decide (j < i))
noncomputable def gGe:D→D→Dm D:=gI0 fun i j=>.bl (decide (j≤i))
theorem yau:So2 K (rI0 fun i j=>.int (i + j)) gAdd:=xaS fun _ _ _ _=>.int _
theorem XaS:So2 K (rI0 fun i j=>.int (i - j)) gSub:=xaS fun _ _ _ _=>.int _
theorem Zau:So2 K (rI CMul fun i j=>.int (i * j)) gMul:=XaZ (fun i j h=>by
 rw [Bool.or_eq_true,decide_eq_true_eq,decide_eq_true_eq] at h
 exact h) fun _ _ _ _=>.int _
theorem zaT:So2 K (rI CDiv fun i j=>.int (i / j)) gFdiv:=XaZ (fun i j h=>of_decide_eq_true (p:=0 < j∧j < 1073741824) h) fun _ _ _ _=>.int _
theorem Yau:So2 K (rI (fun _ j=>0 < j) fun i j=>.int (i % j)) gMod:=XaZ (fun i j h=>of_decide_eq_true h) fun _ _ _ _=>.int _
theorem yaT:So2 K (rI CPow fun i j=>.int (i ^ j.toNat)) gPow:=XaZ (fun i j h=>by have h:=of_decide_eq_true (p:=0≤j∧j≤1000000∧i.natAbs < 18446744073709551616) h;exact ⟨h.1,h.2.1,by omega⟩) fun _ _ _ _=>.int _
theorem zbb:So2 K (rI0 fun i j=>.bl (decide (i < j))) gLt:=xaS fun _ _ _ _=>.bl _
theorem so_gt:So2 K (rI0 fun i j=>.bl (decide (j < i))) gGt:=xaS fun _ _ _ _=>.bl _
theorem so_ge:So2 K (rI0 fun i j=>.bl (decide (j≤i))) gGe:=xaS fun _ _ _ _=>.bl _
noncomputable def gNeg:D→Dm D
 | .int i,st=>some (.int (-i),st)
 | _,_=>none
noncomputable def sV:D→Option V
 | .non=>some .non
 | .bl b=>some (.bl b)
 | .int i=>some (.int i)
 | .str x=>some (.str x)
 | _=>none
theorem sV_of {ρ:List Addr} {H:Hp} {x v:V} {a:D} (r:Rp K ρ H x a) (h:sV a=some v):x=v:=by
 cases r <;> first | (cases h;rfl) | cases h
noncomputable def gEq (neg:Bool):D→D→Dm D:=fun a b st=>match sV a,sV b with
 | some x,some y=>if scal x y=true then some (.bl (if neg then !decide (x=y) else decide (x=y)),st) else none
 | _,_=>none
theorem so_eq:So2 K rEq (gEq false):=by
 intro ρ H st x y a c b st' Q l rx ry e q
 unfold gEq at e
 split at e
 ·next u v h1 h2 =>
  split at e
  ·next hs=>cases e;cases sV_of rx h1;cases sV_of ry h2;exact ⟨hs,q _ H ρ .refl l (.bl _)⟩
  ·cases e
 ·cases e
noncomputable def mapO {α β:Type} (f:α→Option β):List α→Option (List β)
 | []=>some []
 | a :: r=>match f a,mapO f r with
  | some b,some s=>some (b :: s)
  | _,_=>none
theorem xar {α β:Type} {f:α→Option β} {a:α} {r:List α} {s:List β} (h:mapO f (a :: r)=some s):∃ b t,f a=some b∧mapO f r=some t∧s=b :: t:=by
 unfold mapO at h
 split at h
 ·next b t h1 h2=>cases h;exact ⟨b,t,h1,h2,rfl⟩
 ·cases h
theorem zaB {α β γ:Type} {f:α→Option β} {g:γ→α} {k:γ→β} (h:∀ c,f (g c)=some (k c)):∀ l:List γ,mapO f (l.map g)=some (l.map k)
 | []=>rfl
 | c :: r=>by
  show mapO f (g c :: r.map g)=_
  unfold mapO
  rw [h c,zaB h r]
  rfl
noncomputable def toP (st:Store):Nat→D→Option PyData
 | 0,_=>none
 | _ + 1,.non=>some .none
 | _ + 1,.bl b=>some (.bool b)
 | _ + 1,.int i=>some (.int i)
 | _ + 1,.str x=>some (.str x)
 | _ + 1,.ty _=>none
 | n + 1,.tup ds=>(mapO (toP st n) ds).map PyData.tuple
 | n + 1,.ref i=>match items st i with
  | some ds=>(mapO (toP st n) ds).map PyData.list
  | none=>none
theorem XaJ {ρ:List Addr} {H:Hp} {st:Store} (l:Rl K ρ H st):∀ (n:Nat) {v:V} {d:D} {p:PyData},Rp K ρ H v d→toP st n d=some p→Rep K H v p
 | 0,_,_,_,_,h=>by simp [toP] at h
 | n + 1,v,d,p,r,h=>by
  have all:∀ {vs:List V} {ds:List D} {ps:List PyData},Rps K ρ H vs ds→mapO (toP st n) ds=some ps→Reps K H vs ps:=by
   intro vs ds ps rr
   induction vs generalizing ds ps with
   | nil=>intro hm;cases rr;cases hm;exact .nil
   | cons w ws ih =>
    intro hm
    cases rr with
    | cons ra rb =>
     obtain ⟨b,t,h1,h2,rfl⟩:=xar hm
     exact .cons (XaJ l n ra h1) (ih rb h2)
  cases r with
  | non=>simp [toP] at h;subst h;exact .non
  | bl b=>simp [toP] at h;subst h;exact .bl b
  | int i=>simp [toP] at h;subst h;exact .int i
  | str x=>simp [toP] at h;subst h;exact .str x
  | ty n=>simp [toP] at h
  | ref hi =>
   simp only [toP] at h
   split at h
   ·next ds hd =>
    obtain ⟨ps,h1,rfl⟩:=Option.map_eq_some_iff.mp h
    obtain ⟨vs,e,rr⟩:=l.items hi hd
    exact .lst e (all rr h1)
   ·cases h
  | tup q rr =>
   simp only [toP] at h
   obtain ⟨ps,h1,rfl⟩:=Option.map_eq_some_iff.mp h
   exact .tup q (all rr h1)
noncomputable def gEqD (neg:Bool):D→D→Dm D:=fun a b st=>match toP st 20 a,toP st 20 b with
 | some p,some q=>if (PyData.canLay0 p && PyData.canLay0 q && decide (min p.depth q.depth≤60))=true then some (.bl (if neg then !PyData.eqv p q else PyData.eqv p q),st) else none
 | _,_=>none
theorem so_eqD (neg:Bool):So2 K (rEqD K neg) (gEqD neg):=by
 intro ρ H st x y a c b st' Q l rx ry e q
 unfold gEqD at e
 split at e
 ·next u v h1 h2 =>
  split at e
  ·next hs =>
   cases e
   rw [Bool.and_eq_true,Bool.and_eq_true,decide_eq_true_eq] at hs
   exact ⟨u,v,XaJ l 20 rx h1,XaJ l 20 ry h2,hs.1.1,hs.1.2,hs.2,q _ H ρ .refl l (.bl _)⟩
  ·cases e
 ·cases e
theorem at_of {ρ:List Addr} {H:Hp} {vs:List V} {ds:List D} {i:Int} {d:D} (r:Rps K ρ H vs ds) (h:atI ds i=some d):∃ v,atI vs i=some v∧Rp K ρ H v d:=by
 unfold atI at h ⊢
 rw [r.length]
 cases hx:ixN ds.length i with
 | none=>rw [hx] at h;cases h
 | some j =>
  rw [hx] at h
  exact r.got h
noncomputable def gIxT:D→D→Dm D
 | .tup ds,.int i,st=>match atI ds i with
  | some d=>some (d,st)
  | none=>none
 | _,_,_=>none
noncomputable def gIxL:D→D→Dm D
 | .ref r,.int i,st=>match items st r with
  | some ds=>match atI ds i with
   | some d=>some (d,st)
   | none=>none
  | none=>none
 | _,_,_=>none
theorem Yan:So2 K (rIxL K) gIxL:=by
 intro ρ H st x y a c b st' Q l rx ry e q
 unfold gIxL at e
 split at e
 ·split at e
  ·next ds hi =>
   split at e
   ·next d hd =>
    cases e
    cases ry
    cases rx with
    | ref hr =>
     obtain ⟨vs,s,r⟩:=l.items hr hi
     obtain ⟨v,hv,rv⟩:=at_of r hd
     exact ⟨_,_,_,v,rfl,rfl,s,hv,q v H ρ .refl l rv⟩
   ·cases e
  ·cases e
 ·cases e
noncomputable def gIxS:D→D→Dm D
 | .str z,.int i,st=>if lim z.length=true then match atI z.cps.toList i with
   | some c=>some (.str ⟨#[c]⟩,st)
   | none=>none
  else none
 | _,_,_=>none
theorem so_ixS:So2 K rIxS gIxS:=by
 intro ρ H st x y a c b st' Q l rx ry e q
 unfold gIxS at e
 split at e
 ·split at e
  ·next hl =>
   split at e
   ·next d hd =>
    cases e
    cases ry
    cases rx
    exact ⟨_,_,d,rfl,rfl,XaE hl,hd,q _ H ρ .refl l (.str _)⟩
   ·cases e
  ·cases e
 ·cases e
noncomputable def cutD (xs:List D) (lo hi:Option Int):List D:=(xs.drop (HT.sIx xs.length 0 lo)).take (HT.sIx xs.length xs.length hi - HT.sIx xs.length 0 lo)
noncomputable def gSlT:D→Option Int→Option Int→Dm D
 | .tup ds,lo,hi,st=>some (.tup (cutD ds lo hi),st)
 | _,_,_,_=>none
theorem got {ρ:List Addr} {H:Hp} {st:Store} {vs:List V} {ds:List D} {Q:VK} (l:Rl K ρ H st) (r:Rps K ρ H vs ds) (q:∀ v H' ρ',Mn K ρ H ρ' H'→Rl K ρ' H' st→Rp K ρ' H' v (.tup ds)→Q v H'):GotT K H vs Q :=
 fun p H' s e=>q _ H' ρ (Mn.same e) (l.same e) (.tup s (r.mn (Mn.same e)))
noncomputable def gSlL:D→Option Int→Option Int→Dm D
 | .ref r,lo,hi,st=>match items st r with
  | some ds=>some (.ref st.length,st ++ [.lst (cutD ds lo hi)])
  | none=>none
 | _,_,_,_=>none
noncomputable def gCatT:D→D→Dm D
 | .tup a,.tup b,st=>if lim (a.length + b.length)=true then some (.tup (a ++ b),st) else none
 | _,_,_=>none
noncomputable def own (st:Store) (i:Nat):Option (List D):=match st[i]? with
 | some (.lst ds)=>some ds
 | _=>none
theorem zaq {st:Store} {i:Nat} {ds:List D} (h:own st i=some ds):st[i]?=some (.lst ds):=by
 unfold own at h
 split at h
 ·next ds' hs=>cases h;exact hs
 ·cases h
noncomputable def gCat:D→D→Dm D
 | .ref i,.ref j,st=>match own st i,own st j with
  | some a,some b=>if lim (a.length + b.length)=true then some (.ref st.length,st ++ [.lst (a ++ b)]) else none
  | _,_=>none
 | _,_,_=>none
theorem ya6:So2 K rCat gCat:=by
 intro ρ H st x y a c b st' Q l rx ry e q
 unfold gCat at e
 split at e
 ·split at e
  ·next a b h1 h2 =>
   split at e
   ·next hl =>
    cases e
    cases rx with
    | ref hi =>
     cases ry with
     | ref hj =>
      obtain ⟨vs,e1,r1⟩:=l.obj _ _ _ hi (zaq h1)
      obtain ⟨ws,e2,r2⟩:=l.obj _ _ _ hj (zaq h2)
      exact ⟨_,_,_,_,rfl,rfl,e1,e2,by rw [r1.length,r2.length];exact XaE hl,fun p hp=>q _ _ _ (Mn.new hp) (l.newL hp (r1.append r2)) (.ref (newR l))⟩
   ·cases e
  ·cases e
 ·cases e
noncomputable def gRep:D→D→Dm D
 | .ref i,.int k,st=>match own st i with
  | some a=>if (decide (-9223372036854775808≤k∧k < 9223372036854775808) && lim (a.length * k.toNat))=true then some (.ref st.length,st ++ [.lst (List.replicate k.toNat a).flatten]) else none
  | _=>none
 | _,_,_=>none
noncomputable def seqOf (st:Store):D→Option (List D)
 | .tup ds=>some ds
 | .ref i=>items st i
 | _=>none
theorem seq_of {ρ:List Addr} {H:Hp} {st:Store} {x:V} {a:D} {ds:List D} (l:Rl K ρ H st) (r:Rp K ρ H x a) (h:seqOf st a=some ds):∃ p vs,x=.ref p∧(SqL K H p vs∨SqT K H p vs)∧Rps K ρ H vs ds:=by
 cases r <;> first | (cases h;done) | skip
 ·next hi=>obtain ⟨vs,s,r⟩:=l.items hi h;exact ⟨_,vs,rfl,.inl s,r⟩
 ·next s r=>cases h;exact ⟨_,_,rfl,.inr s,r⟩
theorem Rps.one' {ρ:List Addr} {H:Hp} {vs:List V} {d:D} (r:Rps K ρ H vs [d]):∃ v,vs=[v]∧Rp K ρ H v d:=by cases r with | cons a b=>cases b;exact ⟨_,rfl,a⟩
theorem Rps.two' {ρ:List Addr} {H:Hp} {vs:List V} {d e:D} (r:Rps K ρ H vs [d,e]):∃ v w,vs=[v,w]∧Rp K ρ H v d∧Rp K ρ H w e:=by
 cases r with
 | cons a b=>obtain ⟨w,rfl,r⟩:=b.one';exact ⟨_,_,rfl,a,r⟩
noncomputable def gLen:List D→Dm D
 | [a],st=>match seqOf st a with
  | some ds=>some (.int ds.length,st)
  | none=>none
 | _,_=>none
theorem ZaT:SoC K (fun xs H Q=>∃ p ys,xs=[.ref p]∧(SqL K H p ys∨SqT K H p ys)∧Q (.int ys.length) H) gLen:=by
 intro ρ H st xs as b st' Q l rx e q
 unfold gLen at e
 split at e
 ·split at e
  ·next ds hd =>
   cases e
   obtain ⟨v,rfl,r⟩:=rx.one'
   obtain ⟨p,vs,rfl,s,r⟩:=seq_of l r hd
   exact ⟨p,vs,rfl,s,q _ H ρ .refl l (by rw [r.length];exact .int _)⟩
  ·cases e
 ·cases e
noncomputable def gList:List D→Dm D
 | [a],st=>match seqOf st a with
  | some ds=>some (.ref st.length,st ++ [.lst ds])
  | none=>none
 | _,_=>none
noncomputable def gTuple:List D→Dm D
 | [a],st=>match seqOf st a with
  | some ds=>some (.tup ds,st)
  | none=>none
 | _,_=>none
noncomputable def gMax2:List D→Dm D
 | [.int i,.int j],st=>some (.int (if j > i then j else i),st)
 | _,_=>none
noncomputable def gMin2:List D→Dm D
 | [.int i,.int j],st=>some (.int (if j < i then j else i),st)
 | _,_=>none
noncomputable def gInt1:List D→Dm D
 | [.int i],st=>some (.int i,st)
 | [.bl k],st=>some (.int (if k then 1 else 0),st)
 | _,_=>none
noncomputable def gRange1:List D→Dm D
 | [.int j],st=>some (.ref st.length,st ++ [.rng 0 j])
 | _,_=>none
noncomputable def gRange2:List D→Dm D
 | [.int i,.int j],st=>some (.ref st.length,st ++ [.rng i j])
 | _,_=>none
noncomputable def rangeD (lo:Int) (n:Nat):List D:=(List.range n).map fun (k:Nat)=>D.int (lo + k)
noncomputable def okR (lo hi:Int):Bool:=decide (-4611686018427387904≤lo∧lo < 4611686018427387904∧-4611686018427387904≤hi∧hi < 4611686018427387904) && lim (hi - lo).toNat
noncomputable def rngOf (st:Store):D→Option (Int×Int)
 | .ref i=>match st[i]? with
  | some (.rng lo hi)=>some (lo,hi)
  | _=>none
 | _=>none
noncomputable def gListR:List D→Dm D
 | [a],st=>match rngOf st a with
  | some (lo,hi)=>if okR lo hi=true then some (.ref st.length,st ++ [.lst (rangeD lo (hi - lo).toNat)]) else none
  | none=>none
 | _,_=>none
noncomputable def gTupleR:List D→Dm D
 | [a],st=>match rngOf st a with
  | some (lo,hi)=>if okR lo hi=true then some (.tup (rangeD lo (hi - lo).toNat),st) else none
  | none=>none
 | _,_=>none
noncomputable def iV:D→Option Int
 | .int i=>some i
 | _=>none
noncomputable def sortI (ns:List Int):List Int:=ns.mergeSort fun a b=>decide (a≤b)
noncomputable def gSorted:List D→Dm D
 | [a],st=>match (seqOf st a).bind (mapO iV) with
  | some ns=>if ns.length < 64 then some (.ref st.length,st ++ [.lst ((sortI ns).map D.int)]) else none
  | none=>none
 | _,_=>none
noncomputable def bV:D→Option Bool
 | .bl i=>some i
 | _=>none
theorem Za6 {ρ:List Addr} {H:Hp}:∀ {ws:List V} {ds:List D} {ns:List Bool},Rps K ρ H ws ds→mapO bV ds=some ns→ws=ns.map V.bl
 | _,_,_,.nil,h=>by cases h;rfl
 | _,_,_,.cons a b,h=>by
  obtain ⟨x,t,h1,h2,rfl⟩:=xar h
  rw [Za6 b h2]
  cases a <;> first | (cases h1;rfl) | cases h1
noncomputable def gAll:List D→Dm D
 | [.ref i],st=>match (items st i).bind (mapO bV) with
  | some bs=>some (.bl (bs.all id),st)
  | none=>none
 | _,_=>none
theorem so_all:SoC K (fun xs H Q=>∃ (p:Addr) (bs:List Bool),xs=[.ref p]∧SqL K H p (bs.map V.bl)∧Q (.bl (bs.all id)) H) gAll:=by
 intro ρ H st xs as b st' Q l rx e q
 unfold gAll at e
 split at e
 ·split at e
  ·next bs hd =>
   cases e
   obtain ⟨v,rfl,r⟩:=rx.one'
   obtain ⟨ds,h3,h4⟩:=Option.bind_eq_some_iff.mp hd
   cases r with
   | ref hi =>
    obtain ⟨vs,s,r⟩:=l.items hi h3
    cases Za6 r h4
    exact ⟨_,bs,rfl,s,q _ H ρ .refl l (.bl _)⟩
  ·cases e
 ·cases e
noncomputable def tyD (T:String) (st:Store):D→Bool
 | .str _=>T == "str"
 | .tup _=>T == "tuple"
 | .ref i=>T == "list" && (items st i).isSome
 | _=>false
theorem tyD_of {ρ:List Addr} {H:Hp} {st:Store} {x:V} {a:D} {T:String} (l:Rl K ρ H st) (r:Rp K ρ H x a) (h:tyD T st a=true):tyV K T x H:=by
 cases r <;> first | (cases h;done) | skip
 ·exact eq_of_beq h
 ·next hi =>
  simp only [tyD,Bool.and_eq_true] at h
  obtain ⟨ds,hd⟩:=Option.isSome_iff_exists.mp h.2
  obtain ⟨vs,s,_⟩:=l.items hi hd
  exact .inl ⟨eq_of_beq h.1,vs,s⟩
 ·next s r=>exact .inr (.inl ⟨eq_of_beq h,_,s⟩)
noncomputable def fBM (T:String) (g:D→List D→Dm D) (fo:DSt→Dm D) (fa:DSt→Dm (List D)):DSt→Dm D:=fun δ st=>bnd (fo δ st) fun o st1=>if tyD T st1 o=true then bnd (fa δ st1) fun as st2=>g o as st2 else none
theorem so_bm {T:String} {r:V→List V→Hp→VK→Prop} {g:D→List D→Dm D} {to:TE} {ta:TA} {fo:DSt→Dm D} {fa:DSt→Dm (List D)} (hr:SoM K T r g) (ho:SoE K to fo) (ha:SoA K ta fa):SoE K (tBM K T r to ta) (fBM T g fo fa):=by
 intro ρ σ H δ st b st' Q l rs e q
 obtain ⟨o,st1,e1,e⟩:=Xaa e
 split at e
 ·next ht =>
  obtain ⟨as,st2,e2,e⟩:=Xaa e
  refine ho ρ σ H δ st o st1 _ l rs e1 fun x H1 ρ1 m1 l1 r1=>⟨tyD_of l1 r1 ht,ha ρ1 σ H1 δ st1 as st2 _ l1 (rs.mn m1) e2 fun xs H2 ρ2 m2 l2 r2=>?_⟩
  exact hr ρ2 H2 st2 x xs o as b st' Q l2 (r1.mn m2) r2 e fun v H3 ρ3 m3 l3 r3=>q v H3 ρ3 ((m1.trans m2).trans m3) l3 r3
 ·cases e
noncomputable def gAppend:D→List D→Dm D
 | .ref i,[y],st=>match own st i with
  | some xs=>if lim xs.length=true then some (.non,st.set i (.lst (xs ++ [y]))) else none
  | none=>none
 | _,_,_=>none
theorem YaT:SoM K "list" rAppend gAppend:=by
 intro ρ H st x xs a as b st' Q l rx rxs e q
 unfold gAppend at e
 split at e
 ·split at e
  ·next ys hy =>
   split at e
   ·next hl =>
    cases e
    obtain ⟨v,rfl,r⟩:=rxs.one'
    cases rx with
    | ref hi =>
     obtain ⟨vs,e1,r1⟩:=l.obj _ _ _ hi (zaq hy)
     obtain ⟨l2,m2⟩:=l.putL hi (zaq hy) (r1.append (.one r))
     exact ⟨_,vs,v,rfl,rfl,e1,by rw [r1.length];exact za6 hl,q _ _ ρ m2 l2 .non⟩
   ·cases e
  ·cases e
 ·cases e
noncomputable def gExtend:D→List D→Dm D
 | .ref i,[.ref j],st=>match own st i,own st j with
  | some xs,some ys=>if lim (xs.length + ys.length)=true then some (.non,st.set i (.lst (xs ++ ys))) else none
  | _,_=>none
 | _,_,_=>none
noncomputable def gPopAt:D→List D→Dm D
 | .ref i,[.int k],st=>match own st i with
  | some xs=>if decide (-9223372036854775808≤k∧k < 9223372036854775808)=true then match seqIndex? k xs.length with
    | some j=>match xs[j]? with
     | some y=>some (y,st.set i (.lst (xs.eraseIdx j)))
     | none=>none
    | none=>none
   else none
  | none=>none
 | _,_,_=>none
noncomputable def gIndex:D→List D→Dm D
 | .tup ds,[.int v],st=>match mapO iV ds with
  | some ns=>match ns.findIdx? (fun i=>decide (i=v)) with
   | some j=>some (.int (j:Int),st)
   | none=>none
  | none=>none
 | _,_,_=>none
noncomputable def tyNm (st:Store):D→Option String
 | .non=>some "NoneType"
 | .bl _=>some "bool"
 | .int _=>some "int"
 | .str _=>some "str"
 | .tup _=>some "tuple"
 | .ref i=>match st[i]? with
  | some (.lst _)=>some "list"
  | some (.dct _)=>some "dict"
  | _=>none
 | .ty _=>none
noncomputable def gIsinst:List D→Dm D
 | [a,.ty c],st=>match tyNm st a with
  | some T=>if T=c then some (.bl true,st) else none
  | none=>none
 | _,_=>none
end
end L4
namespace L4
open PySem PySem.Spec L2
section
variable {K:PySem.W.Frag}
theorem Rs.set {ρ:List Addr} {H:Hp} {σ:St} {δ:DSt} {v:V} {d:D} {i:Nat} (h:Rs K ρ H σ δ) (r:Rp K ρ H v d):Rs K ρ H (σ.set i (some v)) (δ.set i (some d)):=by
 refine ⟨by rw [List.length_set,List.length_set];exact h.1,fun j e hj=>?_⟩
 by_cases hij:i=j
 ·subst hij
  have hl:i < δ.length:=by
   have:=(List.getElem?_eq_some_iff.mp hj).1
   rwa [List.length_set] at this
  rw [List.getElem?_set_self hl] at hj
  cases hj
  exact ⟨v,by rw [List.getElem?_set_self (by rw [h.1];exact hl)],r⟩
 ·rw [List.getElem?_set_ne hij] at hj
  obtain ⟨w,hw,rw'⟩:=h.2 j e hj
  exact ⟨w,by rw [List.getElem?_set_ne hij];exact hw,rw'⟩
noncomputable def SoG (K:PySem.W.Frag) (g:TG) (f:D→DSt→Dm DSt):Prop :=
 ∀ (ρ:List Addr) (σ:St) (H:Hp) (δ:DSt) (st:Store) (v:V) (d:D) (δ':DSt) (st':Store) (Q:St→Hp→Prop),Rl K ρ H st→Rs K ρ H σ δ→Rp K ρ H v d→f d δ st=some (δ',st') →
  (∀ σ' H' ρ',Mn K ρ H ρ' H'→Rl K ρ' H' st'→Rs K ρ' H' σ' δ'→Q σ' H')→g v σ H Q
noncomputable def SoGs (K:PySem.W.Frag) (g:TGs) (f:List D→DSt→Dm DSt):Prop :=
 ∀ (ρ:List Addr) (σ:St) (H:Hp) (δ:DSt) (st:Store) (v:List V) (d:List D) (δ':DSt) (st':Store) (Q:St→Hp→Prop),Rl K ρ H st→Rs K ρ H σ δ→Rps K ρ H v d→f d δ st=some (δ',st') →
  (∀ σ' H' ρ',Mn K ρ H ρ' H'→Rl K ρ' H' st'→Rs K ρ' H' σ' δ'→Q σ' H')→g v σ H Q
noncomputable def hName (i:Nat):D→DSt→Dm DSt:=fun d δ st=>some (δ.set i (some d),st)
theorem Yad (i:Nat):SoG K (gName i) (hName i):=by
 intro ρ σ H δ st v d δ' st' Q l rs r e q
 cases e
 exact q _ H ρ .refl l (rs.set r)
noncomputable def hNil:List D→DSt→Dm DSt
 | [],δ,st=>some (δ,st)
 | _,_,_=>none
noncomputable def hCons (f:D→DSt→Dm DSt) (g:List D→DSt→Dm DSt):List D→DSt→Dm DSt
 | d :: ds,δ,st=>bnd (f d δ st) fun δ1 st1=>g ds δ1 st1
 | _,_,_=>none
theorem ybb:SoGs K gNil hNil:=by
 intro ρ σ H δ st v d δ' st' Q l rs r e q
 cases r with
 | nil=>cases e;exact ⟨rfl,q _ H ρ .refl l rs⟩
 | cons a b=>cases e
theorem yaB {t:TG} {u:TGs} {f:D→DSt→Dm DSt} {g:List D→DSt→Dm DSt} (hf:SoG K t f) (hg:SoGs K u g):SoGs K (gCons t u) (hCons f g):=by
 intro ρ σ H δ st v d δ' st' Q l rs r e q
 cases r with
 | nil=>cases e
 | cons a b =>
  obtain ⟨δ1,st1,e1,e⟩:=Xaa e
  exact ⟨_,_,rfl,hf ρ σ H δ st _ _ δ1 st1 _ l rs a e1 fun σ1 H1 ρ1 m1 l1 r1=>hg ρ1 σ1 H1 δ1 st1 _ _ δ' st' Q l1 r1 (b.mn m1) e fun σ2 H2 ρ2 m2 l2 r2=>q σ2 H2 ρ2 (m1.trans m2) l2 r2⟩
noncomputable def hTup (n:Nat) (f:List D→DSt→Dm DSt):D→DSt→Dm DSt
 | .tup ds,δ,st=>if ds.length=n then f ds δ st else none
 | _,_,_=>none
theorem Zbb {n:Nat} {t:TGs} {f:List D→DSt→Dm DSt} (hf:SoGs K t f):SoG K (gTup K n t) (hTup n f):=by
 intro ρ σ H δ st v d δ' st' Q l rs r e q
 cases r <;> first | (cases e;done) | skip
 ·next s r =>
  simp only [hTup] at e
  split at e
  ·next hl=>exact ⟨_,_,rfl,s,by rw [r.length];exact hl,hf ρ σ H δ st _ _ δ' st' Q l rs r e q⟩
  ·cases e
noncomputable def hSub (fo fi:DSt→Dm D):D→DSt→Dm DSt:=fun d δ st=>bnd (fo δ st) fun o st1=>bnd (fi δ st1) fun i st2=>match o,i with
 | .ref r,.int k=>match own st2 r with
  | some xs=>match ixN xs.length k with
   | some j=>some (δ,st2.set r (.lst (xs.set j d)))
   | none=>none
  | none=>none
 | _,_=>none
theorem xaT {to ti:TE} {fo fi:DSt→Dm D} (ho:SoE K to fo) (hi:SoE K ti fi):SoG K (L2.gSub to ti rSetL) (hSub fo fi):=by
 intro ρ σ H δ st v d δ' st' Q l rs r e q
 obtain ⟨o,st1,e1,e⟩:=Xaa e
 obtain ⟨i,st2,e2,e⟩:=Xaa e
 refine ho ρ σ H δ st o st1 _ l rs e1 fun x H1 ρ1 m1 l1 r1=>hi ρ1 σ H1 δ st1 i st2 _ l1 (rs.mn m1) e2 fun y H2 ρ2 m2 l2 r2=>?_
 split at e
 ·split at e
  ·next xs hx =>
   split at e
   ·next j hj =>
    cases e
    cases r2
    cases r1 with
    | ref hr =>
     have hr2:=m2.r _ _ hr
     obtain ⟨vs,e3,r3⟩:=l2.obj _ _ _ hr2 (zaq hx)
     obtain ⟨l3,m3⟩:=l2.putL hr2 (zaq hx) (r3.set (r.mn (m1.trans m2)) j)
     exact ⟨_,vs,_,j,rfl,rfl,e3,by rw [r3.length];exact hj,q σ _ ρ2 ((m1.trans m2).trans m3) l3 (rs.mn ((m1.trans m2).trans m3))⟩
   ·cases e
  ·cases e
 ·cases e
noncomputable def Go (K:PySem.W.Frag) (ρ:List Addr) (H:Hp) (st':Store) (E:Ends):Fl→Prop
 | .nx δ=>∀ σ' H' ρ',Mn K ρ H ρ' H'→Rl K ρ' H' st'→Rs K ρ' H' σ' δ→E.nx σ' H'
 | .bk δ=>∀ σ' H' ρ',Mn K ρ H ρ' H'→Rl K ρ' H' st'→Rs K ρ' H' σ' δ→E.bk σ' H'
 | .ct δ=>∀ σ' H' ρ',Mn K ρ H ρ' H'→Rl K ρ' H' st'→Rs K ρ' H' σ' δ→E.ct σ' H'
 | .rt d=>∀ v H' ρ',Mn K ρ H ρ' H'→Rl K ρ' H' st'→Rp K ρ' H' v d→E.rt v H'
theorem Go.mn {ρ ρ1:List Addr} {H H1:Hp} {st':Store} {E:Ends} {fl:Fl} (g:Go K ρ H st' E fl) (m:Mn K ρ H ρ1 H1):Go K ρ1 H1 st' E fl:=by
 cases fl <;> exact fun v H' ρ' m' l r=>g v H' ρ' (m.trans m') l r
noncomputable def SoS (K:PySem.W.Frag) (t:TS) (f:DSt→Dm Fl):Prop :=
 ∀ (ρ:List Addr) (σ:St) (H:Hp) (δ:DSt) (st:Store) (fl:Fl) (st':Store) (E:Ends),Rl K ρ H st→Rs K ρ H σ δ→f δ st=some (fl,st')→Go K ρ H st' E fl→t E σ H
noncomputable def fNext:DSt→Dm Fl:=fun δ st=>some (.nx δ,st)
theorem zan:SoS K tNext fNext:=by
 intro ρ σ H δ st fl st' E l rs e g
 cases e
 exact g σ H ρ .refl l rs
noncomputable def fSeq (f g:DSt→Dm Fl):DSt→Dm Fl:=fun δ st=>bnd (f δ st) fun fl st1=>match fl with
 | .nx δ1=>g δ1 st1
 | x=>some (x,st1)
theorem Xae {t u:TS} {f g:DSt→Dm Fl} (hf:SoS K t f) (hg:SoS K u g):SoS K (tSeq t u) (fSeq f g):=by
 intro ρ σ H δ st fl st' E l rs e q
 obtain ⟨x,st1,e1,e⟩:=Xaa e
 refine hf ρ σ H δ st x st1 _ l rs e1 ?_
 cases x with
 | nx δ1=>exact fun σ1 H1 ρ1 m1 l1 r1=>hg ρ1 σ1 H1 δ1 st1 fl st' E l1 r1 e (q.mn m1)
 | bk δ1=>cases e;exact q
 | ct δ1=>cases e;exact q
 | rt d=>cases e;exact q
theorem Yap {c:TT} {t u:TS} {fc:DSt→Dm Bool} {f g:DSt→Dm Fl} (hc:SoT K c fc) (hf:SoS K t f) (hg:SoS K u g):SoS K (tIfS c t u) (fIf fc f g):=by
 intro ρ σ H δ st fl st' E l rs e q
 obtain ⟨a,st1,e1,e⟩:=Xaa e
 refine hc ρ σ H δ st _ _ _ l rs e1 fun x H1 ρ1 m1 l1 r1=>?_
 subst r1
 cases x with
 | true =>
  refine iteT ?_
  rw [if_pos rfl] at e
  exact hf ρ1 σ H1 δ st1 fl st' E l1 (rs.mn m1) e (q.mn m1)
 | false =>
  refine iteF ?_
  rw [if_neg Bool.false_ne_true] at e
  exact hg ρ1 σ H1 δ st1 fl st' E l1 (rs.mn m1) e (q.mn m1)
noncomputable def fDrop (f:DSt→Dm D):DSt→Dm Fl:=fun δ st=>bnd (f δ st) fun _ st1=>some (.nx δ,st1)
theorem Ybb {t:TE} {f:DSt→Dm D} (hf:SoE K t f):SoS K (tDrop t) (fDrop f):=by
 intro ρ σ H δ st fl st' E l rs e q
 obtain ⟨a,st1,e1,e⟩:=Xaa e
 cases e
 exact hf ρ σ H δ st a _ _ l rs e1 fun x H1 ρ1 m1 l1 r1=>q σ H1 ρ1 m1 l1 (rs.mn m1)
noncomputable def fRet (f:DSt→Dm D):DSt→Dm Fl:=fun δ st=>bnd (f δ st) fun d st1=>some (.rt d,st1)
theorem Xaj {t:TE} {f:DSt→Dm D} (hf:SoE K t f):SoS K (tRet t) (fRet f):=by
 intro ρ σ H δ st fl st' E l rs e q
 obtain ⟨a,st1,e1,e⟩:=Xaa e
 cases e
 exact hf ρ σ H δ st a _ _ l rs e1 fun x H1 ρ1 m1 l1 r1=>q x H1 ρ1 m1 l1 r1
noncomputable def fAsg (f:DSt→Dm D) (h:D→DSt→Dm DSt):DSt→Dm Fl:=fun δ st=>bnd (f δ st) fun d st1=>bnd (h d δ st1) fun δ1 st2=>some (.nx δ1,st2)
theorem zak {t:TE} {g:TG} {f:DSt→Dm D} {h:D→DSt→Dm DSt} (hf:SoE K t f) (hh:SoG K g h):SoS K (tAsg t g) (fAsg f h):=by
 intro ρ σ H δ st fl st' E l rs e q
 obtain ⟨a,st1,e1,e⟩:=Xaa e
 obtain ⟨δ1,st2,e2,e⟩:=Xaa e
 cases e
 exact hf ρ σ H δ st a st1 _ l rs e1 fun x H1 ρ1 m1 l1 r1=>hh ρ1 σ H1 δ st1 x a δ1 _ _ l1 (rs.mn m1) r1 e2 fun σ2 H2 ρ2 m2 l2 r2=>q σ2 H2 ρ2 (m1.trans m2) l2 r2
noncomputable def fPar (i j:Nat) (fa:DSt→Dm (List D)):DSt→Dm Fl:=fun δ st=>bnd (fa δ st) fun as st1=>match as with
 | [a,b]=>some (.nx ((δ.set i (some a)).set j (some b)),st1)
 | _=>none
theorem Ya6 {i j:Nat} {t:TA} {fa:DSt→Dm (List D)} (ha:SoA K t fa):SoS K (tPar i j t) (fPar i j fa):=by
 intro ρ σ H δ st fl st' E l rs e q
 obtain ⟨as,st1,e1,e⟩:=Xaa e
 split at e
 ·cases e
  refine ha ρ σ H δ st _ _ _ l rs e1 fun x H1 ρ1 m1 l1 r1=>?_
  obtain ⟨v,w,rfl,r,r'⟩:=r1.two'
  exact ⟨v,w,rfl,q _ H1 ρ1 m1 l1 (((rs.mn m1).set r).set r')⟩
 ·cases e
noncomputable def fWhileGo (c:DSt→Dm Bool) (b:DSt→Dm Fl):Nat→DSt→Dm Fl
 | 0,_,_=>none
 | n + 1,δ,st=>bnd (c δ st) fun t st1=>if t=true then bnd (b δ st1) fun fl st2=>match fl with
   | .nx δ2=>fWhileGo c b n δ2 st2
   | .ct δ2=>fWhileGo c b n δ2 st2
   | .bk δ2=>some (.nx δ2,st2)
   | .rt d=>some (.rt d,st2)
  else some (.nx δ,st1)
noncomputable def fuel:Nat:=1000000
inductive Src where
 | fix (ds:List D) | live (i:Nat) | enm (i:Nat) | zl (i:Nat) (es:List D) | zr (ds:List D) (i:Nat)
noncomputable def Src.at:Src→Nat→Store→Option (Option D)
 | .fix ds,i,_=>if i≤ds.length then some ds[i]? else none
 | .live r,i,st=>(items st r).map fun ds=>ds[i]?
 | .enm r,i,st=>(items st r).bind fun ds=>if i≤ds.length then some (ds.mapIdx fun i d=>D.tup [.int (i:Int),d])[i]? else none
 | .zl r es,i,st=>(items st r).bind fun ds=>if i≤(List.zipWith (fun a b=>D.tup [a,b]) ds es).length then some (List.zipWith (fun a b=>D.tup [a,b]) ds es)[i]? else none
 | .zr ds r,i,st=>(items st r).bind fun es=>if i≤(List.zipWith (fun a b=>D.tup [a,b]) ds es).length then some (List.zipWith (fun a b=>D.tup [a,b]) ds es)[i]? else none
theorem xa6 {ds:List D} {i:Nat} {st:Store} {o:Option D} (h:Src.at (.fix ds) i st=some o):i≤ds.length∧ds[i]?=o:=by
 simp only [Src.at] at h
 split at h
 ·next hl=>exact ⟨hl,Option.some.inj h⟩
 ·cases h
noncomputable def ItOk (K:PySem.W.Frag) (ρ:List Addr) (H:Hp) (J:It) (S:Src):Prop :=
 ∀ (ρ2:List Addr) (H2:Hp) (st2:Store) (i:Nat),Mn K ρ H ρ2 H2→Rl K ρ2 H2 st2 →
  (S.at i st2=some none→J.stop i H2)∧∀ d,S.at i st2=some (some d)→J.go i H2∧∀ x H3,J.yld i H2 x H3→Mn K ρ2 H2 ρ2 H3∧Rl K ρ2 H3 st2∧Rp K ρ2 H3 x d
abbrev SoI (K:PySem.W.Frag) (t:TI) (f:DSt→Dm Src):Prop:=So K (ItOk K) t f
noncomputable def fForGo (S:Src) (g:D→DSt→Dm DSt) (b:DSt→Dm Fl):Nat→Nat→DSt→Dm Fl
 | 0,_,_,_=>none
 | n + 1,i,δ,st=>match S.at i st with
  | none=>none
  | some none=>some (.nx δ,st)
  | some (some d)=>bnd (g d δ st) fun δ1 st1=>bnd (b δ1 st1) fun fl st2=>match fl with
   | .nx δ2=>fForGo S g b n (i + 1) δ2 st2
   | .ct δ2=>fForGo S g b n (i + 1) δ2 st2
   | .bk δ2=>some (.nx δ2,st2)
   | .rt d=>some (.rt d,st2)
noncomputable def fFor (fi:DSt→Dm Src) (g:D→DSt→Dm DSt) (b:DSt→Dm Fl):DSt→Dm Fl:=fun δ st=>bnd (fi δ st) fun S st1=>fForGo S g b fuel 0 δ st1
theorem Xa6 {wi:TI} {tg:TG} {tb:TS} {fi:DSt→Dm Src} {g:D→DSt→Dm DSt} {b:DSt→Dm Fl} (hi:SoI K wi fi) (hg:SoG K tg g) (hb:SoS K tb b):SoS K (tFor wi tg tb) (fFor fi g b):=by
 intro ρ σ H δ st fl st' E l rs e q
 obtain ⟨S,st0,e0,e⟩:=Xaa e
 refine hi ρ σ H δ st S st0 _ l rs e0 fun J H0 ρ0 m0 l0 ok=>?_
 refine ⟨fun i m σ1 H1=>∃ ρ1 δ1 st1,Mn K ρ0 H0 ρ1 H1∧Rl K ρ1 H1 st1∧Rs K ρ1 H1 σ1 δ1∧fForGo S g b m i δ1 st1=some (fl,st'),⟨fuel,ρ0,δ,st0,.refl,l0,rs.mn m0,e⟩,?_⟩
 rintro i m σ1 H1 ⟨ρ1,δ1,st1,m1,l1,rs1,e1⟩
 cases m with
 | zero=>cases e1
 | succ m =>
  obtain ⟨hstop,hgo⟩:=ok ρ1 H1 st1 i m1 l1
  unfold fForGo at e1
  split at e1
  ·cases e1
  ·next hs=>cases e1;exact .inl ⟨hstop hs,q.mn (m0.trans m1) σ1 H1 ρ1 .refl l1 rs1⟩
  ·next d hs =>
   obtain ⟨δ2,st2,e2,e1⟩:=Xaa e1
   obtain ⟨f3,st3,e3,e1⟩:=Xaa e1
   obtain ⟨go,yld⟩:=hgo d hs
   refine .inr ⟨go,fun σ3 H3=>∃ m',m' < m + 1∧∃ ρ1 δ1 st1,Mn K ρ0 H0 ρ1 H3∧Rl K ρ1 H3 st1∧Rs K ρ1 H3 σ3 δ1∧fForGo S g b m' (i + 1) δ1 st1=some (fl,st'),fun _ _ h=>h,fun x H2 hy=>?_⟩
   obtain ⟨m2,l2,r2⟩:=yld x H2 hy
   refine hg ρ1 σ1 H2 δ1 st1 x d δ2 st2 _ l2 (rs1.mn m2) r2 e2 fun σ4 H4 ρ4 m4 l4 r4=>hb ρ4 σ4 H4 δ2 st2 f3 st3 _ l4 r4 e3 ?_
   have m5:=((m1.trans m2).trans m4)
   cases f3 with
   | nx δ3=>exact fun σ5 H5 ρ5 m6 l5 r5=>⟨m,Nat.lt_succ_self m,ρ5,δ3,st3,m5.trans m6,l5,r5,e1⟩
   | ct δ3=>exact fun σ5 H5 ρ5 m6 l5 r5=>⟨m,Nat.lt_succ_self m,ρ5,δ3,st3,m5.trans m6,l5,r5,e1⟩
   | bk δ3=>cases e1;exact q.mn (m0.trans m5)
   | rt d=>cases e1;exact q.mn (m0.trans m5)
noncomputable def iTupF (fa:DSt→Dm D):DSt→Dm Src:=fun δ st=>bnd (fa δ st) fun a st1=>match a with
 | .tup ds=>some (.fix ds,st1)
 | _=>none
noncomputable def iListF (fa:DSt→Dm D):DSt→Dm Src:=fun δ st=>bnd (fa δ st) fun a st1=>match a with
 | .ref i=>match items st1 i with
  | some _=>some (.live i,st1)
  | none=>none
 | _=>none
theorem za0 {t:TE} {fa:DSt→Dm D} (ha:SoE K t fa):SoI K (iList K t) (iListF fa):=by
 intro ρ σ H δ st S st' Q l rs e q
 obtain ⟨a,st1,e1,e⟩:=Xaa e
 split at e
 ·next k =>
  split at e
  ·next ds hd =>
   cases e
   refine ha ρ σ H δ st _ _ _ l rs e1 fun x H1 ρ1 m1 l1 r1=>?_
   cases r1 with
   | ref hi =>
    obtain ⟨vs,s,r⟩:=l1.items hi hd
    refine ⟨_,rfl,⟨_,s⟩,q _ H1 ρ1 m1 l1 fun ρ2 H2 st2 i m2 l2=>⟨fun h=>?_,fun d h=>?_⟩⟩
    ·obtain ⟨ds2,hd2,h⟩:=Option.map_eq_some_iff.mp h
     obtain ⟨vs2,s2,r2⟩:=l2.items (m2.r _ _ hi) hd2
     exact ⟨vs2,s2,by rw [r2.length];exact List.getElem?_eq_none_iff.mp h⟩
    ·obtain ⟨ds2,hd2,h⟩:=Option.map_eq_some_iff.mp h
     obtain ⟨vs2,s2,r2⟩:=l2.items (m2.r _ _ hi) hd2
     obtain ⟨v,hv,rv⟩:=r2.got h
     refine ⟨⟨_,v,s2,hv⟩,fun x H3 y=>?_⟩
     obtain ⟨rfl,hx⟩:=y
     have:=hx _ s2
     rw [hv] at this
     cases this
     exact ⟨.refl,l2,rv⟩
  ·cases e
 ·cases e
noncomputable def iRng1F (fa:DSt→Dm (List D)):DSt→Dm Src:=fun δ st=>bnd (fa δ st) fun as st1=>match as with
 | [.int j]=>if decide (-4611686018427387904≤j∧j < 4611686018427387904)=true then some (.fix (rangeD 0 j.toNat),st1) else none
 | _=>none
noncomputable def iRng2F (fa:DSt→Dm (List D)):DSt→Dm Src:=fun δ st=>bnd (fa δ st) fun as st1=>match as with
 | [.int i,.int j]=>if decide ((-4611686018427387904≤i∧i < 4611686018427387904)∧-4611686018427387904≤j∧j < 4611686018427387904)=true then some (.fix (rangeD i (j - i).toNat),st1) else none
 | _=>none
theorem yad (lo:Int) (n:Nat):(rangeD lo n).length=n:=by simp [rangeD]
theorem Yas {lo:Int} {n k:Nat} (h:k < n):(rangeD lo n)[k]?=some (.int (lo + k)):=by simp [rangeD,h]
theorem it_rng {ρ:List Addr} {H:Hp} (lo:Int) (n:Nat):ItOk K ρ H (Itr lo n) (.fix (rangeD lo n)):=by
 intro ρ2 H2 st2 i m2 l2
 refine ⟨fun h=>?_,fun d h=>?_⟩
 ·have:=List.getElem?_eq_none_iff.mp (xa6 h).2
  rw [yad] at this
  exact this
 ·have h:=(xa6 h).2
  have hl:=(List.getElem?_eq_some_iff.mp h).1
  rw [yad] at hl
  rw [Yas hl] at h
  cases h
  refine ⟨hl,fun x H3 y=>?_⟩
  obtain ⟨rfl,rfl⟩:=y
  exact ⟨.refl,l2,.int _⟩
theorem Zav {t:TA} {fa:DSt→Dm (List D)} (ha:SoA K t fa):SoI K (iRng1 t) (iRng1F fa):=by
 intro ρ σ H δ st S st' Q l rs e q
 obtain ⟨as,st1,e1,e⟩:=Xaa e
 split at e
 ·split at e
  ·next ok =>
   cases e
   have ok:=of_decide_eq_true ok
   refine ha ρ σ H δ st _ _ _ l rs e1 fun x H1 ρ1 m1 l1 r1=>?_
   obtain ⟨v,rfl,r⟩:=r1.one'
   cases r
   exact ⟨_,rfl,by omega,by omega,q _ H1 ρ1 m1 l1 (it_rng 0 _)⟩
  ·cases e
 ·cases e
noncomputable def enumD (ds:List D):List D:=ds.mapIdx fun i d=>.tup [.int (i:Int),d]
noncomputable def iEnumF (fa:DSt→Dm (List D)):DSt→Dm Src:=fun δ st=>bnd (fa δ st) fun as st1=>match as with
 | [.tup ds]=>some (.fix (enumD ds),st1)
 | _=>none
noncomputable def fCompGo (S:Src) (g:D→DSt→Dm DSt) (tc:DSt→Dm Bool) (te:DSt→Dm D):Nat→Nat→List D→DSt→Dm (List D)
 | 0,_,_,_,_=>none
 | n + 1,i,ys,δ,st=>if lim ys.length=true then match S.at i st with
  | none=>none
  | some none=>some (ys,st)
  | some (some d)=>bnd (g d δ st) fun δ1 st1=>bnd (tc δ1 st1) fun t st2=>if t=true then bnd (te δ1 st2) fun y st3=>fCompGo S g tc te n (i + 1) (ys ++ [y]) δ1 st3 else fCompGo S g tc te n (i + 1) ys δ1 st2
  else none
noncomputable def compD (n:Nat) (js:List Nat) (δ:DSt):DSt:=List.replicate n none ++ js.map fun j=>δ.getD j none
noncomputable def fComp (fi:DSt→Dm Src) (n:Nat) (js:List Nat) (g:D→DSt→Dm DSt) (tc:DSt→Dm Bool) (te:DSt→Dm D):DSt→Dm D:=fun δ st=>bnd (fi δ st) fun S st1=>bnd (fCompGo S g tc te fuel 0 [] (compD n js δ) st1) fun ys st2=>some (.ref st2.length,st2 ++ [.lst ys])
theorem Rs.comp {ρ:List Addr} {H:Hp} {σ:St} {δ:DSt} (h:Rs K ρ H σ δ) (n:Nat) (js:List Nat):Rs K ρ H (compSt n js σ) (compD n js δ):=by
 unfold compSt compD
 refine ⟨by simp,fun i d hd=>?_⟩
 by_cases hi:i < n
 ·rw [List.getElem?_append_left (by simpa using hi),List.getElem?_replicate,if_pos hi] at hd
  cases hd
 ·rw [List.getElem?_append_right (by simpa using Nat.le_of_not_lt hi),List.getElem?_map] at hd
  rw [List.getElem?_append_right (by simpa using Nat.le_of_not_lt hi),List.getElem?_map]
  simp only [List.length_replicate] at hd ⊢
  cases hj:js[i - n]? with
  | none=>rw [hj] at hd;cases hd
  | some j =>
   rw [hj] at hd
   have hd:δ.getD j none=some d:=Option.some.inj hd
   rw [List.getD_eq_getElem?_getD] at hd
   have hd':δ[j]?=some (some d):=by
    cases hx:δ[j]? with
    | none=>rw [hx] at hd;cases hd
    | some y=>rw [hx] at hd;exact congrArg some hd
   obtain ⟨v,hv,r⟩:=h.2 j d hd'
   exact ⟨v,by show some (σ.getD j none)=_;rw [List.getD_eq_getElem?_getD,hv];rfl,r⟩
theorem YaH {wi:TI} {tg:TG} {tc:TT} {te:TE} {fi:DSt→Dm Src} {n:Nat} {js:List Nat} {g:D→DSt→Dm DSt} {c:DSt→Dm Bool} {f:DSt→Dm D} (hi:SoI K wi fi) (hg:SoG K tg g) (hc:SoT K tc c) (hf:SoE K te f):SoE K (tComp wi n js tg tc te) (fComp fi n js g c f):=by
 intro ρ σ H δ st b st' Q l rs e q
 obtain ⟨S,st0,e0,e⟩:=Xaa e
 obtain ⟨zs,st9,e9,e⟩:=Xaa e
 cases e
 refine hi ρ σ H δ st S st0 _ l rs e0 fun J H0 ρ0 m0 l0 ok=>?_
 refine ⟨fun i m ys σ1 H1=>∃ ρ1 δ1 st1 ws,Mn K ρ0 H0 ρ1 H1∧Rl K ρ1 H1 st1∧Rs K ρ1 H1 σ1 δ1∧Rps K ρ1 H1 ys ws∧fCompGo S g c f m i ws δ1 st1=some (zs,st9),⟨fuel,ρ0,_,st0,[],.refl,l0,(rs.mn m0).comp n js,.nil,e9⟩,?_⟩
 rintro i m ys σ1 H1 ⟨ρ1,δ1,st1,ws,m1,l1,rs1,rw1,e1⟩
 cases m with
 | zero=>cases e1
 | succ m =>
  obtain ⟨hstop,hgo⟩:=ok ρ1 H1 st1 i m1 l1
  unfold fCompGo at e1
  split at e1
  ·next hl =>
   refine ⟨by rw [rw1.length];exact za6 hl,?_⟩
   split at e1
   ·cases e1
   ·next hs =>
    cases e1
    exact .inl ⟨hstop hs,fun p hp=>q _ _ _ ((m0.trans m1).trans (Mn.new hp)) (l1.newL hp rw1) (.ref (newR l1))⟩
   ·next d hs =>
    obtain ⟨δ2,st2,e2,e1⟩:=Xaa e1
    obtain ⟨t,st3,e3,e1⟩:=Xaa e1
    obtain ⟨go,yld⟩:=hgo d hs
    refine .inr ⟨go,fun x H2 hy=>?_⟩
    obtain ⟨m2,l2,r2⟩:=yld x H2 hy
    refine hg ρ1 σ1 H2 δ1 st1 x d δ2 st2 _ l2 (rs1.mn m2) r2 e2 fun σ4 H4 ρ4 m4 l4 r4=>hc ρ4 σ4 H4 δ2 st2 t st3 _ l4 r4 e3 fun t' H5 ρ5 m5 l5 r5=>?_
    subst r5
    have m6:=(((m1.trans m2).trans m4).trans m5)
    cases t' with
    | true =>
     refine iteT ?_
     rw [if_pos rfl] at e1
     obtain ⟨y,st6,e6,e1⟩:=Xaa e1
     exact hf ρ5 σ4 H5 δ2 st3 y st6 _ l5 (r4.mn m5) e6 fun v H7 ρ7 m7 l7 r7=>⟨m,Nat.lt_succ_self m,ρ7,δ2,st6,ws ++ [y],m6.trans m7,l7,r4.mn (m5.trans m7),(rw1.mn (((m2.trans m4).trans m5).trans m7)).append (.one r7),e1⟩
    | false =>
     refine iteF ?_
     rw [if_neg Bool.false_ne_true] at e1
     exact ⟨m,Nat.lt_succ_self m,ρ5,δ2,st3,ws,m6,l5,r4.mn m5,rw1.mn ((m2.trans m4).trans m5),e1⟩
  ·cases e1
noncomputable def fTrue:DSt→Dm Bool:=fun _ st=>some (true,st)
noncomputable def fnF (n:Nat) (b:DSt→Dm Fl):List D→Dm D:=fun ds st=>bnd (b (ds.map some ++ List.replicate (n - ds.length) none) st) fun fl st1=>match fl with
 | .rt d=>some (d,st1)
 | .nx _=>some (.non,st1)
 | _=>none
theorem Rs.start {ρ:List Addr} {H:Hp} {vs:List V} {ds:List D} (r:Rps K ρ H vs ds) (N:List Str):Rs K ρ H (start N vs) (ds.map some ++ List.replicate (N.length - ds.length) none):=by
 unfold L2.start
 rw [r.length]
 refine ⟨by simp [r.length],fun i d hd=>?_⟩
 by_cases hi:i < ds.length
 ·rw [List.getElem?_append_left (by simpa using hi),List.getElem?_map] at hd
  rw [List.getElem?_append_left (by rw [List.length_map,r.length];exact hi),List.getElem?_map]
  cases hx:ds[i]? with
  | none=>rw [hx] at hd;cases hd
  | some y =>
   rw [hx] at hd
   cases hd
   obtain ⟨v,hv,rv⟩:=r.got hx
   exact ⟨v,by rw [hv];rfl,rv⟩
 ·rw [List.getElem?_append_right (by simpa using Nat.le_of_not_lt hi),List.getElem?_replicate] at hd
  split at hd <;> cases hd
theorem zaF {N:List Str} {k n:Nat} {t:TS} {b:DSt→Dm Fl} {vs:List V} {H:Hp} {Q:VK} {E:XK} (hb:SoS K t b) (hn:N.length=n) (h:spF K k (fnF n b) vs H Q E):t { nx:=fun _ H'=>Q .non H',rt:=Q } (start N vs) H:=by
 obtain ⟨hk,ρ,st,ds,d,st',l,r,e,q⟩:=h
 subst hn
 obtain ⟨fl,st1,e1,e⟩:=Xaa e
 refine hb ρ _ H _ st fl st1 _ l (Rs.start r N) e1 ?_
 cases fl with
 | rt v=>cases e;exact q
 | nx δ=>cases e;exact fun σ' H' ρ' m l' r'=>q .non H' ρ' m l' .non
 | bk δ=>cases e
 | ct δ=>cases e
end
end L4
namespace L4
open PySem PySem.Spec L2
section
variable {X:Cx} {K:PySem.W.Frag}
theorem xaH:SoT K (fun _ H Q=>Q true H) fTrue:=by
 intro ρ σ H δ st b st' Q l rs e q
 cases e
 exact q _ H ρ .refl l rfl
end
noncomputable def spLaw (K:PySem.W.Frag):Sp:=fun vs H Q _=>∃ (a:Addr) (ns:List Int),vs=[.ref a]∧SqF K H a (ns.map V.int)∧ns.length≤63∧∀ H',Q (.bl true) H'
theorem law_of {P:Program} {w:World} {K:PySem.W.Frag} {mg:Str→Option Value} {base:Heap} {k:Nat} {f:Addr} {fd:FuncData} {ps:List Str} {F:List D→Dm D} (G:FnOk P w K mg base CX0 k f fd ps (spF K 1 F))
  (h:∀ ns:List Int,ns.length≤63→∃ st',F [.ref 0] [.fzn (ns.map D.int)]=some (.bl true,st')):FnOk P w K mg base CX0 k f fd ps (spLaw K):=by
 refine G.imp fun vs H Q E hs=>?_
 obtain ⟨a,ns,rfl,hS,hn,q⟩:=hs
 obtain ⟨st',e⟩:=h ns hn
 have one:∀ i (b:Addr),([a]:List Addr)[i]?=some b→i=0∧b=a:=fun i b h=>by
  cases i with
  | zero=>exact ⟨rfl,(Option.some.inj h).symm⟩
  | succ i=>simp at h
 refine ⟨rfl,[a],[.fzn (ns.map D.int)],[.ref 0],.bl true,st',⟨rfl,fun i j b o o' h1 h2 _ _ _ _=>by rw [(one i b h1).1,(one j b h2).1],fun i b o h1 h2=>?_⟩,.one (.ref rfl),e,fun v H' ρ' m l r=>by cases r;exact q H'⟩
 obtain ⟨rfl,rfl⟩:=one i b h1
 cases (Option.some.inj h2)
 exact ⟨ns.map V.int,hS,Rps.ints ns⟩
noncomputable def Wp {α:Type} (m:Option (α×Store)) (Q:α→Store→Prop):Prop:=∃ a st,m=some (a,st)∧Q a st
section
variable {α β:Type} {Q Q':α→Store→Prop} {st:Store} {δ:DSt}
theorem yab {m:Option (α×Store)} (h:Wp m Q) (hq:∀ a st,Q a st→Q' a st):Wp m Q':=let ⟨a,st,e,q⟩:=h;⟨a,st,e,hq a st q⟩
theorem Yaa {a:α}:Wp (some (a,st)) Q↔Q a st:=⟨fun ⟨_,_,e,q⟩=>by cases e;exact q,fun q=>⟨a,st,rfl,q⟩⟩
theorem Zab:Wp (none:Option (α×Store)) Q↔False:=⟨fun ⟨_,_,e,_⟩=>(by cases e),False.elim⟩
theorem Xab {R:β→Store→Prop} {m:Option (α×Store)} {k:α→Dm β}:Wp (bnd m k) R↔Wp m fun a st1=>Wp (k a st1) R:=by
 cases m with
 | none=>exact ⟨fun ⟨_,_,e,_⟩=>(by cases e),fun ⟨_,_,e,_⟩=>(by cases e)⟩
 | some p=>exact ⟨fun h=>⟨p.1,p.2,rfl,h⟩,fun ⟨a,s,e,h⟩=>by cases e;exact h⟩
theorem Yag {c:Prop} [Decidable c] {m n:Option (α×Store)}:Wp (if c then m else n) Q↔if c then Wp m Q else Wp n Q:=by split <;> exact Iff.rfl
end
section
variable {st:Store} {δ:DSt} {Q:D→Store→Prop}
theorem wp_var {i:Nat}:Wp (fVar i δ st) Q↔∃ d,δ[i]?=some (some d)∧Q d st:=by
 unfold fVar
 split
 ·next d hd=>rw [Yaa];exact ⟨fun h=>⟨d,hd,h⟩,fun ⟨e,he,h⟩=>by rw [hd] at he;cases he;exact h⟩
 ·next h=>rw [Zab];exact ⟨False.elim,fun ⟨e,he,_⟩=>h e he⟩
theorem wp_c {d:D}:Wp (fC d δ st) Q↔Q d st:=Yaa
theorem wp_op {g:D→D→Dm D} {fa fb:DSt→Dm D}:Wp (fOp g fa fb δ st) Q↔Wp (fa δ st) fun a st1=>Wp (fb δ st1) fun b st2=>Wp (g a b st2) Q:=by
 unfold fOp;rw [Xab];simp only [Xab]
theorem wp_un {g:D→Dm D} {fa:DSt→Dm D}:Wp (fUn g fa δ st) Q↔Wp (fa δ st) fun a st1=>Wp (g a st1) Q:=Xab
theorem wp_cb {g:List D→Dm D} {fa:DSt→Dm (List D)}:Wp (fCB g fa δ st) Q↔Wp (fa δ st) fun a st1=>Wp (g a st1) Q:=Xab
theorem wp_nil {R:List D→Store→Prop}:Wp (fNil δ st) R↔R [] st:=Yaa
theorem xbb {R:List D→Store→Prop} {fa:DSt→Dm D} {fr:DSt→Dm (List D)}:Wp (fCons fa fr δ st) R↔Wp (fa δ st) fun a st1=>Wp (fr δ st1) fun r st2=>R (a :: r) st2:=by
 unfold fCons;rw [Xab];simp only [Xab,Yaa]
theorem wp_tup {fa:DSt→Dm (List D)}:Wp (fTup fa δ st) Q↔Wp (fa δ st) fun as st1=>lim as.length=true∧Q (.tup as) st1:=by
 unfold fTup;rw [Xab];simp only [Yag,Yaa,Zab]
 constructor <;> exact fun h=>yab h fun a s h=>by first | (split at h;exact ⟨by assumption,h⟩;exact h.elim) | (rw [if_pos h.1];exact h.2)
theorem wp_lst {fa:DSt→Dm (List D)}:Wp (fLst fa δ st) Q↔Wp (fa δ st) fun as st1=>lim as.length=true∧Q (.ref st1.length) (st1 ++ [.lst as]):=by
 unfold fLst;rw [Xab];simp only [Yag,Yaa,Zab]
 constructor <;> exact fun h=>yab h fun a s h=>by first | (split at h;exact ⟨by assumption,h⟩;exact h.elim) | (rw [if_pos h.1];exact h.2)
theorem Xbb {R:Bool→Store→Prop} {fa:DSt→Dm D}:Wp (fTest fa δ st) R↔Wp (fa δ st) fun a st1=>∃ b,a=.bl b∧R b st1:=by
 unfold fTest;rw [Xab]
 constructor <;> refine fun h=>yab h fun a s h=>?_
 ·cases a <;> simp only [Yaa,Zab] at h
  exact ⟨_,rfl,h⟩
 ·obtain ⟨b,rfl,h⟩:=h
  exact Yaa.mpr h
theorem wp_not {R:Bool→Store→Prop} {fa:DSt→Dm Bool}:Wp (fNot fa δ st) R↔Wp (fa δ st) fun a st1=>R (!a) st1:=by
 unfold fNot;rw [Xab];simp only [Yaa]
theorem wp_and {R:Bool→Store→Prop} {fa fb:DSt→Dm Bool}:Wp (fAnd fa fb δ st) R↔Wp (fa δ st) fun a st1=>if a=true then Wp (fb δ st1) R else R false st1:=by
 unfold fAnd;rw [Xab];simp only [Yag,Yaa]
theorem wp_or {R:Bool→Store→Prop} {fa fb:DSt→Dm Bool}:Wp (fOr fa fb δ st) R↔Wp (fa δ st) fun a st1=>if a=true then R true st1 else Wp (fb δ st1) R:=by
 unfold fOr;rw [Xab];simp only [Yag,Yaa]
theorem wp_if {α:Type} {R:α→Store→Prop} {c:DSt→Dm Bool} {fa fb:DSt→Dm α}:Wp (fIf c fa fb δ st) R↔Wp (c δ st) fun a st1=>if a=true then Wp (fa δ st1) R else Wp (fb δ st1) R:=by
 unfold fIf;rw [Xab];simp only [Yag]
theorem zbc {fa fb:DSt→Dm D}:Wp (fAndV fa fb δ st) Q↔Wp (fTest fa δ st) fun a st1=>if a=true then Wp (fb δ st1) Q else Q (.bl false) st1:=by
 unfold fAndV;rw [Xab];simp only [Yag,Yaa]
theorem wp_orV {fa fb:DSt→Dm D}:Wp (fOrV fa fb δ st) Q↔Wp (fTest fa δ st) fun a st1=>if a=true then Q (.bl true) st1 else Wp (fb δ st1) Q:=by
 unfold fOrV;rw [Xab];simp only [Yag,Yaa]
theorem ybc {fa:DSt→Dm D}:Wp (fNotV fa δ st) Q↔Wp (fTest fa δ st) fun a st1=>Q (.bl (!a)) st1:=by
 unfold fNotV;rw [Xab];simp only [Yaa]
theorem XaT {R:Option Int→Store→Prop}:Wp (fNoPart δ st) R↔R none st:=Yaa
theorem Zbc {R:Option Int→Store→Prop} {fa:DSt→Dm D}:Wp (fPart fa δ st) R↔Wp (fa δ st) fun a st1=>∃ i,a=.int i∧R (some i) st1:=by
 unfold fPart;rw [Xab]
 constructor <;> refine fun h=>yab h fun a s h=>?_
 ·cases a <;> simp only [Yaa,Zab] at h
  exact ⟨_,rfl,h⟩
 ·obtain ⟨b,rfl,h⟩:=h
  exact Yaa.mpr h
theorem wp_sl {g:D→Option Int→Option Int→Dm D} {fa:DSt→Dm D} {fl fh:DSt→Dm (Option Int)}:Wp (fSl g fa fl fh δ st) Q↔Wp (fa δ st) fun a st1=>Wp (fl δ st1) fun lo st2=>Wp (fh δ st2) fun hi st3=>Wp (g a lo hi st3) Q:=by
 unfold fSl;rw [Xab];simp only [Xab]
theorem wp_bm {T:String} {g:D→List D→Dm D} {fo:DSt→Dm D} {fa:DSt→Dm (List D)}:Wp (fBM T g fo fa δ st) Q↔Wp (fo δ st) fun o st1=>tyD T st1 o=true∧Wp (fa δ st1) fun as st2=>Wp (g o as st2) Q:=by
 unfold fBM;rw [Xab];simp only [Yag,Xab,Zab]
 constructor <;> exact fun h=>yab h fun a s h=>by first | (split at h;exact ⟨by assumption,h⟩;exact h.elim) | (rw [if_pos h.1];exact h.2)
variable {i j:Int} {ds es:List D} {k:Nat}
theorem wp_add:Wp (gAdd (.int i) (.int j) st) Q↔Q (.int (i + j)) st:=Yaa
theorem wp_sub:Wp (gSub (.int i) (.int j) st) Q↔Q (.int (i - j)) st:=Yaa
theorem wp_lt:Wp (gLt (.int i) (.int j) st) Q↔Q (.bl (decide (i < j))) st:=Yaa
theorem wp_le:Wp (gLe (.int i) (.int j) st) Q↔Q (.bl (decide (i≤j))) st:=Yaa
theorem wp_gt:Wp (gGt (.int i) (.int j) st) Q↔Q (.bl (decide (j < i))) st:=Yaa
theorem wp_ge:Wp (gGe (.int i) (.int j) st) Q↔Q (.bl (decide (j≤i))) st:=Yaa
theorem wp_neg:Wp (gNeg (.int i) st) Q↔Q (.int (-i)) st:=Yaa
theorem ya0 {c:Int→Int→Bool} {h:Int→Int→D}:Wp (gIC c h (.int i) (.int j) st) Q↔c i j=true∧Q (h i j) st:=by
 show Wp (if c i j=true then some (h i j,st) else none) Q↔_
 rw [Yag,Yaa,Zab]
 split
 ·next h=>exact ⟨fun q=>⟨h,q⟩,fun q=>q.2⟩
 ·next h=>exact ⟨False.elim,fun q=>h q.1⟩
theorem wp_mul:Wp (gMul (.int i) (.int j) st) Q↔((-18446744073709551616 < i∧i < 18446744073709551616)∨(-18446744073709551616 < j∧j < 18446744073709551616))∧Q (.int (i * j)) st:=by
 unfold gMul;rw [ya0,Bool.or_eq_true,decide_eq_true_eq,decide_eq_true_eq]
theorem Ybc:Wp (gFdiv (.int i) (.int j) st) Q↔(0 < j∧j < 1073741824)∧Q (.int (i / j)) st:=by unfold gFdiv;rw [ya0,decide_eq_true_eq]
theorem wp_mod:Wp (gMod (.int i) (.int j) st) Q↔0 < j∧Q (.int (i % j)) st:=by unfold gMod;rw [ya0,decide_eq_true_eq]
theorem wp_pow:Wp (gPow (.int i) (.int j) st) Q↔(0≤j∧j≤1000000∧i.natAbs < 18446744073709551616)∧Q (.int (i ^ j.toNat)) st:=by unfold gPow;rw [ya0,decide_eq_true_eq]
theorem wp_eqI {neg:Bool}:Wp (gEq neg (.int i) (.int j) st) Q↔Q (.bl (if neg then !decide (i=j) else decide (i=j))) st:=by
 have e:decide (V.int i=V.int j)=decide (i=j):=by
  by_cases h:i=j
  ·subst h;simp
  ·simp [h]
 show Wp (if scal (V.int i) (V.int j)=true then some (D.bl (if neg then !decide (V.int i=V.int j) else decide (V.int i=V.int j)),st) else none) Q↔_
 rw [if_pos (show scal _ _=true from rfl),Yaa,e]
theorem wp_eqS {neg:Bool} {x y:Str}:Wp (gEq neg (.str x) (.str y) st) Q↔Q (.bl (if neg then !decide (x=y) else decide (x=y))) st:=by
 have e:decide (V.str x=V.str y)=decide (x=y):=by
  by_cases h:x=y
  ·subst h;simp
  ·simp [h]
 show Wp (if scal (V.str x) (V.str y)=true then some (D.bl (if neg then !decide (V.str x=V.str y) else decide (V.str x=V.str y)),st) else none) Q↔_
 rw [if_pos (show scal _ _=true from rfl),Yaa,e]
theorem wp_ixT:Wp (gIxT (.tup ds) (.int i) st) Q↔∃ d,atI ds i=some d∧Q d st:=by
 show Wp (match atI ds i with | some d=>some (d,st) | none=>none) Q↔_
 cases atI ds i with
 | none=>rw [Zab];exact ⟨False.elim,fun ⟨_,e,_⟩=>by cases e⟩
 | some d=>rw [Yaa];exact ⟨fun q=>⟨d,rfl,q⟩,fun ⟨_,e,q⟩=>by cases e;exact q⟩
theorem wp_ixL:Wp (gIxL (.ref k) (.int i) st) Q↔∃ ds d,items st k=some ds∧atI ds i=some d∧Q d st:=by
 show Wp (match items st k with | some ds=>(match atI ds i with | some d=>some (d,st) | none=>none) | none=>none) Q↔_
 cases items st k with
 | none=>rw [Zab];exact ⟨False.elim,fun ⟨_,_,e,_⟩=>by cases e⟩
 | some ds =>
  show Wp (match atI ds i with | some d=>some (d,st) | none=>none) Q↔_
  cases h:atI ds i with
  | none=>rw [Zab];exact ⟨False.elim,fun ⟨_,_,e,e',_⟩=>by cases e;rw [h] at e';cases e'⟩
  | some d=>rw [Yaa];exact ⟨fun q=>⟨ds,d,rfl,h,q⟩,fun ⟨_,_,e,e',q⟩=>by cases e;rw [h] at e';cases e';exact q⟩
theorem wp_slT {lo hi:Option Int}:Wp (gSlT (.tup ds) lo hi st) Q↔Q (.tup (cutD ds lo hi)) st:=Yaa
theorem wp_slL {lo hi:Option Int}:Wp (gSlL (.ref k) lo hi st) Q↔∃ ds,items st k=some ds∧Q (.ref st.length) (st ++ [.lst (cutD ds lo hi)]):=by
 show Wp (match items st k with | some ds=>some (D.ref st.length,st ++ [O.lst (cutD ds lo hi)]) | none=>none) Q↔_
 cases items st k with
 | none=>rw [Zab];exact ⟨False.elim,fun ⟨_,e,_⟩=>by cases e⟩
 | some ds=>rw [Yaa];exact ⟨fun q=>⟨ds,rfl,q⟩,fun ⟨_,e,q⟩=>by cases e;exact q⟩
theorem xbc:Wp (gCatT (.tup ds) (.tup es) st) Q↔lim (ds.length + es.length)=true∧Q (.tup (ds ++ es)) st:=by
 show Wp (if lim (ds.length + es.length)=true then some (D.tup (ds ++ es),st) else none) Q↔_
 rw [Yag,Yaa,Zab]
 split
 ·next h=>exact ⟨fun q=>⟨h,q⟩,fun q=>q.2⟩
 ·next h=>exact ⟨False.elim,fun q=>h q.1⟩
theorem wp_cat {a b:Nat}:Wp (gCat (.ref a) (.ref b) st) Q↔∃ xs ys,own st a=some xs∧own st b=some ys∧lim (xs.length + ys.length)=true∧Q (.ref st.length) (st ++ [.lst (xs ++ ys)]):=by
 show Wp (match own st a,own st b with | some xs,some ys=>if lim (xs.length + ys.length)=true then some (D.ref st.length,st ++ [O.lst (xs ++ ys)]) else none | _,_=>none) Q↔_
 cases ha:own st a <;> cases hb:own st b
 ·simp only [Zab];exact ⟨False.elim,fun ⟨_,_,e,_⟩=>by cases e⟩
 ·simp only [Zab];exact ⟨False.elim,fun ⟨_,_,e,_⟩=>by cases e⟩
 ·simp only [Zab];exact ⟨False.elim,fun ⟨_,_,_,e,_⟩=>by cases e⟩
 ·next xs ys =>
  show Wp (if lim (xs.length + ys.length)=true then some (D.ref st.length,st ++ [O.lst (xs ++ ys)]) else none) Q↔_
  rw [Yag,Yaa,Zab]
  split
  ·next h=>exact ⟨fun q=>⟨_,_,rfl,rfl,h,q⟩,fun ⟨_,_,e,e',_,q⟩=>by cases e;cases e';exact q⟩
  ·next h=>exact ⟨False.elim,fun ⟨_,_,e,e',q,_⟩=>by cases e;cases e';exact h q⟩
theorem wp_len {a:D}:Wp (gLen [a] st) Q↔∃ ds,seqOf st a=some ds∧Q (.int ds.length) st:=by
 show Wp (match seqOf st a with | some ds=>some (D.int ds.length,st) | none=>none) Q↔_
 cases seqOf st a with
 | none=>rw [Zab];exact ⟨False.elim,fun ⟨_,e,_⟩=>by cases e⟩
 | some ds=>rw [Yaa];exact ⟨fun q=>⟨ds,rfl,q⟩,fun ⟨_,e,q⟩=>by cases e;exact q⟩
theorem Xbc {a:D}:Wp (gList [a] st) Q↔∃ ds,seqOf st a=some ds∧Q (.ref st.length) (st ++ [.lst ds]):=by
 show Wp (match seqOf st a with | some ds=>some (D.ref st.length,st ++ [O.lst ds]) | none=>none) Q↔_
 cases seqOf st a with
 | none=>rw [Zab];exact ⟨False.elim,fun ⟨_,e,_⟩=>by cases e⟩
 | some ds=>rw [Yaa];exact ⟨fun q=>⟨ds,rfl,q⟩,fun ⟨_,e,q⟩=>by cases e;exact q⟩
theorem Za0 {a:D}:Wp (gTuple [a] st) Q↔∃ ds,seqOf st a=some ds∧Q (.tup ds) st:=by
 show Wp (match seqOf st a with | some ds=>some (D.tup ds,st) | none=>none) Q↔_
 cases seqOf st a with
 | none=>rw [Zab];exact ⟨False.elim,fun ⟨_,e,_⟩=>by cases e⟩
 | some ds=>rw [Yaa];exact ⟨fun q=>⟨ds,rfl,q⟩,fun ⟨_,e,q⟩=>by cases e;exact q⟩
theorem zbd:Wp (gMax2 [.int i,.int j] st) Q↔Q (.int (if j > i then j else i)) st:=Yaa
theorem ybd:Wp (gMin2 [.int i,.int j] st) Q↔Q (.int (if j < i then j else i)) st:=Yaa
theorem Zbd:Wp (gInt1 [.int i] st) Q↔Q (.int i) st:=Yaa
theorem Ya0 {b:Bool}:Wp (gInt1 [.bl b] st) Q↔Q (.int (if b then 1 else 0)) st:=Yaa
theorem zaU:Wp (gRange1 [.int j] st) Q↔Q (.ref st.length) (st ++ [.rng 0 j]):=Yaa
theorem yaU:Wp (gRange2 [.int i,.int j] st) Q↔Q (.ref st.length) (st ++ [.rng i j]):=Yaa
theorem ZaU {y:D}:Wp (gAppend (.ref k) [y] st) Q↔∃ xs,own st k=some xs∧lim xs.length=true∧Q .non (st.set k (.lst (xs ++ [y]))):=by
 show Wp (match own st k with | some xs=>if lim xs.length=true then some (D.non,st.set k (O.lst (xs ++ [y]))) else none | none=>none) Q↔_
 cases own st k with
 | none=>rw [Zab];exact ⟨False.elim,fun ⟨_,e,_⟩=>by cases e⟩
 | some xs =>
  show Wp (if lim xs.length=true then some (D.non,st.set k (O.lst (xs ++ [y]))) else none) Q↔_
  rw [Yag,Yaa,Zab]
  split
  ·next h=>exact ⟨fun q=>⟨_,rfl,h,q⟩,fun ⟨_,e,_,q⟩=>by cases e;exact q⟩
  ·next h=>exact ⟨False.elim,fun ⟨_,e,q,_⟩=>by cases e;exact h q⟩
end
noncomputable def Ws (m:Option (Fl×Store)) (N B C:DSt→Store→Prop) (R:D→Store→Prop):Prop:=Wp m fun fl st=>match fl with
 | .nx δ=>N δ st
 | .bk δ=>B δ st
 | .ct δ=>C δ st
 | .rt d=>R d st
section
variable {st:Store} {δ:DSt} {N B C:DSt→Store→Prop} {R:D→Store→Prop} {f g:DSt→Dm Fl} {e:DSt→Dm D}
theorem YaU {m:Option (Fl×Store)} {N':DSt→Store→Prop} (h:Ws m N B C R) (hn:∀ δ st,N δ st→N' δ st):Ws m N' B C R:=yab h fun fl st q=>by
 cases fl with
 | nx δ=>exact hn δ st q
 | bk δ=>exact q
 | ct δ=>exact q
 | rt d=>exact q
theorem zaf (h:Ws (f δ st) (fun δ1 st1=>Ws (g δ1 st1) N B C R) B C R):Ws (fSeq f g δ st) N B C R:=by
 unfold Ws fSeq
 rw [Xab]
 refine yab h fun fl st1 q=>?_
 cases fl with
 | nx δ1=>exact q
 | bk δ1=>exact Yaa.mpr q
 | ct δ1=>exact Yaa.mpr q
 | rt d=>exact Yaa.mpr q
theorem yan (h:N δ st):Ws (fNext δ st) N B C R:=Yaa.mpr h
theorem xaU {t:D→DSt→Dm DSt} (h:Wp (e δ st) fun d st1=>Wp (t d δ st1) N):Ws (fAsg e t δ st) N B C R:=by
 unfold Ws fAsg
 rw [Xab]
 refine yab h fun d st1 q=>?_
 rw [Xab]
 exact yab q fun δ1 st2 q=>Yaa.mpr q
theorem yam {i:Nat} (h:Wp (e δ st) fun d st1=>N (δ.set i (some d)) st1):Ws (fAsg e (hName i) δ st) N B C R:=xaU (yab h fun d st1 q=>Yaa.mpr q)
theorem Ybd (h:Wp (e δ st) fun _ st1=>N δ st1):Ws (fDrop e δ st) N B C R:=by
 unfold Ws fDrop
 rw [Xab]
 exact yab h fun d st1 q=>Yaa.mpr q
theorem yal (h:Wp (e δ st) R):Ws (fRet e δ st) N B C R:=by
 unfold Ws fRet
 rw [Xab]
 exact yab h fun d st1 q=>Yaa.mpr q
theorem Zaw {c:DSt→Dm Bool} (h:Wp (c δ st) fun b st1=>(b=true→Ws (f δ st1) N B C R)∧(b=false→Ws (g δ st1) N B C R)):Ws (fIf c f g δ st) N B C R:=by
 unfold Ws
 rw [wp_if]
 refine yab h fun b st1 q=>?_
 cases b with
 | true=>rw [if_pos rfl];exact q.1 rfl
 | false=>rw [if_neg Bool.false_ne_true];exact q.2 rfl
theorem za7 {i j:Nat} {fa:DSt→Dm (List D)} (h:Wp (fa δ st) fun as st1=>∃ a b,as=[a,b]∧N ((δ.set i (some a)).set j (some b)) st1):Ws (fPar i j fa δ st) N B C R:=by
 unfold Ws fPar
 rw [Xab]
 refine yab h fun as st1 q=>?_
 obtain ⟨a,b,rfl,q⟩:=q
 exact Yaa.mpr q
theorem yaF {n:Nat} {b:DSt→Dm Fl} {ds:List D} (h:Ws (b (ds.map some ++ List.replicate (n - ds.length) none) st) (fun _ st1=>R .non st1) (fun _ _=>False) (fun _ _=>False) R):Wp (fnF n b ds st) R:=by
 unfold fnF
 rw [Xab]
 refine yab h fun fl st1 q=>?_
 cases fl with
 | nx δ1=>exact Yaa.mpr q
 | bk δ1=>exact q.elim
 | ct δ1=>exact q.elim
 | rt d=>exact Yaa.mpr q
theorem ya7 {fi:DSt→Dm Src} {t:D→DSt→Dm DSt} {b:DSt→Dm Fl} (ds:List D) (Pv:Nat→DSt→Store→Prop) (hi:Wp (fi δ st) fun S st1=>S=.fix ds∧Pv 0 δ st1) (hl:ds.length < 100000)
  (step:∀ i d δ st,ds[i]?=some d→Pv i δ st→Wp (t d δ st) fun δ1 st1=>Ws (b δ1 st1) (Pv (i + 1)) N (Pv (i + 1)) R) (fin:∀ δ st,Pv ds.length δ st→N δ st):Ws (fFor fi t b δ st) N B C R:=by
 unfold Ws fFor
 rw [Xab]
 refine yab hi fun S st0 q=>?_
 obtain ⟨rfl,h0⟩:=q
 have key:∀ (k i:Nat) (δ:DSt) (st:Store),i≤ds.length→ds.length - i < k→Pv i δ st→Ws (fForGo (.fix ds) t b k i δ st) N B C R:=by
  intro k
  induction k with
  | zero=>intro i δ st _ h;exact absurd h (Nat.not_lt_zero _)
  | succ k ih =>
   intro i δ st hi hk hw
   unfold Ws fForGo
   have e:Src.at (.fix ds) i st=some ds[i]?:=by show (if i≤ds.length then some ds[i]? else none)=_;rw [if_pos hi]
   rw [e]
   cases hd:ds[i]? with
   | none =>
    have:=List.getElem?_eq_none_iff.mp hd
    have e:i=ds.length:=by omega
    exact Yaa.mpr (fin δ st (e ▸ hw))
   | some d =>
    have hlt:=(List.getElem?_eq_some_iff.mp hd).1
    show Wp (bnd _ _) _
    rw [Xab]
    refine yab (step i d δ st hd hw) fun δ1 st1 q=>?_
    rw [Xab]
    refine yab q fun fl st2 q=>?_
    cases fl with
    | nx δ2=>exact ih (i + 1) δ2 st2 (by omega) (by omega) q
    | ct δ2=>exact ih (i + 1) δ2 st2 (by omega) (by omega) q
    | bk δ2=>exact Yaa.mpr q
    | rt d=>exact Yaa.mpr q
 exact key fuel 0 δ st0 (Nat.zero_le _) (Nat.lt_trans (by omega) (show 100000 < fuel by decide)) h0
theorem XaH {fi:DSt→Dm Src} {n:Nat} {js:List Nat} {t:D→DSt→Dm DSt} {c:DSt→Dm Bool} {f:DSt→Dm D} {Q:D→Store→Prop} (ds:List D) (Pv:Nat→List D→DSt→Store→Prop)
  (hi:Wp (fi δ st) fun S st1=>(∀ i ys δ st,i≤ds.length→Pv i ys δ st→S.at i st=some ds[i]?)∧Pv 0 [] (compD n js δ) st1) (hl:ds.length < 100000) (hy:∀ i ys δ st,Pv i ys δ st→ys.length≤i)
  (step:∀ i d ys δ st,ds[i]?=some d→Pv i ys δ st→Wp (t d δ st) fun δ1 st1=>Wp (c δ1 st1) fun b st2=>(b=true→Wp (f δ1 st2) fun y st3=>Pv (i + 1) (ys ++ [y]) δ1 st3)∧(b=false→Pv (i + 1) ys δ1 st2))
  (fin:∀ ys δ st,Pv ds.length ys δ st→Q (.ref st.length) (st ++ [.lst ys])):Wp (fComp fi n js t c f δ st) Q:=by
 unfold fComp
 rw [Xab]
 refine yab hi fun S st0 q=>?_
 obtain ⟨hS,h0⟩:=q
 have key:∀ (k i:Nat) (ys:List D) (δ:DSt) (st:Store),i≤ds.length→ds.length - i < k→Pv i ys δ st→Wp (fCompGo S t c f k i ys δ st) fun zs st9=>∃ δ9,Pv ds.length zs δ9 st9:=by
  intro k
  induction k with
  | zero=>intro i ys δ st _ h;exact absurd h (Nat.not_lt_zero _)
  | succ k ih =>
   intro i ys δ st hi hk' hw
   unfold fCompGo
   have hlim:lim ys.length=true:=Nat.ble_eq_true_of_le (by have:=hy i ys δ st hw;omega)
   rw [if_pos hlim,hS i ys δ st hi hw]
   cases hd:ds[i]? with
   | none =>
    have:=List.getElem?_eq_none_iff.mp hd
    have e:i=ds.length:=by omega
    exact Yaa.mpr ⟨δ,e ▸ hw⟩
   | some d =>
    have hlt:=(List.getElem?_eq_some_iff.mp hd).1
    show Wp (bnd _ _) _
    rw [Xab]
    refine yab (step i d ys δ st hd hw) fun δ1 st1 q=>?_
    rw [Xab]
    refine yab q fun b st2 q=>?_
    cases b with
    | true =>
     rw [if_pos rfl,Xab]
     exact yab (q.1 rfl) fun y st3 q=>ih (i + 1) _ δ1 st3 (by omega) (by omega) q
    | false =>
     rw [if_neg Bool.false_ne_true]
     exact ih (i + 1) ys δ1 st2 (by omega) (by omega) (q.2 rfl)
 rw [Xab]
 exact yab (key fuel 0 [] _ st0 (Nat.zero_le _) (Nat.lt_trans (by omega) (show 100000 < fuel by decide)) h0) fun zs st9 ⟨δ9,q⟩=>Yaa.mpr (fin zs δ9 st9 q)
end
end L4
namespace L4
open PySem PySem.Spec L2
noncomputable def keyOf:D→Option Key
 | .int i=>some (.inl i)
 | .str x=>some (.inr x)
 | _=>none
noncomputable def dctOf (st:Store):D→Option (List (Key×D))
 | .ref i=>match st[i]? with
  | some (.dct kvs)=>some kvs
  | _=>none
 | _=>none
noncomputable def valD (kvs:List (Key×D)) (k:Key):Option D:=(kvs.find? fun kv=>decide (kv.1=k)).map (·.2)
noncomputable def putD (kvs:List (Key×D)) (k:Key) (v:D):List (Key×D) :=
 if (kvs.any fun kv=>decide (kv.1=k))=true then kvs.map (fun kv=>if kv.1=k then (kv.1,v) else kv) else kvs ++ [(k,v)]
section
variable {K:PySem.W.Frag} {ρ:List Addr} {H:Hp} {st:Store}
theorem Za5 {x:V} {y:D} {k:Key} (r:Rp K ρ H x y) (h:keyOf y=some k):x=kV k:=by
 cases r <;> first | (cases h;rfl) | cases h
theorem Rk.app {ws ws':List (Key×V)} {kvs kvs':List (Key×D)} (r:Rk K ρ H ws kvs) (r':Rk K ρ H ws' kvs'):Rk K ρ H (ws ++ ws') (kvs ++ kvs'):=by
 induction r with
 | nil=>exact r'
 | cons h _ ih=>exact .cons h ih
theorem Rk.put {ws:List (Key×V)} {kvs:List (Key×D)} {v:V} {d:D} (r:Rk K ρ H ws kvs) (k:Key) (rv:Rp K ρ H v d):Rk K ρ H (putK ws k v) (putD kvs k d):=by
 have hany:(ws.any fun kv=>decide (kv.1=k))=(kvs.any fun kv=>decide (kv.1=k)):=by
  induction r with
  | nil=>rfl
  | cons h _ ih=>rw [List.any_cons,List.any_cons,ih,h.1]
 have hmap:Rk K ρ H (ws.map fun kv=>if kv.1=k then (kv.1,v) else kv) (kvs.map fun kv=>if kv.1=k then (kv.1,d) else kv):=by
  clear hany
  induction r with
  | nil=>exact .nil
  | @cons p q ps qs h _ ih =>
   refine .cons ?_ ih
   dsimp only
   by_cases e:p.1=k
   ·rw [if_pos e,if_pos (h.1 ▸ e)];exact ⟨h.1,rv⟩
   ·rw [if_neg e,if_neg (h.1 ▸ e)];exact h
 unfold putK putD
 rw [hany]
 split
 ·exact hmap
 ·exact r.app (.cons ⟨rfl,rv⟩ .nil)
theorem Rk.length {ws:List (Key×V)} {kvs:List (Key×D)} (r:Rk K ρ H ws kvs):ws.length=kvs.length:=by
 induction r with
 | nil=>rfl
 | cons _ _ ih=>rw [List.length_cons,List.length_cons,ih]
end
section
variable {K:PySem.W.Frag}
noncomputable def fDNew:DSt→Dm D:=fun _ st=>some (.ref st.length,st ++ [.dct []])
noncomputable def fDGet (fd fy:DSt→Dm D):DSt→Dm D:=fun δ st=>bnd (fd δ st) fun x st1=>bnd (fy δ st1) fun y st2=>match dctOf st2 x,keyOf y with
 | some kvs,some k=>match valD kvs k with
  | some v=>some (v,st2)
  | none=>none
 | _,_=>none
noncomputable def fDIn (neg:Bool) (fy fd:DSt→Dm D):DSt→Dm D:=fun δ st=>bnd (fy δ st) fun y st1=>bnd (fd δ st1) fun x st2=>match dctOf st2 x,keyOf y with
 | some kvs,some k=>some (.bl (if neg then !(valD kvs k).isSome else (valD kvs k).isSome),st2)
 | _,_=>none
noncomputable def fPNil:DSt→Dm (List (D×D)):=fun _ st=>some ([],st)
noncomputable def fPCons (fk fv:DSt→Dm D) (fr:DSt→Dm (List (D×D))):DSt→Dm (List (D×D)):=fun δ st=>bnd (fk δ st) fun k st1=>bnd (fv δ st1) fun v st2=>bnd (fr δ st2) fun r st3=>some ((k,v) :: r,st3)
noncomputable def Rpp (K:PySem.W.Frag) (ρ:List Addr) (H:Hp):List (V×V)→List (D×D)→Prop:=Paired fun p q=>Rp K ρ H p.1 q.1∧Rp K ρ H p.2 q.2
noncomputable def SoP (K:PySem.W.Frag) (trs:List (TE×TE)) (f:DSt→Dm (List (D×D))):Prop:=So K (Rpp K) (tPairs trs) f
theorem xbd:SoP K [] fPNil:=by
 intro ρ σ H δ st b st' Q l rs e q
 cases e
 exact q [] H ρ .refl l .nil
theorem xa0 {tk tv:TE} {trs:List (TE×TE)} {fk fv:DSt→Dm D} {fr:DSt→Dm (List (D×D))} (hk:SoE K tk fk) (hv:SoE K tv fv) (hr:SoP K trs fr):SoP K ((tk,tv) :: trs) (fPCons fk fv fr):=by
 intro ρ σ H δ st b st' Q l rs e q
 obtain ⟨k,st1,e1,e⟩:=Xaa e
 obtain ⟨v,st2,e2,e⟩:=Xaa e
 obtain ⟨r,st3,e3,e⟩:=Xaa e
 cases e
 exact hk ρ σ H δ st k st1 _ l rs e1 fun x H1 ρ1 m1 l1 r1=>hv ρ1 σ H1 δ st1 v st2 _ l1 (rs.mn m1) e2 fun y H2 ρ2 m2 l2 r2=>hr ρ2 σ H2 δ st2 r _ _ l2 (rs.mn (m1.trans m2)) e3 fun ps H3 ρ3 m3 l3 r3 =>
  q _ H3 ρ3 ((m1.trans m2).trans m3) l3 (.cons ⟨r1.mn (m2.trans m3),r2.mn m3⟩ r3)
noncomputable def keysOf:List (D×D)→Option (List (Key×D))
 | []=>some []
 | (k,v) :: r=>match keyOf k,keysOf r with
  | some k',some r'=>some ((k',v) :: r')
  | _,_=>none
theorem Xbd {ρ:List Addr} {H:Hp} {ps:List (V×V)} {qs:List (D×D)} (r:Rpp K ρ H ps qs):∀ {kvs:List (Key×D)},keysOf qs=some kvs→∃ ws:List (Key×V),ps=ws.map (fun kv=>(kV kv.1,kv.2))∧Rk K ρ H ws kvs:=by
 induction r with
 | nil=>intro kvs h;cases h;exact ⟨[],rfl,.nil⟩
 | @cons p q ps qs h _ ih =>
  intro kvs hk
  obtain ⟨q1,q2⟩:=q
  obtain ⟨p1,p2⟩:=p
  simp only [keysOf] at hk
  split at hk
  ·next k' r' h1 h2 =>
   cases hk
   obtain ⟨ws,rfl,rw'⟩:=ih h2
   refine ⟨(k',p2) :: ws,?_,.cons ⟨rfl,h.2⟩ rw'⟩
   rw [List.map_cons,← Za5 h.1 h1]
  ·cases hk
noncomputable def mergeD (kvs more:List (Key×D)):List (Key×D):=more.foldl (fun acc kv=>putD acc kv.1 kv.2) kvs
theorem Rk.merge {ρ:List Addr} {H:Hp} {more:List (Key×V)} {more':List (Key×D)} (r:Rk K ρ H more more'):∀ {ws:List (Key×V)} {kvs:List (Key×D)},Rk K ρ H ws kvs→Rk K ρ H (mergeK ws more) (mergeD kvs more'):=by
 induction r with
 | nil=>intro ws kvs h;exact h
 | @cons p q _ _ h _ ih =>
  intro ws kvs r0
  have:=r0.put p.1 h.2
  rw [show putD kvs p.1 q.2=putD kvs q.1 q.2 by rw [h.1]] at this
  exact ih this
noncomputable def fDisp (fp:DSt→Dm (List (D×D))):DSt→Dm D:=fun δ st=>bnd (fp δ (st ++ [.dct []])) fun ps st2=>match st2[st.length]?,keysOf ps with
 | some (.dct []),some kvs=>if kvs.length≤15 then some (.ref st.length,st2.set st.length (.dct (mergeD [] kvs))) else none
 | _,_=>none
theorem zbe {trs:List (TE×TE)} {fp:DSt→Dm (List (D×D))} (hp:SoP K trs fp):SoE K (tDisp trs) (fDisp fp):=by
 intro ρ σ H δ st b st' Q l rs e q
 obtain ⟨ps,st2,e1,e⟩:=Xaa e
 intro p hpn
 have m0:Mn K ρ H (ρ ++ [p]) (upd H p (.dK [])):=Mn.new hpn
 have l0:Rl K (ρ ++ [p]) (upd H p (.dK [])) (st ++ [.dct []]):=l.newD hpn .nil
 refine hp (ρ ++ [p]) σ _ δ _ ps st2 _ l0 (rs.mn m0) e1 fun vs H2 ρ2 m2 l2 r2=>?_
 split at e
 ·next kvs hs hk =>
  split at e
  ·next hl =>
   cases e
   have hi:=m2.r _ _ (newR (p:=p) l)
   obtain ⟨ws,e3,r3⟩:=l2.obj _ _ _ hi hs
   cases r3
   obtain ⟨kws,rfl,rk⟩:=Xbd r2 hk
   obtain ⟨l4,m4⟩:=l2.putDct hi hs (rk.merge .nil)
   exact ⟨e3,kws,rfl,by rw [rk.length];exact hl,q _ _ ρ2 ((m0.trans m2).trans m4) l4 (.ref (m4.r _ _ hi))⟩
  ·cases e
 ·cases e
end
section
variable {st:Store} {δ:DSt} {Q:D→Store→Prop}
theorem ybe:Wp (fDNew δ st) Q↔Q (.ref st.length) (st ++ [.dct []]):=Yaa
theorem Zbe {fd fy:DSt→Dm D}:Wp (fDGet fd fy δ st) Q↔Wp (fd δ st) fun x st1=>Wp (fy δ st1) fun y st2=>∃ kvs k v,dctOf st2 x=some kvs∧keyOf y=some k∧valD kvs k=some v∧Q v st2:=by
 unfold fDGet;rw [Xab];simp only [Xab]
 constructor <;> refine fun h=>yab h fun x s h=>yab h fun y s2 h=>?_
 ·split at h
  ·next kvs k h1 h2 =>
   split at h
   ·next v h3=>exact ⟨kvs,k,v,by assumption,by assumption,h3,Yaa.mp h⟩
   ·exact (Zab.mp h).elim
  ·exact (Zab.mp h).elim
 ·obtain ⟨kvs,k,v,h1,h2,h3,h⟩:=h
  rw [h1,h2]
  simp only [h3]
  exact Yaa.mpr h
theorem wp_din {neg:Bool} {fd fy:DSt→Dm D}:Wp (fDIn neg fy fd δ st) Q↔Wp (fy δ st) fun y st1=>Wp (fd δ st1) fun x st2=>∃ kvs k,dctOf st2 x=some kvs∧keyOf y=some k∧Q (.bl (if neg then !(valD kvs k).isSome else (valD kvs k).isSome)) st2:=by
 unfold fDIn;rw [Xab];simp only [Xab]
 constructor <;> refine fun h=>yab h fun x s h=>yab h fun y s2 h=>?_
 ·split at h
  ·next kvs k h1 h2=>exact ⟨kvs,k,by assumption,by assumption,Yaa.mp h⟩
  ·exact (Zab.mp h).elim
 ·obtain ⟨kvs,k,h1,h2,h⟩:=h
  rw [h1,h2]
  exact Yaa.mpr h
theorem Ybe {R:List (D×D)→Store→Prop}:Wp (fPNil δ st) R↔R [] st:=Yaa
theorem Xa0 {fk fv:DSt→Dm D} {fr:DSt→Dm (List (D×D))} {R:List (D×D)→Store→Prop}:Wp (fPCons fk fv fr δ st) R↔Wp (fk δ st) fun k st1=>Wp (fv δ st1) fun v st2=>Wp (fr δ st2) fun r st3=>R ((k,v) :: r) st3:=by
 unfold fPCons;rw [Xab];simp only [Xab,Yaa]
theorem XaU {fp:DSt→Dm (List (D×D))}:Wp (fDisp fp δ st) Q↔Wp (fp δ (st ++ [.dct []])) fun ps st2=>st2[st.length]?=some (.dct [])∧∃ kvs,keysOf ps=some kvs∧kvs.length≤15∧Q (.ref st.length) (st2.set st.length (.dct (mergeD [] kvs))):=by
 unfold fDisp;rw [Xab]
 constructor <;> refine fun h=>yab h fun ps s h=>?_
 ·split at h
  ·next kvs h1 h2 =>
   rw [Yag,Yaa,Zab] at h
   split at h
   ·next hl=>exact ⟨by assumption,kvs,by assumption,hl,h⟩
   ·exact h.elim
  ·exact (Zab.mp h).elim
 ·obtain ⟨h1,kvs,h2,h3,h⟩:=h
  rw [h1,h2]
  simp only [if_pos h3]
  exact Yaa.mpr h
end
end L4
namespace L4
open PySem PySem.Spec L2
structure Ex (c:List Nat) (st st':Store):Prop where
 len:st.length≤st'.length
 keep:∀ (i:Nat) (o:O),st[i]?=some o→i ∉ c→st'[i]?=some o
section
variable {c c':List Nat} {st st1 st2:Store} {i:Nat} {o:O} {ds:List D}
theorem Ex.refl:Ex c st st:=⟨Nat.le_refl _,fun _ _ h _=>h⟩
theorem Ex.trans (a:Ex c st st1) (b:Ex c st1 st2):Ex c st st2:=⟨Nat.le_trans a.len b.len,fun i o h n=>b.keep i o (a.keep i o h n) n⟩
theorem Ex.mono (a:Ex c st st1) (h:∀ x∈c,x∈c'):Ex c' st st1:=⟨a.len,fun i o e n=>a.keep i o e fun z=>n (h i z)⟩
theorem Ex.any (a:Ex [] st st1):Ex c st st1:=a.mono fun x h=>nomatch h
theorem yaf {α:Type} {l:List α} {i:Nat} {o:α} (h:l[i]?=some o):i < l.length:=(List.getElem?_eq_some_iff.mp h).1
theorem yae {l m:List O} (h:l[i]?=some o):(l ++ m)[i]?=some o:=by rw [List.getElem?_append_left (yaf h)];exact h
theorem Yae {l:List O}:(l ++ [o])[l.length]?=some o:=by rw [List.getElem?_append_right (Nat.le_refl _),Nat.sub_self];rfl
theorem Ex.app (a:Ex c st st1) (m:List O):Ex c st (st1 ++ m):=⟨by rw [List.length_append];exact Nat.le_trans a.len (Nat.le_add_right _ _),fun i o h n=>yae (a.keep i o h n)⟩
theorem Ex.app0 (m:List O):Ex c st (st ++ m):=Ex.refl.app m
theorem Ex.put (a:Ex c st st1) (h:i∈c):Ex c st (st1.set i o):=⟨by rw [List.length_set];exact a.len,fun j u e n=>by rw [List.getElem?_set_ne (fun z=>n (by rw [← z];exact h))];exact a.keep j u e n⟩
theorem Ex.loc (a:Ex c st st1) (h:st.length≤i):Ex c st (st1.set i o):=⟨by rw [List.length_set];exact a.len,fun j u e n=>by rw [List.getElem?_set_ne (by have:=yaf e;omega)];exact a.keep j u e n⟩
theorem xae (h:st[i]?=some (.lst ds)):items st i=some ds:=by unfold items;rw [h]
theorem yao (h:st[i]?=some (.lst ds)):own st i=some ds:=by unfold own;rw [h]
theorem xai:items (st ++ [.lst ds]) st.length=some ds:=xae Yae
theorem xbe:own (st ++ [.lst ds]) st.length=some ds:=yao Yae
theorem YaM {o':O}:items (st ++ [.lst ds] ++ [o']) st.length=some ds:=xae (yae Yae)
theorem za1 {o':O}:own (st ++ [.lst ds] ++ [o']) st.length=some ds:=yao (yae Yae)
theorem xaM {o' o2:O}:items (st ++ [.lst ds] ++ [o'] ++ [o2]) st.length=some ds:=xae (yae (yae Yae))
theorem ya1 {o' o2:O}:own (st ++ [.lst ds] ++ [o'] ++ [o2]) st.length=some ds:=yao (yae (yae Yae))
theorem zaV {lo hi:Int}:rngOf (st ++ [.rng lo hi]) (.ref st.length)=some (lo,hi):=by simp only [rngOf,Yae]
theorem Xbe:seqOf st (.tup ds)=some ds:=rfl
theorem zbf:seqOf st (.ref i)=items st i:=rfl
theorem Za1 (h:(items st i).isSome=true):tyD "list" st (.ref i)=true:=by simp only [tyD,h];rfl
theorem zaK {n:Nat} (h:n≤100000):lim n=true:=Nat.ble_eq_true_of_le h
end
section
variable {st:Store} {Q:D→Store→Prop} {i j:Int} {k:Nat} {ds es:List D}
theorem Ya1 {a:D}:Wp (gListR [a] st) Q↔∃ p,rngOf st a=some p∧okR p.1 p.2=true∧Q (.ref st.length) (st ++ [.lst (rangeD p.1 (p.2 - p.1).toNat)]):=by
 show Wp (match rngOf st a with | some (lo,hi)=>if okR lo hi=true then some (D.ref st.length,st ++ [O.lst (rangeD lo (hi - lo).toNat)]) else none | none=>none) Q↔_
 cases rngOf st a with
 | none=>rw [Zab];exact ⟨False.elim,fun ⟨_,e,_⟩=>by cases e⟩
 | some p =>
  obtain ⟨lo,hi⟩:=p
  show Wp (if okR lo hi=true then some (D.ref st.length,st ++ [O.lst (rangeD lo (hi - lo).toNat)]) else none) Q↔_
  rw [Yag,Yaa,Zab]
  split
  ·next h=>exact ⟨fun q=>⟨_,rfl,h,q⟩,fun ⟨_,e,_,q⟩=>by cases e;exact q⟩
  ·next h=>exact ⟨False.elim,fun ⟨_,e,q,_⟩=>by cases e;exact h q⟩
theorem yaV {a:D}:Wp (gTupleR [a] st) Q↔∃ p,rngOf st a=some p∧okR p.1 p.2=true∧Q (.tup (rangeD p.1 (p.2 - p.1).toNat)) st:=by
 show Wp (match rngOf st a with | some (lo,hi)=>if okR lo hi=true then some (D.tup (rangeD lo (hi - lo).toNat),st) else none | none=>none) Q↔_
 cases rngOf st a with
 | none=>rw [Zab];exact ⟨False.elim,fun ⟨_,e,_⟩=>by cases e⟩
 | some p =>
  obtain ⟨lo,hi⟩:=p
  show Wp (if okR lo hi=true then some (D.tup (rangeD lo (hi - lo).toNat),st) else none) Q↔_
  rw [Yag,Yaa,Zab]
  split
  ·next h=>exact ⟨fun q=>⟨_,rfl,h,q⟩,fun ⟨_,e,_,q⟩=>by cases e;exact q⟩
  ·next h=>exact ⟨False.elim,fun ⟨_,e,q,_⟩=>by cases e;exact h q⟩
theorem wp_rep:Wp (gRep (.ref k) (.int j) st) Q↔∃ xs,own st k=some xs∧(-9223372036854775808≤j∧j < 9223372036854775808)∧lim (xs.length * j.toNat)=true∧Q (.ref st.length) (st ++ [.lst (List.replicate j.toNat xs).flatten]):=by
 show Wp (match own st k with | some a=>if (decide (-9223372036854775808≤j∧j < 9223372036854775808) && lim (a.length * j.toNat))=true then some (D.ref st.length,st ++ [O.lst (List.replicate j.toNat a).flatten]) else none | _=>none) Q↔_
 cases own st k with
 | none=>simp only [Zab];exact ⟨False.elim,fun ⟨_,e,_⟩=>by cases e⟩
 | some xs =>
  show Wp (if (decide (-9223372036854775808≤j∧j < 9223372036854775808) && lim (xs.length * j.toNat))=true then some (D.ref st.length,st ++ [O.lst (List.replicate j.toNat xs).flatten]) else none) Q↔_
  rw [Yag,Yaa,Zab]
  split
  ·next h=>rw [Bool.and_eq_true,decide_eq_true_eq] at h;exact ⟨fun q=>⟨_,rfl,h.1,h.2,q⟩,fun ⟨_,e,_,_,q⟩=>by cases e;exact q⟩
  ·next h=>rw [Bool.and_eq_true,decide_eq_true_eq] at h;exact ⟨False.elim,fun ⟨_,e,q,q',_⟩=>by cases e;exact h ⟨q,q'⟩⟩
theorem xa1:Wp (gPopAt (.ref k) [.int i] st) Q↔∃ xs j y,own st k=some xs∧(-9223372036854775808≤i∧i < 9223372036854775808)∧seqIndex? i xs.length=some j∧xs[j]?=some y∧Q y (st.set k (.lst (xs.eraseIdx j))):=by
 constructor
 ·rintro ⟨a,s,e,q⟩
  simp only [gPopAt] at e
  split at e
  ·next xs hx =>
   split at e
   ·next hk =>
    split at e
    ·next j hj =>
     split at e
     ·next y hy=>cases e;exact ⟨xs,j,_,hx,of_decide_eq_true hk,hj,hy,q⟩
     ·cases e
    ·cases e
   ·cases e
  ·cases e
 ·rintro ⟨xs,j,y,hx,hk,hj,hy,q⟩
  refine ⟨_,_,?_,q⟩
  simp only [gPopAt,hx,hj,hy,decide_eq_true hk]
  rfl
theorem ZaV {b:Nat}:Wp (gExtend (.ref k) [.ref b] st) Q↔∃ xs ys,own st k=some xs∧own st b=some ys∧lim (xs.length + ys.length)=true∧Q .non (st.set k (.lst (xs ++ ys))):=by
 constructor
 ·rintro ⟨a,s,e,q⟩
  simp only [gExtend] at e
  split at e
  ·next xs ys hx hy =>
   split at e
   ·next hl=>cases e;exact ⟨xs,ys,hx,hy,hl,q⟩
   ·cases e
  ·cases e
 ·rintro ⟨xs,ys,hx,hy,hl,q⟩
  refine ⟨_,_,?_,q⟩
  simp only [gExtend,hx,hy,hl]
  rfl
theorem Xa1 {v:Int}:Wp (gIndex (.tup ds) [.int v] st) Q↔∃ ns j,mapO iV ds=some ns∧ns.findIdx? (fun i=>decide (i=v))=some j∧Q (.int (j:Int)) st:=by
 constructor
 ·rintro ⟨a,s,e,q⟩
  simp only [gIndex] at e
  split at e
  ·next ns hn =>
   split at e
   ·next j hj=>cases e;exact ⟨ns,j,hn,hj,q⟩
   ·cases e
  ·cases e
 ·rintro ⟨ns,j,hn,hj,q⟩
  refine ⟨_,_,?_,q⟩
  simp only [gIndex,hn,hj]
theorem wp_all:Wp (gAll [.ref k] st) Q↔∃ ds bs,items st k=some ds∧mapO bV ds=some bs∧Q (.bl (bs.all id)) st:=by
 constructor
 ·rintro ⟨a,s,e,q⟩
  simp only [gAll] at e
  split at e
  ·next bs hb =>
   cases e
   obtain ⟨ds,h1,h2⟩:=Option.bind_eq_some_iff.mp hb
   exact ⟨ds,bs,h1,h2,q⟩
  ·cases e
 ·rintro ⟨ds,bs,h1,h2,q⟩
  refine ⟨_,_,?_,q⟩
  simp only [gAll,h1,Option.bind_some,h2]
theorem wp_eqD {neg:Bool} {a b:D}:Wp (gEqD neg a b st) Q↔∃ p q,toP st 20 a=some p∧toP st 20 b=some q∧(PyData.canLay0 p=true∧PyData.canLay0 q=true∧min p.depth q.depth≤60)∧Q (.bl (if neg then !PyData.eqv p q else PyData.eqv p q)) st:=by
 constructor
 ·rintro ⟨c,s,e,q⟩
  simp only [gEqD] at e
  split at e
  ·next x y h1 h2 =>
   split at e
   ·next hs =>
    cases e
    rw [Bool.and_eq_true,Bool.and_eq_true,decide_eq_true_eq] at hs
    exact ⟨x,y,h1,h2,⟨hs.1.1,hs.1.2,hs.2⟩,q⟩
   ·cases e
  ·cases e
 ·rintro ⟨x,y,h1,h2,⟨h3,h4,h5⟩,q⟩
  refine ⟨_,_,?_,q⟩
  simp only [gEqD,h1,h2,h3,h4,decide_eq_true h5]
  rfl
theorem Za7 {z:Str}:Wp (gIxS (.str z) (.int i) st) Q↔∃ c,lim z.length=true∧atI z.cps.toList i=some c∧Q (.str ⟨#[c]⟩) st:=by
 constructor
 ·rintro ⟨c,s,e,q⟩
  simp only [gIxS] at e
  split at e
  ·next h1 =>
   split at e
   ·next c hc=>cases e;exact ⟨c,h1,hc,q⟩
   ·cases e
  ·cases e
 ·rintro ⟨c,h1,h2,q⟩
  refine ⟨_,_,?_,q⟩
  simp only [gIxS,h1,h2]
  rfl
theorem ybf {δ:DSt} {fa:DSt→Dm (List D)} {R:Src→Store→Prop}:Wp (iRng1F fa δ st) R↔Wp (fa δ st) fun as st1=>∃ j,as=[.int j]∧(-4611686018427387904≤j∧j < 4611686018427387904)∧R (.fix (rangeD 0 j.toNat)) st1:=by
 unfold iRng1F;rw [Xab]
 constructor <;> refine fun h=>yab h fun as s h=>?_
 ·split at h
  ·next j =>
   rw [Yag,Yaa,Zab] at h
   split at h
   ·next hk=>exact ⟨j,rfl,of_decide_eq_true hk,h⟩
   ·exact h.elim
  ·exact (Zab.mp h).elim
 ·obtain ⟨j,rfl,h1,h⟩:=h
  simp only [decide_eq_true h1,if_true]
  exact Yaa.mpr h
theorem Zbf {δ:DSt} {fa:DSt→Dm (List D)} {R:Src→Store→Prop}:Wp (iRng2F fa δ st) R↔Wp (fa δ st) fun as st1=>∃ i j,as=[.int i,.int j]∧((-4611686018427387904≤i∧i < 4611686018427387904)∧-4611686018427387904≤j∧j < 4611686018427387904)∧R (.fix (rangeD i (j - i).toNat)) st1:=by
 unfold iRng2F;rw [Xab]
 constructor <;> refine fun h=>yab h fun as s h=>?_
 ·split at h
  ·next i j =>
   rw [Yag,Yaa,Zab] at h
   split at h
   ·next hk=>exact ⟨i,j,rfl,of_decide_eq_true hk,h⟩
   ·exact h.elim
  ·exact (Zab.mp h).elim
 ·obtain ⟨i,j,rfl,h1,h⟩:=h
  simp only [decide_eq_true h1,if_true]
  exact Yaa.mpr h
theorem Ybf {δ:DSt} {fa:DSt→Dm D} {R:Src→Store→Prop}:Wp (iTupF fa δ st) R↔Wp (fa δ st) fun a st1=>∃ ds,a=.tup ds∧R (.fix ds) st1:=by
 unfold iTupF;rw [Xab]
 constructor <;> refine fun h=>yab h fun a s h=>?_
 ·cases a <;> simp only [Yaa,Zab] at h
  exact ⟨_,rfl,h⟩
 ·obtain ⟨j,rfl,h⟩:=h
  exact Yaa.mpr h
theorem za2 {δ:DSt} {fa:DSt→Dm D} {R:Src→Store→Prop}:Wp (iListF fa δ st) R↔Wp (fa δ st) fun a st1=>∃ i ds,a=.ref i∧items st1 i=some ds∧R (.live i) st1:=by
 unfold iListF;rw [Xab]
 constructor <;> refine fun h=>yab h fun a s h=>?_
 ·split at h
  ·split at h
   ·next i ds hd=>exact ⟨_,ds,rfl,hd,Yaa.mp h⟩
   ·exact (Zab.mp h).elim
  ·exact (Zab.mp h).elim
 ·obtain ⟨i,ds,rfl,hd,h⟩:=h
  simp only [hd]
  exact Yaa.mpr h
theorem ya2 {δ:DSt} {fa:DSt→Dm (List D)} {R:Src→Store→Prop}:Wp (iEnumF fa δ st) R↔Wp (fa δ st) fun as st1=>∃ ds,as=[.tup ds]∧R (.fix (enumD ds)) st1:=by
 unfold iEnumF;rw [Xab]
 constructor <;> refine fun h=>yab h fun as s h=>?_
 ·split at h
  ·exact ⟨_,rfl,Yaa.mp h⟩
  ·exact (Zab.mp h).elim
 ·obtain ⟨ds,rfl,h⟩:=h
  exact Yaa.mpr h
theorem ZaB {i:Nat} {d:D} {δ:DSt} {R:DSt→Store→Prop}:Wp (hName i d δ st) R↔R (δ.set i (some d)) st:=Yaa
theorem xbf {δ:DSt} {R:DSt→Store→Prop}:Wp (hNil [] δ st) R↔R δ st:=Yaa
theorem Za2 {f:D→DSt→Dm DSt} {g:List D→DSt→Dm DSt} {d:D} {ds:List D} {δ:DSt} {R:DSt→Store→Prop}:Wp (hCons f g (d :: ds) δ st) R↔Wp (f d δ st) fun δ1 st1=>Wp (g ds δ1 st1) R:=Xab
theorem Xbf {n:Nat} {f:List D→DSt→Dm DSt} {ds:List D} {δ:DSt} {R:DSt→Store→Prop}:Wp (hTup n f (.tup ds) δ st) R↔ds.length=n∧Wp (f ds δ st) R:=by
 show Wp (if ds.length=n then f ds δ st else none) R↔_
 rw [Yag,Zab]
 split
 ·next h=>exact ⟨fun q=>⟨h,q⟩,fun q=>q.2⟩
 ·next h=>exact ⟨False.elim,fun q=>h q.1⟩
theorem zbg {fo fi:DSt→Dm D} {d:D} {δ:DSt} {R:DSt→Store→Prop}:Wp (hSub fo fi d δ st) R↔Wp (fo δ st) fun o st1=>Wp (fi δ st1) fun i st2=>∃ r k xs j,o=.ref r∧i=.int k∧own st2 r=some xs∧ixN xs.length k=some j∧R δ (st2.set r (.lst (xs.set j d))):=by
 unfold hSub;rw [Xab];simp only [Xab]
 constructor <;> refine fun h=>yab h fun o s h=>yab h fun i s2 h=>?_
 ·split at h
  ·split at h
   ·next xs hx =>
    split at h
    ·next j hj=>exact ⟨_,_,xs,j,rfl,rfl,hx,hj,Yaa.mp h⟩
    ·exact (Zab.mp h).elim
   ·exact (Zab.mp h).elim
  ·exact (Zab.mp h).elim
 ·obtain ⟨r,k,xs,j,rfl,rfl,hx,hj,h⟩:=h
  simp only [hx,hj]
  exact Yaa.mpr h
theorem YaV {a:D} {c:String}:Wp (gIsinst [a,.ty c] st) Q↔tyNm st a=some c∧Q (.bl true) st:=by
 constructor
 ·rintro ⟨b,s,e,q⟩
  simp only [gIsinst] at e
  split at e
  ·next T hT =>
   split at e
   ·next h=>cases e;subst h;exact ⟨hT,q⟩
   ·cases e
  ·cases e
 ·rintro ⟨h,q⟩
  refine ⟨_,_,?_,q⟩
  simp only [gIsinst,h,if_true]
theorem YaB {δ:DSt} {R:Bool→Store→Prop}:Wp (fTrue δ st) R↔R true st:=Yaa
end
theorem at0 {α:Type} (x:α) (xs:List α):atI (x :: xs) 0=some x:=by
 unfold atI ixN
 rw [if_pos (by decide),if_pos (by simp only [List.length_cons];omega)]
 rfl
theorem at1 {α:Type} (x y:α) (xs:List α):atI (x :: y :: xs) 1=some y:=by
 unfold atI ixN
 rw [if_pos (by decide),if_pos (by simp only [List.length_cons];omega)]
 rfl
theorem s_get0 {α:Type} {a:α} {l:List α}:(a :: l)[0]?=some a:=List.getElem?_cons_zero
theorem s_getS {α:Type} {a:α} {l:List α} {i:Nat}:(a :: l)[i + 1]?=l[i]?:=List.getElem?_cons_succ
theorem s_set0 {α:Type} {a b:α} {l:List α}:(a :: l).set 0 b=b :: l:=List.set_cons_zero
theorem s_setS {α:Type} {a b:α} {l:List α} {i:Nat}:(a :: l).set (i + 1) b=a :: l.set i b:=List.set_cons_succ
theorem s_some {α:Type} (a b:α):(some a=some b)=(a=b):=Option.some.injEq a b
theorem s_ex' {α:Type} {p:α→Prop} {a':α}:(∃ a,a'=a∧p a)↔p a':=exists_eq_left'
theorem s_ex {α:Type} {p:α→Prop} {a':α}:(∃ a,a=a'∧p a)↔p a':=exists_eq_left
theorem s_exa {α:Type} {p:α→Prop} {b:Prop}:(∃ x,b∧p x)↔b∧∃ x,p x:=exists_and_left
theorem s_int (a b:Int):(D.int a=D.int b)=(a=b):=D.int.injEq a b
theorem s_bl (a b:Bool):(D.bl a=D.bl b)=(a=b):=D.bl.injEq a b
theorem s_str (a b:Str):(D.str a=D.str b)=(a=b):=D.str.injEq a b
theorem s_tup (a b:List D):(D.tup a=D.tup b)=(a=b):=D.tup.injEq a b
theorem s_ref (a b:Nat):(D.ref a=D.ref b)=(a=b):=D.ref.injEq a b
theorem s_cons {α:Type} (a:α) (l:List α) (b:α) (m:List α):(a :: l=b :: m)=(a=b∧l=m):=List.cons.injEq a l b m
theorem s_pair {α β:Type} (a:α) (b:β) (c:α) (d:β):((a,b)=(c,d))=(a=c∧b=d):=Prod.mk.injEq a b c d
theorem s_andT (p:Prop):(p∧True)=p:=and_true p
theorem s_Tand (p:Prop):(True∧p)=p:=true_and p
theorem s_notT:(!true)=false:=rfl
theorem s_notF:(!false)=true:=rfl
theorem s_FT:(false=true)=False:=by simp
theorem s_ifF {α:Type} {h:Decidable False} (t e:α):@ite α False h t e=e:=if_false t e
theorem s_ifT {α:Type} {h:Decidable True} (t e:α):@ite α True h t e=t:=if_true t e
noncomputable def wpB:=And.intro @wp_var (And.intro @wp_c (And.intro @wp_op (And.intro @wp_un (And.intro @wp_cb (And.intro @wp_nil (And.intro @xbb (And.intro @wp_tup (And.intro @wp_lst (And.intro @Xbb (And.intro @wp_not (And.intro @wp_and (And.intro @wp_or (And.intro @wp_if (And.intro @zbc (And.intro @wp_orV (And.intro @ybc (And.intro @XaT (And.intro @Zbc (And.intro @wp_sl (And.intro @wp_bm (And.intro @wp_add (And.intro @wp_sub (And.intro @wp_lt (And.intro @wp_le (And.intro @wp_gt (And.intro @wp_ge (And.intro @wp_neg (And.intro @wp_mul (And.intro @Ybc (And.intro @wp_mod (And.intro @wp_pow (And.intro @wp_eqI (And.intro @wp_eqS (And.intro @wp_ixT (And.intro @wp_ixL (And.intro @wp_slT (And.intro @wp_slL (And.intro @xbc (And.intro @wp_cat (And.intro @wp_len (And.intro @Xbc (And.intro @Za0 (And.intro @zbd (And.intro @ybd (And.intro @Zbd (And.intro @Ya0 (And.intro @zaU (And.intro @yaU (And.intro @ZaU (And.intro @ybe (And.intro @Zbe (And.intro @wp_din (And.intro @Ybe (And.intro @Xa0 (And.intro @XaU (And.intro @xai (And.intro @xbe (And.intro @YaM (And.intro @za1 (And.intro @xaM (And.intro @ya1 (And.intro @zaV (And.intro @Xbe (And.intro @zbf (And.intro @Ya1 (And.intro @yaV (And.intro @wp_rep (And.intro @xa1 (And.intro @ZaV (And.intro @Xa1 (And.intro @wp_all (And.intro @Za7 (And.intro @ybf (And.intro @Zbf (And.intro @Ybf (And.intro @za2 (And.intro @ya2 (And.intro @ZaB (And.intro @xbf (And.intro @Za2 (And.intro @Xbf (And.intro @zbg (And.intro @YaV (And.intro @YaB (And.intro @at0 (And.intro @at1 (And.intro @s_get0 (And.intro @s_getS (And.intro @s_set0 (And.intro @s_setS (And.intro @s_some (And.intro @s_ex' (And.intro @s_ex (And.intro @s_exa (And.intro @s_int (And.intro @s_bl (And.intro @s_str (And.intro @s_tup (And.intro @s_ref (And.intro @s_cons (And.intro @s_pair (And.intro @s_andT (And.intro @s_Tand (And.intro @s_notT (And.intro @s_notF (And.intro @s_FT (And.intro @s_ifF (@s_ifT))))))))))))))))))))))))))))))))))))))))))))))))))))))))))))))))))))))))))))))))))))))))))))))))))))))))))))
theorem Zad {α:Type} {m:Option (α×Store)} {Q:α→Store→Prop} (h:∀ Q':α→Store→Prop,(∀ a st,Q a st→Q' a st)→Wp m Q'):Wp m Q:=h Q fun _ _ h=>h
end L4
namespace L4
open PySem PySem.Spec L2
section
variable {X:Cx} {K:PySem.W.Frag}
end
section
variable {st:Store} {Q:D→Store→Prop}
end
end L4
namespace L4
open PySem PySem.Spec L2
noncomputable def FeedIs (st:Store) (f:Nat):Prop:=∃ o m:Int,st[f]?=some (.lst [.int o,.int m])∧0≤o∧0≤m∧m < 4294967296
theorem ix2_0:ixN 2 0=some 0:=by decide
theorem ix2_1:ixN 2 1=some 1:=by decide
theorem zaI (n:Nat):rangeD 0 n=(Mth.upto n).map D.int:=by
 unfold rangeD Mth.upto
 rw [List.map_map]
 apply List.map_congr_left
 intro i _
 simp
theorem FeedIs.keep {st st':Store} {f:Nat} (h:FeedIs st f) (e:Ex [] st st'):FeedIs st' f:=by
 obtain ⟨o,m,e1,r⟩:=h
 exact ⟨o,m,e.keep _ _ e1 (by simp),r⟩
theorem FeedIs.ne {st:Store} {f i:Nat} {o:O} (h:FeedIs st f) (hi:i≠f):FeedIs (st.set i o) f:=by
 obtain ⟨x,m,e1,r⟩:=h
 exact ⟨x,m,by rw [List.getElem?_set_ne hi];exact e1,r⟩
theorem FeedIs.lt {st:Store} {f:Nat} (h:FeedIs st f):f < st.length:=let ⟨_,_,e,_⟩:=h;yaf e
section
variable {st0 st st':Store} {f r u n:Nat} {X Y Z:List Int} {o:O}
end
noncomputable def SrcOk (S:Src) (ds:List D) (st:Store):Prop:=∀ (i:Nat) (st2:Store),i≤ds.length→Ex [] st st2→S.at i st2=some ds[i]?
theorem Xaz {st st':Store} {r:Nat} {ds:List D} (h:items st r=some ds) (e:Ex [] st st'):items st' r=some ds:=by
 unfold items at h ⊢
 cases hx:st[r]? with
 | none=>rw [hx] at h;cases h
 | some o=>rw [e.keep _ _ hx (by simp)];rw [hx] at h;exact h
theorem xaV (ds:List D) (st:Store):SrcOk (.fix ds) ds st:=fun i st2 hi _=>by
 show (if i≤ds.length then some ds[i]? else none)=_
 rw [if_pos hi]
theorem Ya2 {ds:List D} {st:Store} {r:Nat} (h:items st r=some ds):SrcOk (.live r) ds st:=fun i st2 hi e=>by
 show (items st2 r).map _=_
 rw [Xaz h e];rfl
theorem XaM {δ:DSt} {st:Store} {fi:DSt→Dm Src} {js:List Nat} {f:DSt→Dm D} {Q:D→Store→Prop} (ds:List D) (h:D→D) (hi:Wp (fi δ st) fun S st1=>SrcOk S ds st1∧Ex [] st st1) (hl:ds.length < 100000)
  (step:∀ d∈ds,∀ st1,Ex [] st st1→Wp (f (some d :: js.map fun j=>δ.getD j none) st1) fun y st2=>y=h d∧Ex [] st1 st2) (fin:∀ st',Ex [] st st'→Q (.ref st'.length) (st' ++ [.lst (ds.map h)])):Wp (fComp fi 1 js (hName 0) fTrue f δ st) Q:=by
 obtain ⟨S,st1,e1,hS,k1⟩:=hi
 refine XaH ds (fun i ys δ' st8=>(∃ v,δ'=v :: js.map fun j=>δ.getD j none)∧ys=(ds.take i).map h∧Ex [] st1 st8) ⟨S,st1,e1,fun i ys δ' st8 hi' hp=>hS i st8 hi' hp.2.2,⟨none,rfl⟩,rfl,Ex.refl⟩ hl ?_ ?_ ?_
 ·rintro i ys δ' st8 ⟨_,rfl,_⟩
  rw [List.length_map,List.length_take];omega
 ·rintro i d ys δ' st8 hd ⟨⟨v,rfl⟩,rfl,k8⟩
  rw [ZaB]
  show Wp (fTrue _ _) _
  rw [YaB]
  refine ⟨fun _=>?_,fun h=>absurd h (by decide)⟩
  refine yab (step d (List.mem_of_getElem? hd) st8 (k1.trans k8)) ?_
  rintro y st9 ⟨rfl,k9⟩
  refine ⟨⟨some d,rfl⟩,?_,k8.trans k9⟩
  obtain ⟨hlt,e⟩:=List.getElem?_eq_some_iff.mp hd
  rw [List.take_succ_eq_append_getElem hlt,List.map_append,e];rfl
 ·rintro ys δ' st8 ⟨_,rfl,k8⟩
  rw [List.take_length]
  exact fin st8 (k1.trans k8)
theorem xa2 {xs:List Int} {d:D} (h:d∈xs.map D.int):∃ x∈xs,d=.int x:=by
 obtain ⟨x,hx,rfl⟩:=List.mem_map.mp h
 exact ⟨x,hx,rfl⟩
noncomputable def inD:D→Int
 | .int i=>i
 | _=>0
section
variable {st:Store} {Q:D→Store→Prop}
end
end L4
namespace L4
open PySem PySem.Spec L2
end L4
namespace L4
open PySem PySem.Spec L2
end L4
namespace L4
open PySem PySem.Spec L2
section
variable {X:Cx} {K:PySem.W.Frag}
end
end L4
namespace L4
open PySem PySem.Spec L2
section
variable {K:PySem.W.Frag}
end
section
variable {X:Cx}
end
theorem at2 {α:Type} (x y z:α) (xs:List α):atI (x :: y :: z :: xs) 2=some z:=by
 unfold atI ixN
 rw [if_pos (by decide),if_pos (by simp only [List.length_cons];omega)]
 rfl
section
variable {st:Store} {Q:D→Store→Prop}
end
theorem Xa2 {δ:DSt} {st:Store} {fi:DSt→Dm Src} {js:List Nat} {f:DSt→Dm D} {Q:D→Store→Prop} (ds:List D) (P:Nat→D→Prop) (I:Store→Prop)
  (hi:Wp (fi δ st) fun S st1=>(∀ i st2,i≤ds.length→I st2→S.at i st2=some ds[i]?)∧I st1) (hl:ds.length < 100000)
  (step:∀ i d,ds[i]?=some d→∀ st1,I st1→Wp (f (some d :: js.map fun j=>δ.getD j none) st1) fun y st2=>P i y∧I st2)
  (fin:∀ ys st',I st'→ys.length=ds.length→(∀ i y,ys[i]?=some y→P i y)→Q (.ref st'.length) (st' ++ [.lst ys])):Wp (fComp fi 1 js (hName 0) fTrue f δ st) Q:=by
 obtain ⟨S,st1,e1,hS,k1⟩:=hi
 refine XaH ds (fun i ys δ' st8=>(∃ v,δ'=v :: js.map fun j=>δ.getD j none)∧ys.length=i∧(∀ i y,ys[i]?=some y→P i y)∧I st8) ⟨S,st1,e1,fun i ys δ' st8 hi' hp=>hS i st8 hi' hp.2.2.2,⟨none,rfl⟩,rfl,(fun i y h=>by simp at h),k1⟩ hl ?_ ?_ ?_
 ·rintro i ys δ' st8 ⟨_,h,_⟩
  omega
 ·rintro i d ys δ' st8 hd ⟨⟨v,rfl⟩,hlen,hP,k8⟩
  rw [ZaB]
  show Wp (fTrue _ _) _
  rw [YaB]
  refine ⟨fun _=>?_,fun h=>absurd h (by decide)⟩
  refine yab (step i d hd st8 k8) ?_
  rintro y st9 ⟨hp,k9⟩
  refine ⟨⟨some d,rfl⟩,by rw [List.length_append,hlen];rfl,fun j z hz=>?_,k9⟩
  by_cases hj:j < ys.length
  ·rw [List.getElem?_append_left hj] at hz;exact hP j z hz
  ·have hb:=yaf hz
   rw [List.length_append,List.length_singleton] at hb
   have e:j=ys.length:=by omega
   subst e
   rw [List.getElem?_append_right (Nat.le_refl _),Nat.sub_self] at hz
   cases hz
   rw [hlen];exact hp
 ·rintro ys δ' st8 ⟨_,hlen,hP,k8⟩
  exact fin ys st8 k8 hlen hP
end L4
namespace L4
open PySem PySem.Spec L2
noncomputable def sO (L:List Nat):Str:=⟨L.toArray⟩
theorem Ya7 (L:List Nat):(sO L).cps.toList=L:=by simp [sO]
theorem XaV (L:List Nat):(sO L).length=L.length:=by simp [sO,Str.length]
theorem yaK (L M:List Nat):sO L ++ sO M=sO (L ++ M):=by
 show Str.append (sO L) (sO M)=_
 simp [sO,Str.append]
theorem join0:∀ (Ls:List (List Nat)),Str.join (sO []) (Ls.map sO)=sO Ls.flatten
 | []=>rfl
 | [L]=>by
  show sO L=sO ([L].flatten)
  rw [List.flatten_cons,List.flatten_nil,List.append_nil]
 | L :: M :: r=>by
  have ih:=join0 (M :: r)
  show sO L ++ sO [] ++ Str.join (sO []) ((M :: r).map sO)=_
  rw [ih,yaK,yaK,List.append_nil,List.flatten_cons (l:=L)]
noncomputable def strD:D→Option Str
 | .str x=>some x
 | _=>none
theorem za3 (xs:List Str):mapO strD (xs.map D.str)=some xs:=by
 have:=zaB (f:=strD) (g:=D.str) (k:=id) (fun _=>rfl) xs
 rw [this,List.map_id]
noncomputable def gAddS:D→D→Dm D
 | .str x,.str y,st=>if lim (x.length + y.length)=true then some (.str (x ++ y),st) else none
 | _,_,_=>none
noncomputable def gJoin:D→List D→Dm D
 | .str sep,[.ref i],st=>match (items st i).bind (mapO strD) with
  | some xs=>if xs.length≤100000∧sep.length≤10∧∀ x∈xs,x.length≤100 then some (.str (Str.join sep xs),st) else none
  | none=>none
 | _,_,_=>none
section
variable {K:PySem.W.Frag}
theorem ZaK {ρ:List Addr} {H:Hp}:∀ {ws:List V} {ds:List D} {ns:List Str},Rps K ρ H ws ds→mapO strD ds=some ns→ws=ns.map V.str
 | _,_,_,.nil,h=>by cases h;rfl
 | _,_,_,.cons a b,h=>by
  obtain ⟨x,t,h1,h2,rfl⟩:=xar h
  rw [ZaK b h2]
  cases a <;> first | (cases h1;rfl) | cases h1
theorem ybg:SoM K "str" (rJoin K) gJoin:=by
 intro ρ H st x xs a as b st' Q l rx rxs e q
 unfold gJoin at e
 split at e
 ·split at e
  ·next ts hd =>
   split at e
   ·next ok =>
    cases e
    obtain ⟨v,rfl,r⟩:=rxs.one'
    obtain ⟨ds,h3,h4⟩:=Option.bind_eq_some_iff.mp hd
    cases rx
    cases r with
    | ref hi =>
     obtain ⟨vs,s,r⟩:=l.items hi h3
     cases ZaK r h4
     exact ⟨_,_,_,rfl,rfl,s,ok.1,ok.2.1,ok.2.2,q _ H ρ .refl l (.str _)⟩
   ·cases e
  ·cases e
 ·cases e
theorem zaW:So2 K (fun x y H Q=>∃ i j,x=.str i∧y=.str j∧i.length + j.length≤sizeLine∧Q (.str (i ++ j)) H) gAddS:=by
 intro ρ H st x y a c b st' Q l rx ry e q
 unfold gAddS at e
 split at e
 ·split at e
  ·next ok =>
   cases e
   cases rx
   cases ry
   exact ⟨_,_,rfl,rfl,XaE ok,q _ H ρ .refl l (.str _)⟩
  ·cases e
 ·cases e
end
section
variable {st:Store} {Q:D→Store→Prop}
theorem Zbg {sep:Str} {k:Nat} {xs:List Str} (h:items st k=some (xs.map D.str)) (hl:xs.length≤100000) (hs:sep.length≤10) (hb:∀ x∈xs,x.length≤100):Wp (gJoin (.str sep) [.ref k] st) Q↔Q (.str (Str.join sep xs)) st:=by
 have e:gJoin (.str sep) [.ref k] st=some (.str (Str.join sep xs),st):=by
  simp only [gJoin,h,Option.bind_some,za3]
  rw [if_pos ⟨hl,hs,hb⟩]
 rw [e,Yaa]
theorem yaW {x y:Str}:Wp (gAddS (.str x) (.str y) st) Q↔lim (x.length + y.length)=true∧Q (.str (x ++ y)) st:=by
 show Wp (if lim (x.length + y.length)=true then some (D.str (x ++ y),st) else none) Q↔_
 rw [Yag,Yaa,Zab]
 split
 ·next h=>exact ⟨fun q=>⟨h,q⟩,fun q=>q.2⟩
 ·next h=>exact ⟨False.elim,fun q=>h q.1⟩
end
end L4
namespace L4
open PySem PySem.Spec L2
section
variable {K:PySem.W.Frag}
end
section
variable {st:Store}
end
section
variable {X:Cx} {K:PySem.W.Frag}
end
end L4
namespace L4
open PySem PySem.Spec L2
end L4
namespace L4
open PySem PySem.Spec L2
section
variable {K:PySem.W.Frag}
end
end L4
namespace L4
open PySem PySem.Spec L2
section
variable {K:PySem.W.Frag}
end
section
variable {st:Store}
end
end L4
namespace L4
open PySem PySem.Spec L2
section
variable {K:PySem.W.Frag}
end
section
variable {st:Store} {Q:D→Store→Prop}
end
end L4
namespace L4
open PySem PySem.Spec L2
section
variable {K:PySem.W.Frag}
end
end L4
namespace L4
open PySem PySem.Spec L2
section
variable {K:PySem.W.Frag}
end
end L4
namespace L4
open PySem PySem.Spec L2
section
variable {K:PySem.W.Frag}
end
end L4
namespace L4
open PySem PySem.Spec L2
section
variable {K:PySem.W.Frag}
end
section
variable {δ:DSt} {st:Store} {N B C:DSt→Store→Prop} {R:D→Store→Prop}
end
end L4
namespace L4
open PySem PySem.Spec L2
section
variable {K:PySem.W.Frag}
end
section
variable {δ:DSt} {st:Store} {N B C:DSt→Store→Prop} {R:D→Store→Prop}
end
end L4
namespace L4
open PySem PySem.Spec L2
section
variable {K:PySem.W.Frag}
end
end L4
namespace L4
open PySem PySem.Spec L2
section
variable {K:PySem.W.Frag}
end
end L4
namespace L4
open PySem PySem.Spec L2
section
variable {K:PySem.W.Frag}
end
section
variable {st:Store} {Q:D→Store→Prop} {i:Nat}
end
end L4
namespace L4
open PySem PySem.Spec L2
section
variable {K:PySem.W.Frag}
end
section
variable {st:Store} {Q:D→Store→Prop} {δ:DSt}
end
end L4
namespace L4
open PySem PySem.Spec L2
section
variable {K:PySem.W.Frag}
end
section
variable {st:Store} {Q:D→Store→Prop}
end
end L4
namespace L4
open PySem PySem.Spec L2
section
variable {K:PySem.W.Frag}
end
section
variable {st:Store} {δ:DSt}
end
end L4
namespace L4
open PySem PySem.Spec L2
section
variable {K:PySem.W.Frag}
end
theorem ZaW {δ:DSt} {st:Store} {fi:DSt→Dm Src} {js:List Nat} {f:DSt→Dm D} {Q:D→Store→Prop} (ps:List (D×D×D)) (h:D×D×D→D) (hi:Wp (fi δ st) fun S st1=>SrcOk S (ps.map fun p=>.tup [p.1,p.2.1,p.2.2]) st1∧Ex [] st st1) (hl:ps.length < 100000)
  (step:∀ p∈ps,∀ st1,Ex [] st st1→Wp (f (some p.1 :: some p.2.1 :: some p.2.2 :: js.map fun j=>δ.getD j none) st1) fun y st2=>y=h p∧Ex [] st1 st2) (fin:∀ st',Ex [] st st'→Q (.ref st'.length) (st' ++ [.lst (ps.map h)])):Wp (fComp fi 3 js (hTup 3 (hCons (hName 0) (hCons (hName 1) (hCons (hName 2) hNil)))) fTrue f δ st) Q:=by
 obtain ⟨S,st1,e1,hS,k1⟩:=hi
 refine XaH (ps.map fun p=>.tup [p.1,p.2.1,p.2.2]) (fun i ys δ' st8=>(∃ v w x,δ'=v :: w :: x :: js.map fun j=>δ.getD j none)∧ys=(ps.take i).map h∧Ex [] st1 st8) ⟨S,st1,e1,fun i ys δ' st8 hi' hp=>hS i st8 hi' hp.2.2,⟨none,none,none,rfl⟩,rfl,Ex.refl⟩ (by rw [List.length_map];exact hl) ?_ ?_ ?_
 ·rintro i ys δ' st8 ⟨_,rfl,_⟩
  rw [List.length_map,List.length_take];omega
 ·rintro i d ys δ' st8 hd ⟨⟨v,w,x,rfl⟩,rfl,k8⟩
  rw [List.getElem?_map] at hd
  obtain ⟨p,hp,rfl⟩:=Option.map_eq_some_iff.mp hd
  obtain ⟨hlt,e⟩:=List.getElem?_eq_some_iff.mp hp
  refine ⟨[some p.1,some p.2.1,some p.2.2] ++ js.map fun j=>δ.getD j none,st8,rfl,?_⟩
  show Wp (fTrue _ _) _
  rw [YaB]
  refine ⟨fun _=>?_,fun h=>absurd h (by decide)⟩
  refine yab (step p (List.mem_of_getElem? hp) st8 (k1.trans k8)) ?_
  rintro y st9 ⟨rfl,k9⟩
  refine ⟨⟨_,_,_,rfl⟩,?_,k8.trans k9⟩
  rw [List.take_succ_eq_append_getElem hlt,List.map_append,e];rfl
 ·rintro ys δ' st8 ⟨_,rfl,k8⟩
  rw [List.length_map,List.take_length]
  exact fin st8 (k1.trans k8)
end L4
namespace L4
open PySem PySem.Spec L2
section
variable {K:PySem.W.Frag}
end
end L4
namespace L4
open PySem PySem.Spec L2
section
variable {K:PySem.W.Frag}
end
section
variable {st:Store} {Q:D→Store→Prop}
end
end L4
namespace L4
open PySem PySem.Spec L2
section
variable {K:PySem.W.Frag}
end
end L4
namespace L4
open PySem PySem.Spec L2
section
variable {K:PySem.W.Frag} {ρ:List Addr} {H:Hp} {st:Store}
end
section
variable {K:PySem.W.Frag}
end
section
variable {st:Store} {δ:DSt} {Q:D→Store→Prop}
end
end L4
namespace L4
open PySem PySem.Spec L2
section
variable {K:PySem.W.Frag}
end
section
variable {st:Store} {δ:DSt} {Q:D→Store→Prop}
end
end L4
namespace L4
open PySem PySem.Spec L2
section
variable {K:PySem.W.Frag} {ρ:List Addr} {H:Hp} {st:Store} {a:Addr} {i:Nat} {ho:HO} {o:O}
end
section
variable {K:PySem.W.Frag}
end
section
variable {st:Store} {δ:DSt}
end
end L4
namespace L4
open PySem PySem.Spec L2
noncomputable def raisedD (d:D) (st:Store):Bool:=match d with
 | .ref i=>match st[i]? with
  | some (.exc _ _)=>true
  | _=>false
 | _=>false
section
variable {K:PySem.W.Frag} {ρ ρ':List Addr} {H H' H2:Hp} {st st':Store} {a:Addr}
noncomputable def fIsX (ans:Str→Option Bool) (f:DSt→Dm D):DSt→Dm D:=fun δ st=>bnd (f δ st) fun d st1=>match d with
 | .ref i=>match st1[i]? with
  | some (.exc c _)=>match ans c with
   | some b=>some (.bl b,st1)
   | none=>none
  | _=>none
 | _=>none
theorem ya3 {dx:Option Addr} {fs:List (Str×D)} (h:Xd K ρ H dx fs):∀ d,dx=some d→∃ ws,H d=some (.xd ws):=fun d e=>by
 subst e;obtain ⟨ws,e,_⟩:=h;exact ⟨ws,e⟩
theorem xan {te:TE} {f:DSt→Dm D} {v:V} {cv:Value} {ans:Str→Option Bool} (hf:SoE K te f) (hv:clsV v=some cv)
  (h:∀ c C b,ans c=some b→PySem.W.nsIn K mainGlobals c=some (some (.ref C))→ExI K C∧PySem.W.kitOne K (.ref C) cv=some b):SoE K (tCB (rIsX K) (tCons te (tCons (tC v) tNil))) (fIsX ans f):=by
 intro ρ σ H δ st b st' Q l rs e q
 obtain ⟨d,st1,e1,e⟩:=Xaa e
 refine hf ρ σ H δ st d st1 _ l rs e1 fun x H1 ρ1 m1 l1 r1=>?_
 split at e
 ·split at e
  ·next c fs hj =>
   split at e
   ·next b0 hb =>
    cases e
    cases r1 with
    | ref hra =>
     obtain ⟨C,dx,tr,hn,ea,hx⟩:=l1.obj _ _ _ hra hj
     obtain ⟨ei,k⟩:=h c C b0 hb hn
     exact ⟨_,C,dx,tr,v,b0,rfl,ea,ya3 hx,ei,.inl ⟨cv,hv,k⟩,q _ H1 ρ1 m1 l1 (.bl b0)⟩
   ·cases e
  ·cases e
 ·cases e
noncomputable def sub1 (x:Str):Str→Bool:=fun c=>decide (c=x)
abbrev bmV:List Value:=[.type "ValueError",.type "Exception",.type "BaseException",.type "object"]
theorem xaB:bootBuiltins "ValueError" = some (.type "ValueError"):=by decide +kernel
noncomputable def IsXQ (ans:Str→Option Bool) (d:D) (st1:Store) (Q:D→Store→Prop):Prop:=∃ i c fs b,d=.ref i∧st1[i]?=some (.exc c fs)∧ans c=some b∧Q (.bl b) st1
theorem xau {f:DSt→Dm D} {δ:DSt} {st:Store} {ans:Str→Option Bool} {Q:D→Store→Prop}:Wp (fIsX ans f δ st) Q↔Wp (f δ st) fun d st1=>IsXQ ans d st1 Q:=by
 constructor
 ·rintro ⟨d,st',e,q⟩
  obtain ⟨x,st1,e1,e⟩:=Xaa e
  refine ⟨x,st1,e1,?_⟩
  split at e
  ·split at e
   ·next c fs hj =>
    split at e
    ·next b hb=>cases e;exact ⟨_,c,fs,b,rfl,hj,hb,q⟩
    ·cases e
   ·cases e
  ·cases e
 ·rintro ⟨x,st1,e1,i,c,fs,b,rfl,hj,hb,q⟩
  refine ⟨.bl b,st1,?_,q⟩
  unfold fIsX
  rw [e1]
  simp [bnd,hj,hb]
end
section
variable {st:Store} {δ:DSt} {N B C:DSt→Store→Prop} {R:D→Store→Prop} {f g:DSt→Dm Fl}
end
end L4
namespace L4
open PySem PySem.Spec L2
section
variable {K:PySem.W.Frag}
end
end L4
namespace L4
open PySem PySem.Spec L2
section
variable {K:PySem.W.Frag} {ρ ρ':List Addr} {H H' H2:Hp} {st st':Store} {a:Addr}
theorem Za3 {a b:Addr} {o u:HO} (n:a≠b):upd (upd H a o) b u=upd (upd H b u) a o:=by
 funext c
 unfold upd
 by_cases c1:c=b
 ·subst c1;rw [if_pos rfl,if_neg (Ne.symm n),if_pos rfl]
 ·rw [if_neg c1]
  by_cases c2:c=a
  ·rw [if_pos c2,if_pos c2]
  ·rw [if_neg c2,if_neg c2,if_neg c1]
theorem Rl.newX {C d:Addr} {c:Str} {fs:List (Str×D)} {ws:List (Str×V)} (l:Rl K ρ H st) (ha:H a=none) (hd:H d=none) (da:d≠a) (hc:PySem.W.nsIn K mainGlobals c=some (some (.ref C))) (hw:∀ f e,fs.lookup f=some e→∃ v,ws.lookup f=some v∧Rp K ρ H v e) :
  Rl K (ρ ++ [a]) (upd (upd H a (XO a C (some d) none)) d (.xd ws)) (st ++ [.exc c fs])∧Mn K ρ H (ρ ++ [a]) (upd (upd H a (XO a C (some d) none)) d (.xd ws)):=by
 rw [Za3 (Ne.symm da)]
 have m1:Mn K ρ H ρ (upd H d (.xd ws)):=Mn.same (Same.up hd)
 have l1:=l.same (Same.up (o:=.xd ws) hd)
 have ha1:upd H d (.xd ws) a=none:=by rw [zac (Ne.symm da)];exact ha
 have m2:Mn K ρ (upd H d (.xd ws)) (ρ ++ [a]) (upd (upd H d (.xd ws)) a (XO a C (some d) none)):=Mn.new ha1
 refine ⟨l1.new ha1 ⟨C,some d,none,hc,Xad,ws,by rw [zac da,Xad],fun f e h=>?_⟩,m1.trans m2⟩
 obtain ⟨v,h1,h2⟩:=hw f e h
 exact ⟨v,h1,h2.mn (m1.trans m2)⟩
noncomputable def fXGet (sub:Str→Bool) (f:Str) (fa:DSt→Dm D):DSt→Dm D:=fun δ st=>bnd (fa δ st) fun d st1=>match d with
 | .ref i=>match st1[i]? with
  | some (.exc c fs)=>if sub c=true then (match fs.lookup f with
   | some e=>some (e,st1)
   | none=>none) else none
  | _=>none
 | _=>none
theorem Yaw {te:TE} {fa:DSt→Dm D} {sub:Str→Bool} {f:Str} (ha:SoE K te fa) (h:∀ c C,sub c=true→PySem.W.nsIn K mainGlobals c=some (some (.ref C))→ExI K C∧PySem.W.findIn K (.ref C) f=some none):SoE K (tXg K te f) (fXGet sub f fa):=by
 intro ρ σ H δ st b st' Q l rs e q
 obtain ⟨d,st1,e1,e⟩:=Xaa e
 refine ha ρ σ H δ st d st1 _ l rs e1 fun x H1 ρ1 m1 l1 r1=>?_
 split at e
 ·split at e
  ·next c fs hj =>
   split at e
   ·next hs =>
    split at e
    ·next e0 he =>
     cases e
     cases r1 with
     | ref hra =>
      obtain ⟨C,dx,tr,hn,ea,hx⟩:=l1.obj _ _ _ hra hj
      obtain ⟨ei,hf⟩:=h c C hs hn
      cases dx with
      | none=>rw [show fs=[] from hx] at he;cases he
      | some dd =>
       obtain ⟨ws,ed,hw⟩:=hx
       obtain ⟨v,hv,rv⟩:=hw f _ he
       exact ⟨_,C,dd,tr,ws,v,rfl,ea,ed,hv,ei,hf,q v H1 ρ1 m1 l1 rv⟩
    ·cases e
   ·cases e
  ·cases e
 ·cases e
end
section
variable {st:Store} {δ:DSt} {N B C:DSt→Store→Prop} {R:D→Store→Prop}
noncomputable def XGetQ (sub:Str→Bool) (f:Str) (d:D) (st:Store) (Q:D→Store→Prop):Prop:=∃ i c fs e,d=.ref i∧st[i]?=some (.exc c fs)∧sub c=true∧fs.lookup f=some e∧Q e st
theorem xgetq {x f:Str} {i:Nat} {fs:List (Str×D)} {e:D} {Q:D→Store→Prop} (hi:st[i]?=some (.exc x fs)) (he:fs.lookup f=some e) (q:Q e st):XGetQ (sub1 x) f (.ref i) st Q:=⟨i,x,fs,e,rfl,hi,by unfold sub1;simp,he,q⟩
theorem xaw {sub:Str→Bool} {f:Str} {fa:DSt→Dm D} {Q:D→Store→Prop} (h:Wp (fa δ st) fun d s1=>XGetQ sub f d s1 Q):Wp (fXGet sub f fa δ st) Q:=by
 obtain ⟨d,s1,e,i,c,fs,x,rfl,hi,hs,hl,q⟩:=h
 refine ⟨x,s1,?_,q⟩
 unfold fXGet
 rw [e]
 simp [bnd,hi,hs,hl]
end
section
variable {K:PySem.W.Frag}
end
theorem Xar {K:PySem.W.Frag} {x:Str} {C0:Addr} {R:Addr→Prop} (hn:PySem.W.nsIn K mainGlobals x=some (some (.ref C0))) (k:R C0):∀ c C,sub1 x c=true→PySem.W.nsIn K mainGlobals c=some (some (.ref C))→R C:=fun c C h n=>by
 have e:c=x:=of_decide_eq_true h
 subst e
 rw [hn] at n;cases n;exact k
end L4
namespace L4
open PySem PySem.Spec L2
section
variable {K:PySem.W.Frag} {ρ:List Addr} {H:Hp} {st:Store}
noncomputable def fMake (c:Str) (fs:List Str) (fa:DSt→Dm (List D)):DSt→Dm D:=fun δ st=>bnd (fa δ st) fun ds st1=>some (.ref st1.length,st1 ++ [.exc c (fs.zip ds)])
theorem Ya3 {C:Addr} {c f1 f2:Str} {ta:TA} {fa:DSt→Dm (List D)} (ha:SoA K ta fa) (hn:∀ δ st as st',fa δ st=some (as,st')→as.length=2) (hc:PySem.W.nsIn K mainGlobals c=some (some (.ref C))) (es:ExS K C)
  (t1:PySem.W.takerIn K C f1=some none) (t2:PySem.W.takerIn K C f2=some none) (hne:(f1 == f2)=false):SoE K (tXMake C (spI2 K f1 f2) ta) (fMake c [f1,f2] fa):=by
 intro ρ σ H δ st b st' Q l rs e q
 obtain ⟨ds,st1,e1,e⟩:=Xaa e
 cases e
 refine ha ρ σ H δ st ds st1 _ l rs e1 fun vs H1 ρ1 m1 l1 r1=>?_
 have hl:=hn _ _ _ _ e1
 have hv:vs.length=2:=by rw [r1.length];exact hl
 match vs,ds,r1,hl,hv with
 | [v1,v2],[d1,d2],.cons a1 (.cons a2 .nil),_,_ =>
  refine ⟨(show 2≤10 by decide),fun a hna=>⟨a,C,none,v1,v2,rfl,Xad,es,t1,t2,fun d hd da=>⟨rfl,?_⟩⟩⟩
  have hd1:H1 d=none:=by rw [zac da] at hd;exact hd
  rw [ZaG]
  obtain ⟨l2,m2⟩:=l1.newX (c:=c) (C:=C) (fs:=[(f1,d1),(f2,d2)]) (ws:=[(f2,v2),(f1,v1)]) hna hd1 da hc fun f e h=>by
   simp only [List.lookup_cons,List.lookup_nil] at h ⊢
   by_cases z1:(f == f1)=true
   ·rw [z1] at h;cases h
    have z2:(f == f2)=false:=by rw [beq_iff_eq.mp z1];exact hne
    rw [z2,z1];exact ⟨v1,rfl,a1⟩
   ·have z1:(f == f1)=false:=by simpa using z1
    rw [z1] at h
    by_cases z2:(f == f2)=true
    ·rw [z2] at h;cases h;rw [z2];exact ⟨v2,rfl,a2⟩
    ·have z2:(f == f2)=false:=by simpa using z2
     rw [z2] at h;cases h
  exact q _ _ (ρ1 ++ [a]) (m1.trans m2) l2 (.ref (newR l1))
theorem XaB {C:Addr} {c f1:Str} {ta:TA} {fa:DSt→Dm (List D)} (ha:SoA K ta fa) (hn:∀ δ st as st',fa δ st=some (as,st')→as.length=1) (hc:PySem.W.nsIn K mainGlobals c=some (some (.ref C))) (es:ExS K C)
  (t1:PySem.W.takerIn K C f1=some none):SoE K (tXMake C (spI1 K f1) ta) (fMake c [f1] fa):=by
 intro ρ σ H δ st b st' Q l rs e q
 obtain ⟨ds,st1,e1,e⟩:=Xaa e
 cases e
 refine ha ρ σ H δ st ds st1 _ l rs e1 fun vs H1 ρ1 m1 l1 r1=>?_
 have hl:=hn _ _ _ _ e1
 have hv:vs.length=1:=by rw [r1.length];exact hl
 match vs,ds,r1,hl,hv with
 | [v1],[d1],.cons a1 .nil,_,_ =>
  refine ⟨(show 1≤10 by decide),fun a hna=>⟨a,C,none,v1,rfl,Xad,es,t1,fun d hd da=>⟨rfl,?_⟩⟩⟩
  have hd1:H1 d=none:=by rw [zac da] at hd;exact hd
  rw [ZaG]
  obtain ⟨l2,m2⟩:=l1.newX (c:=c) (C:=C) (fs:=[(f1,d1)]) (ws:=[(f1,v1)]) hna hd1 da hc fun f e h=>by
   simp only [List.lookup_cons,List.lookup_nil] at h ⊢
   by_cases z1:(f == f1)=true
   ·rw [z1] at h;cases h;rw [z1];exact ⟨v1,rfl,a1⟩
   ·have z1:(f == f1)=false:=by simpa using z1
    rw [z1] at h;cases h
  exact q _ _ (ρ1 ++ [a]) (m1.trans m2) l2 (.ref (newR l1))
noncomputable def fMake0 (c:Str):DSt→Dm D:=fun _ st=>some (.ref st.length,st ++ [.exc c []])
theorem zaC {C:Addr} {c:Str} (hc:PySem.W.nsIn K mainGlobals c=some (some (.ref C))):SoE K (tXMake0 C) (fMake0 c):=by
 intro ρ σ H δ st b st' Q l rs e q
 cases e
 intro a hna
 have m2:Mn K ρ H (ρ ++ [a]) (upd H a (XO a C none none)):=Mn.new hna
 exact q _ _ (ρ ++ [a]) m2 (l.new hna ⟨C,none,none,hc,Xad,rfl⟩) (.ref (newR l))
noncomputable def ansL (l:List (Str×Bool)):Str→Option Bool:=fun c=>l.lookup c
theorem zag {R:Addr→Bool→Prop}:∀ c C b,ansL [] c=some b→PySem.W.nsIn K mainGlobals c=some (some (.ref C))→R C b:=fun c C b h _=>by cases h
theorem zaa {x:Str} {C0:Addr} {b0:Bool} {l:List (Str×Bool)} {R:Addr→Bool→Prop} (hn:PySem.W.nsIn K mainGlobals x=some (some (.ref C0))) (k:R C0 b0) (r:∀ c C b,ansL l c=some b→PySem.W.nsIn K mainGlobals c=some (some (.ref C))→R C b) :
  ∀ c C b,ansL ((x,b0) :: l) c=some b→PySem.W.nsIn K mainGlobals c=some (some (.ref C))→R C b:=fun c C b h n=>by
 unfold ansL at h
 rw [List.lookup_cons] at h
 by_cases z:(c == x)=true
 ·rw [z] at h;cases h
  rw [beq_iff_eq.mp z,hn] at n;cases n;exact k
 ·have z:(c == x)=false:=by simpa using z
  rw [z] at h;exact r c C b h n
theorem isxL {l:List (Str×Bool)} {c:Str} {b:Bool} {i:Nat} {fs:List (Str×D)} {Q:D→Store→Prop} (hi:st[i]?=some (.exc c fs)) (hb:l.lookup c=some b) (q:Q (.bl b) st):IsXQ (ansL l) (.ref i) st Q:=⟨i,c,fs,b,rfl,hi,hb,q⟩
noncomputable def toM (st:Store) (d:D):Option PyData:=match toP st 20 d with
 | some p=>if p.canLay0=true then some p else none
 | none=>match d with
  | .ref i=>match st[i]? with
   | some (.dct [(.inr w,.int n)])=>some (.dict [(.str w,.int n)])
   | _=>none
  | _=>none
theorem YaW {v:V} {d:D} {p:PyData} (l:Rl K ρ H st) (r:Rp K ρ H v d) (h:toM st d=some p):Piece K H v p:=by
 unfold toM at h
 split at h
 ·next p' hp =>
  split at h
  ·next c=>cases h;exact .inl ⟨XaJ l 20 r hp,c⟩
  ·cases h
 ·split at h
  ·split at h
   ·next w n hj =>
    cases h
    cases r with
    | ref hra =>
     obtain ⟨ws,ea,rk⟩:=l.obj _ _ _ hra hj
     cases rk with
     | @cons x y xs ys hk kt =>
      cases kt
      obtain ⟨x1,x2⟩:=x
      obtain ⟨e1,r2⟩:=hk
      dsimp only at e1 r2
      subst e1
      cases r2
      exact .inr ⟨_,w,n,rfl,ea,rfl⟩
   ·cases h
  ·cases h
theorem Xaw (l:Rl K ρ H st):∀ {vs:List V} {ds:List D} {ps:List PyData},Rps K ρ H vs ds→mapO (toM st) ds=some ps→Paired (Piece K H) vs ps
 | _,_,_,.nil,h=>by cases h;exact .nil
 | _,_,_,.cons r1 r2,h=>by
  obtain ⟨b,t,h1,h2,rfl⟩:=xar h
  exact .cons (YaW l r1 h1) (Xaw l r2 h2)
noncomputable def gReprM:List D→Dm D
 | [.tup ds],st=>match mapO (toM st) ds with
  | some ps=>if (PyData.showableAll ps && decide ((PyData.shown (.tuple ps)).length≤sizeLine) && decide (PyData.depthAll ps≤60))=true then some (.str (PyData.shown (.tuple ps)),st) else none
  | none=>none
 | _,_=>none
theorem YaK:SoC K (rReprM K) gReprM:=by
 intro ρ H st xs as b st' Q l rx e q
 unfold gReprM at e
 split at e
 ·split at e
  ·next ps hp =>
   split at e
   ·next ok =>
    cases e
    rw [Bool.and_eq_true,Bool.and_eq_true,decide_eq_true_eq,decide_eq_true_eq] at ok
    obtain ⟨v,rfl,r⟩:=rx.one'
    cases r with
    | tup hq rr=>exact ⟨_,_,ps,rfl,hq,Xaw l rr hp,ok.1.1,ok.1.2,ok.2,q _ H ρ .refl l (.str _)⟩
   ·cases e
  ·cases e
 ·cases e
end
section
variable {st:Store} {δ:DSt} {Q:D→Store→Prop}
theorem xa3 {ds:List D} {ps:List PyData} (h:mapO (toM st) ds=some ps) (h1:PyData.showableAll ps=true) (h2:(PyData.shown (.tuple ps)).length≤sizeLine) (h3:PyData.depthAll ps≤60):Wp (gReprM [.tup ds] st) Q↔Q (.str (PyData.shown (.tuple ps))) st:=by
 have e:gReprM [.tup ds] st=some (.str (PyData.shown (.tuple ps)),st):=by
  simp only [gReprM,h,h1,decide_eq_true h2,decide_eq_true h3]
  rfl
 unfold Wp
 rw [e]
 exact ⟨fun ⟨_,_,z,q⟩=>by cases z;exact q,fun q=>⟨_,_,rfl,q⟩⟩
theorem xaW {c:Str} {fs:List Str} {fa:DSt→Dm (List D)}:Wp (fMake c fs fa δ st) Q↔Wp (fa δ st) fun ds s1=>Q (.ref s1.length) (s1 ++ [.exc c (fs.zip ds)]):=by
 unfold fMake
 rw [Xab]
 exact ⟨fun ⟨ds,s1,e,_,_,z,q⟩=>⟨ds,s1,e,by cases z;exact q⟩,fun ⟨ds,s1,e,q⟩=>⟨ds,s1,e,_,_,rfl,q⟩⟩
theorem xaK {c:Str}:Wp (fMake0 c δ st) Q↔Q (.ref st.length) (st ++ [.exc c []]):=Yaa
end
end L4
namespace My
open PySem L2 L4
noncomputable def top (i:Nat):Stmt:=PySem.Challenge.pw_shearfloor_k01_refusals.main.body.getD i (.Pass ⟨0,0,0,0⟩)
abbrev zax:List (Str×Bool):=[("NoText",false),("NoFloor",false),("NoTable",false),("NoSlope",true),("TooMany",false),("NoName",false),("NoRow",false)]
abbrev yax:List (Str×Bool):=[("NoText",false),("NoFloor",false),("NoTable",true),("NoSlope",false),("TooMany",false),("NoName",false),("NoRow",false)]
abbrev Xaq:List (Str×Bool):=[("NoText",false),("NoFloor",true),("NoTable",false),("NoSlope",false),("TooMany",false),("NoName",false),("NoRow",false)]
abbrev xas:List (Str×Bool):=[("NoText",true),("NoFloor",false),("NoTable",false),("NoSlope",false),("TooMany",false),("NoName",false),("NoRow",false)]
abbrev ZaF:List (Str×Bool):=[("NoText",false),("NoFloor",false),("NoTable",false),("NoSlope",false),("TooMany",false),("NoName",false),("NoRow",true)]
abbrev Xas:List (Str×Bool):=[("NoText",false),("NoFloor",false),("NoTable",false),("NoSlope",false),("TooMany",false),("NoName",true),("NoRow",false)]
abbrev zar:List (Str×Bool):=[("NoText",false),("NoFloor",false),("NoTable",false),("NoSlope",false),("TooMany",true),("NoName",false),("NoRow",false)]
abbrev yaq:List (Str×Bool):=[("NoText",true),("NoFloor",true),("NoTable",true),("NoSlope",true),("TooMany",true),("NoName",true),("NoRow",true)]
abbrev Zaq:List (Str×Bool):=[("NoText",true),("NoFloor",true),("NoTable",true),("NoSlope",true),("TooMany",true),("NoName",true),("NoRow",true)]
structure Txt (mg:Str→Option Value):Prop where
 n_ValueError:mg "ValueError" = none
 n_all:mg "all" = none
 n_isinstance:mg "isinstance" = none
 n_len:mg "len" = none
 n_range:mg "range" = none
 n_repr:mg "repr" = none
noncomputable def Zak:Stmt:=match top 2 with
 | .ClassDef _ _ _ b _ _ _ _ _ _ _=>b.getD 0 (.Pass ⟨0,0,0,0⟩)
 | _=>.Pass ⟨0,0,0,0⟩
theorem Zay:FnScope ["self","row"] ["self","row"] (defScope Zak):=⟨rfl,rfl,rfl,by decide +kernel,rfl,by decide +kernel,by decide +kernel⟩
noncomputable def yai:Stmt:=match top 3 with
 | .ClassDef _ _ _ b _ _ _ _ _ _ _=>b.getD 0 (.Pass ⟨0,0,0,0⟩)
 | _=>.Pass ⟨0,0,0,0⟩
theorem Zax:FnScope ["self","word","at"] ["self","word","at"] (defScope yai):=⟨rfl,rfl,rfl,by decide +kernel,rfl,by decide +kernel,by decide +kernel⟩
noncomputable def Zai:Stmt:=match top 6 with
 | .ClassDef _ _ _ b _ _ _ _ _ _ _=>b.getD 0 (.Pass ⟨0,0,0,0⟩)
 | _=>.Pass ⟨0,0,0,0⟩
theorem Yax:FnScope ["self","most"] ["self","most"] (defScope Zai):=⟨rfl,rfl,rfl,by decide +kernel,rfl,by decide +kernel,by decide +kernel⟩
noncomputable def Yak:Stmt:=match top 7 with
 | .ClassDef _ _ _ b _ _ _ _ _ _ _=>b.getD 0 (.Pass ⟨0,0,0,0⟩)
 | _=>.Pass ⟨0,0,0,0⟩
theorem Yay:FnScope ["self","name"] ["self","name"] (defScope Yak):=⟨rfl,rfl,rfl,by decide +kernel,rfl,by decide +kernel,by decide +kernel⟩
structure XF (K:PySem.W.Frag) (mg:Str→Option Value) (cNoText cNoFloor cNoTable cNoSlope cTooMany cNoName cNoRow cFloorError cI_NoText cI_NoFloor cI_TooMany cI_NoName:Addr):Prop where
 m_NoText:mg "NoText" = some (.ref cNoText)
 m_NoFloor:mg "NoFloor" = some (.ref cNoFloor)
 m_NoTable:mg "NoTable" = some (.ref cNoTable)
 m_NoSlope:mg "NoSlope" = some (.ref cNoSlope)
 m_TooMany:mg "TooMany" = some (.ref cTooMany)
 m_NoName:mg "NoName" = some (.ref cNoName)
 m_NoRow:mg "NoRow" = some (.ref cNoRow)
 m_FloorError:mg "FloorError" = some (.ref cFloorError)
 n_NoText:PySem.W.nsIn K mainGlobals "NoText" = some (some (.ref cNoText))
 n_NoFloor:PySem.W.nsIn K mainGlobals "NoFloor" = some (some (.ref cNoFloor))
 n_NoTable:PySem.W.nsIn K mainGlobals "NoTable" = some (some (.ref cNoTable))
 n_NoSlope:PySem.W.nsIn K mainGlobals "NoSlope" = some (some (.ref cNoSlope))
 n_TooMany:PySem.W.nsIn K mainGlobals "TooMany" = some (some (.ref cTooMany))
 n_NoName:PySem.W.nsIn K mainGlobals "NoName" = some (some (.ref cNoName))
 n_NoRow:PySem.W.nsIn K mainGlobals "NoRow" = some (some (.ref cNoRow))
 n_FloorError:PySem.W.nsIn K mainGlobals "FloorError" = some (some (.ref cFloorError))
 n_init_NoText:PySem.W.findIn K (.ref cNoText) "__init__" = some (some (.ref cI_NoText))
 n_init_NoFloor:PySem.W.findIn K (.ref cNoFloor) "__init__" = some (some (.ref cI_NoFloor))
 n_init_TooMany:PySem.W.findIn K (.ref cTooMany) "__init__" = some (some (.ref cI_TooMany))
 n_init_NoName:PySem.W.findIn K (.ref cNoName) "__init__" = some (some (.ref cI_NoName))
 kp_NoText:PySem.W.keepIn K (.ref cNoText)=true
 k_NoText_NoSlope:PySem.W.kitOne K (.ref cNoText) (.ref cNoSlope)=some false
 k_NoText_NoTable:PySem.W.kitOne K (.ref cNoText) (.ref cNoTable)=some false
 k_NoText_NoFloor:PySem.W.kitOne K (.ref cNoText) (.ref cNoFloor)=some false
 k_NoText_NoText:PySem.W.kitOne K (.ref cNoText) (.ref cNoText)=some true
 k_NoText_NoRow:PySem.W.kitOne K (.ref cNoText) (.ref cNoRow)=some false
 k_NoText_NoName:PySem.W.kitOne K (.ref cNoText) (.ref cNoName)=some false
 k_NoText_TooMany:PySem.W.kitOne K (.ref cNoText) (.ref cTooMany)=some false
 k_NoText_FloorError:PySem.W.kitOne K (.ref cNoText) (.ref cFloorError)=some true
 k_NoText_ValueError:PySem.W.kitOne K (.ref cNoText) (.type "ValueError")=some true
 xi_NoText:excInI K cNoText bmV "ValueError.__new__" cI_NoText=true
 fn_NoText:PySem.W.isFn K (.ref cI_NoText)=true
 t_NoText_row:PySem.W.takerIn K cNoText "row" = some none
 f_NoText_row:PySem.W.findIn K (.ref cNoText) "row" = some none
 kp_NoFloor:PySem.W.keepIn K (.ref cNoFloor)=true
 k_NoFloor_NoSlope:PySem.W.kitOne K (.ref cNoFloor) (.ref cNoSlope)=some false
 k_NoFloor_NoTable:PySem.W.kitOne K (.ref cNoFloor) (.ref cNoTable)=some false
 k_NoFloor_NoFloor:PySem.W.kitOne K (.ref cNoFloor) (.ref cNoFloor)=some true
 k_NoFloor_NoText:PySem.W.kitOne K (.ref cNoFloor) (.ref cNoText)=some false
 k_NoFloor_NoRow:PySem.W.kitOne K (.ref cNoFloor) (.ref cNoRow)=some false
 k_NoFloor_NoName:PySem.W.kitOne K (.ref cNoFloor) (.ref cNoName)=some false
 k_NoFloor_TooMany:PySem.W.kitOne K (.ref cNoFloor) (.ref cTooMany)=some false
 k_NoFloor_FloorError:PySem.W.kitOne K (.ref cNoFloor) (.ref cFloorError)=some true
 k_NoFloor_ValueError:PySem.W.kitOne K (.ref cNoFloor) (.type "ValueError")=some true
 xi_NoFloor:excInI K cNoFloor bmV "ValueError.__new__" cI_NoFloor=true
 fn_NoFloor:PySem.W.isFn K (.ref cI_NoFloor)=true
 t_NoFloor_word:PySem.W.takerIn K cNoFloor "word" = some none
 t_NoFloor_at:PySem.W.takerIn K cNoFloor "at" = some none
 f_NoFloor_word:PySem.W.findIn K (.ref cNoFloor) "word" = some none
 f_NoFloor_at:PySem.W.findIn K (.ref cNoFloor) "at" = some none
 kp_NoTable:PySem.W.keepIn K (.ref cNoTable)=true
 k_NoTable_NoSlope:PySem.W.kitOne K (.ref cNoTable) (.ref cNoSlope)=some false
 k_NoTable_NoTable:PySem.W.kitOne K (.ref cNoTable) (.ref cNoTable)=some true
 k_NoTable_NoFloor:PySem.W.kitOne K (.ref cNoTable) (.ref cNoFloor)=some false
 k_NoTable_NoText:PySem.W.kitOne K (.ref cNoTable) (.ref cNoText)=some false
 k_NoTable_NoRow:PySem.W.kitOne K (.ref cNoTable) (.ref cNoRow)=some false
 k_NoTable_NoName:PySem.W.kitOne K (.ref cNoTable) (.ref cNoName)=some false
 k_NoTable_TooMany:PySem.W.kitOne K (.ref cNoTable) (.ref cTooMany)=some false
 k_NoTable_FloorError:PySem.W.kitOne K (.ref cNoTable) (.ref cFloorError)=some true
 k_NoTable_ValueError:PySem.W.kitOne K (.ref cNoTable) (.type "ValueError")=some true
 x_NoTable:PySem.W.excIn K cNoTable bmV "ValueError.__new__" = true
 kp_NoSlope:PySem.W.keepIn K (.ref cNoSlope)=true
 k_NoSlope_NoSlope:PySem.W.kitOne K (.ref cNoSlope) (.ref cNoSlope)=some true
 k_NoSlope_NoTable:PySem.W.kitOne K (.ref cNoSlope) (.ref cNoTable)=some false
 k_NoSlope_NoFloor:PySem.W.kitOne K (.ref cNoSlope) (.ref cNoFloor)=some false
 k_NoSlope_NoText:PySem.W.kitOne K (.ref cNoSlope) (.ref cNoText)=some false
 k_NoSlope_NoRow:PySem.W.kitOne K (.ref cNoSlope) (.ref cNoRow)=some false
 k_NoSlope_NoName:PySem.W.kitOne K (.ref cNoSlope) (.ref cNoName)=some false
 k_NoSlope_TooMany:PySem.W.kitOne K (.ref cNoSlope) (.ref cTooMany)=some false
 k_NoSlope_FloorError:PySem.W.kitOne K (.ref cNoSlope) (.ref cFloorError)=some true
 k_NoSlope_ValueError:PySem.W.kitOne K (.ref cNoSlope) (.type "ValueError")=some true
 x_NoSlope:PySem.W.excIn K cNoSlope bmV "ValueError.__new__" = true
 kp_TooMany:PySem.W.keepIn K (.ref cTooMany)=true
 k_TooMany_NoSlope:PySem.W.kitOne K (.ref cTooMany) (.ref cNoSlope)=some false
 k_TooMany_NoTable:PySem.W.kitOne K (.ref cTooMany) (.ref cNoTable)=some false
 k_TooMany_NoFloor:PySem.W.kitOne K (.ref cTooMany) (.ref cNoFloor)=some false
 k_TooMany_NoText:PySem.W.kitOne K (.ref cTooMany) (.ref cNoText)=some false
 k_TooMany_NoRow:PySem.W.kitOne K (.ref cTooMany) (.ref cNoRow)=some false
 k_TooMany_NoName:PySem.W.kitOne K (.ref cTooMany) (.ref cNoName)=some false
 k_TooMany_TooMany:PySem.W.kitOne K (.ref cTooMany) (.ref cTooMany)=some true
 k_TooMany_FloorError:PySem.W.kitOne K (.ref cTooMany) (.ref cFloorError)=some true
 k_TooMany_ValueError:PySem.W.kitOne K (.ref cTooMany) (.type "ValueError")=some true
 xi_TooMany:excInI K cTooMany bmV "ValueError.__new__" cI_TooMany=true
 fn_TooMany:PySem.W.isFn K (.ref cI_TooMany)=true
 t_TooMany_most:PySem.W.takerIn K cTooMany "most" = some none
 f_TooMany_most:PySem.W.findIn K (.ref cTooMany) "most" = some none
 kp_NoName:PySem.W.keepIn K (.ref cNoName)=true
 k_NoName_NoSlope:PySem.W.kitOne K (.ref cNoName) (.ref cNoSlope)=some false
 k_NoName_NoTable:PySem.W.kitOne K (.ref cNoName) (.ref cNoTable)=some false
 k_NoName_NoFloor:PySem.W.kitOne K (.ref cNoName) (.ref cNoFloor)=some false
 k_NoName_NoText:PySem.W.kitOne K (.ref cNoName) (.ref cNoText)=some false
 k_NoName_NoRow:PySem.W.kitOne K (.ref cNoName) (.ref cNoRow)=some false
 k_NoName_NoName:PySem.W.kitOne K (.ref cNoName) (.ref cNoName)=some true
 k_NoName_TooMany:PySem.W.kitOne K (.ref cNoName) (.ref cTooMany)=some false
 k_NoName_FloorError:PySem.W.kitOne K (.ref cNoName) (.ref cFloorError)=some true
 k_NoName_ValueError:PySem.W.kitOne K (.ref cNoName) (.type "ValueError")=some true
 xi_NoName:excInI K cNoName bmV "ValueError.__new__" cI_NoName=true
 fn_NoName:PySem.W.isFn K (.ref cI_NoName)=true
 t_NoName_name:PySem.W.takerIn K cNoName "name" = some none
 f_NoName_name:PySem.W.findIn K (.ref cNoName) "name" = some none
 kp_NoRow:PySem.W.keepIn K (.ref cNoRow)=true
 k_NoRow_NoSlope:PySem.W.kitOne K (.ref cNoRow) (.ref cNoSlope)=some false
 k_NoRow_NoTable:PySem.W.kitOne K (.ref cNoRow) (.ref cNoTable)=some false
 k_NoRow_NoFloor:PySem.W.kitOne K (.ref cNoRow) (.ref cNoFloor)=some false
 k_NoRow_NoText:PySem.W.kitOne K (.ref cNoRow) (.ref cNoText)=some false
 k_NoRow_NoRow:PySem.W.kitOne K (.ref cNoRow) (.ref cNoRow)=some true
 k_NoRow_NoName:PySem.W.kitOne K (.ref cNoRow) (.ref cNoName)=some false
 k_NoRow_TooMany:PySem.W.kitOne K (.ref cNoRow) (.ref cTooMany)=some false
 k_NoRow_FloorError:PySem.W.kitOne K (.ref cNoRow) (.ref cFloorError)=some true
 k_NoRow_ValueError:PySem.W.kitOne K (.ref cNoRow) (.type "ValueError")=some true
 x_NoRow:PySem.W.excIn K cNoRow bmV "ValueError.__new__" = true
 i_NoText:ExI K cNoText
 es_NoText:ExS K cNoText
 I_NoText:∃ dI,Fun K "__init__" "NoText.__init__" Zak cI_NoText dI∧Binds K dI ["self","row"] []
 i_NoFloor:ExI K cNoFloor
 es_NoFloor:ExS K cNoFloor
 I_NoFloor:∃ dI,Fun K "__init__" "NoFloor.__init__" yai cI_NoFloor dI∧Binds K dI ["self","word","at"] []
 i_NoTable:ExI K cNoTable
 i_NoSlope:ExI K cNoSlope
 i_TooMany:ExI K cTooMany
 es_TooMany:ExS K cTooMany
 I_TooMany:∃ dI,Fun K "__init__" "TooMany.__init__" Zai cI_TooMany dI∧Binds K dI ["self","most"] []
 i_NoName:ExI K cNoName
 es_NoName:ExS K cNoName
 I_NoName:∃ dI,Fun K "__init__" "NoName.__init__" Yak cI_NoName dI∧Binds K dI ["self","name"] []
 i_NoRow:ExI K cNoRow
theorem xf_mk {K:PySem.W.Frag} {mg:Str→Option Value} {h:Heap} {cNoText cNoFloor cNoTable cNoSlope cTooMany cNoName cNoRow cFloorError cI_NoText cI_NoFloor cI_TooMany cI_NoName:Addr} (KX:K.In h) (G:h.Ns mainGlobals mg) (n_NoText:PySem.W.nsIn K mainGlobals "NoText" = some (some (.ref cNoText))) (n_NoFloor:PySem.W.nsIn K mainGlobals "NoFloor" = some (some (.ref cNoFloor))) (n_NoTable:PySem.W.nsIn K mainGlobals "NoTable" = some (some (.ref cNoTable))) (n_NoSlope:PySem.W.nsIn K mainGlobals "NoSlope" = some (some (.ref cNoSlope))) (n_TooMany:PySem.W.nsIn K mainGlobals "TooMany" = some (some (.ref cTooMany))) (n_NoName:PySem.W.nsIn K mainGlobals "NoName" = some (some (.ref cNoName))) (n_NoRow:PySem.W.nsIn K mainGlobals "NoRow" = some (some (.ref cNoRow))) (n_FloorError:PySem.W.nsIn K mainGlobals "FloorError" = some (some (.ref cFloorError))) (n_init_NoText:PySem.W.findIn K (.ref cNoText) "__init__" = some (some (.ref cI_NoText))) (n_init_NoFloor:PySem.W.findIn K (.ref cNoFloor) "__init__" = some (some (.ref cI_NoFloor))) (n_init_TooMany:PySem.W.findIn K (.ref cTooMany) "__init__" = some (some (.ref cI_TooMany))) (n_init_NoName:PySem.W.findIn K (.ref cNoName) "__init__" = some (some (.ref cI_NoName))) (kp_NoText:PySem.W.keepIn K (.ref cNoText)=true) (k_NoText_NoSlope:PySem.W.kitOne K (.ref cNoText) (.ref cNoSlope)=some false) (k_NoText_NoTable:PySem.W.kitOne K (.ref cNoText) (.ref cNoTable)=some false) (k_NoText_NoFloor:PySem.W.kitOne K (.ref cNoText) (.ref cNoFloor)=some false) (k_NoText_NoText:PySem.W.kitOne K (.ref cNoText) (.ref cNoText)=some true) (k_NoText_NoRow:PySem.W.kitOne K (.ref cNoText) (.ref cNoRow)=some false) (k_NoText_NoName:PySem.W.kitOne K (.ref cNoText) (.ref cNoName)=some false) (k_NoText_TooMany:PySem.W.kitOne K (.ref cNoText) (.ref cTooMany)=some false) (k_NoText_FloorError:PySem.W.kitOne K (.ref cNoText) (.ref cFloorError)=some true) (k_NoText_ValueError:PySem.W.kitOne K (.ref cNoText) (.type "ValueError")=some true) (xi_NoText:excInI K cNoText bmV "ValueError.__new__" cI_NoText=true) (fn_NoText:PySem.W.isFn K (.ref cI_NoText)=true) (t_NoText_row:PySem.W.takerIn K cNoText "row" = some none) (f_NoText_row:PySem.W.findIn K (.ref cNoText) "row" = some none) (kp_NoFloor:PySem.W.keepIn K (.ref cNoFloor)=true) (k_NoFloor_NoSlope:PySem.W.kitOne K (.ref cNoFloor) (.ref cNoSlope)=some false) (k_NoFloor_NoTable:PySem.W.kitOne K (.ref cNoFloor) (.ref cNoTable)=some false) (k_NoFloor_NoFloor:PySem.W.kitOne K (.ref cNoFloor) (.ref cNoFloor)=some true) (k_NoFloor_NoText:PySem.W.kitOne K (.ref cNoFloor) (.ref cNoText)=some false) (k_NoFloor_NoRow:PySem.W.kitOne K (.ref cNoFloor) (.ref cNoRow)=some false) (k_NoFloor_NoName:PySem.W.kitOne K (.ref cNoFloor) (.ref cNoName)=some false) (k_NoFloor_TooMany:PySem.W.kitOne K (.ref cNoFloor) (.ref cTooMany)=some false) (k_NoFloor_FloorError:PySem.W.kitOne K (.ref cNoFloor) (.ref cFloorError)=some true) (k_NoFloor_ValueError:PySem.W.kitOne K (.ref cNoFloor) (.type "ValueError")=some true) (xi_NoFloor:excInI K cNoFloor bmV "ValueError.__new__" cI_NoFloor=true) (fn_NoFloor:PySem.W.isFn K (.ref cI_NoFloor)=true) (t_NoFloor_word:PySem.W.takerIn K cNoFloor "word" = some none) (t_NoFloor_at:PySem.W.takerIn K cNoFloor "at" = some none) (f_NoFloor_word:PySem.W.findIn K (.ref cNoFloor) "word" = some none) (f_NoFloor_at:PySem.W.findIn K (.ref cNoFloor) "at" = some none) (kp_NoTable:PySem.W.keepIn K (.ref cNoTable)=true) (k_NoTable_NoSlope:PySem.W.kitOne K (.ref cNoTable) (.ref cNoSlope)=some false) (k_NoTable_NoTable:PySem.W.kitOne K (.ref cNoTable) (.ref cNoTable)=some true) (k_NoTable_NoFloor:PySem.W.kitOne K (.ref cNoTable) (.ref cNoFloor)=some false) (k_NoTable_NoText:PySem.W.kitOne K (.ref cNoTable) (.ref cNoText)=some false) (k_NoTable_NoRow:PySem.W.kitOne K (.ref cNoTable) (.ref cNoRow)=some false) (k_NoTable_NoName:PySem.W.kitOne K (.ref cNoTable) (.ref cNoName)=some false) (k_NoTable_TooMany:PySem.W.kitOne K (.ref cNoTable) (.ref cTooMany)=some false) (k_NoTable_FloorError:PySem.W.kitOne K (.ref cNoTable) (.ref cFloorError)=some true) (k_NoTable_ValueError:PySem.W.kitOne K (.ref cNoTable) (.type "ValueError")=some true) (x_NoTable:PySem.W.excIn K cNoTable bmV "ValueError.__new__" = true) (kp_NoSlope:PySem.W.keepIn K (.ref cNoSlope)=true) (k_NoSlope_NoSlope:PySem.W.kitOne K (.ref cNoSlope) (.ref cNoSlope)=some true) (k_NoSlope_NoTable:PySem.W.kitOne K (.ref cNoSlope) (.ref cNoTable)=some false) (k_NoSlope_NoFloor:PySem.W.kitOne K (.ref cNoSlope) (.ref cNoFloor)=some false) (k_NoSlope_NoText:PySem.W.kitOne K (.ref cNoSlope) (.ref cNoText)=some false) (k_NoSlope_NoRow:PySem.W.kitOne K (.ref cNoSlope) (.ref cNoRow)=some false) (k_NoSlope_NoName:PySem.W.kitOne K (.ref cNoSlope) (.ref cNoName)=some false) (k_NoSlope_TooMany:PySem.W.kitOne K (.ref cNoSlope) (.ref cTooMany)=some false) (k_NoSlope_FloorError:PySem.W.kitOne K (.ref cNoSlope) (.ref cFloorError)=some true) (k_NoSlope_ValueError:PySem.W.kitOne K (.ref cNoSlope) (.type "ValueError")=some true) (x_NoSlope:PySem.W.excIn K cNoSlope bmV "ValueError.__new__" = true) (kp_TooMany:PySem.W.keepIn K (.ref cTooMany)=true) (k_TooMany_NoSlope:PySem.W.kitOne K (.ref cTooMany) (.ref cNoSlope)=some false) (k_TooMany_NoTable:PySem.W.kitOne K (.ref cTooMany) (.ref cNoTable)=some false) (k_TooMany_NoFloor:PySem.W.kitOne K (.ref cTooMany) (.ref cNoFloor)=some false) (k_TooMany_NoText:PySem.W.kitOne K (.ref cTooMany) (.ref cNoText)=some false) (k_TooMany_NoRow:PySem.W.kitOne K (.ref cTooMany) (.ref cNoRow)=some false) (k_TooMany_NoName:PySem.W.kitOne K (.ref cTooMany) (.ref cNoName)=some false) (k_TooMany_TooMany:PySem.W.kitOne K (.ref cTooMany) (.ref cTooMany)=some true) (k_TooMany_FloorError:PySem.W.kitOne K (.ref cTooMany) (.ref cFloorError)=some true) (k_TooMany_ValueError:PySem.W.kitOne K (.ref cTooMany) (.type "ValueError")=some true) (xi_TooMany:excInI K cTooMany bmV "ValueError.__new__" cI_TooMany=true) (fn_TooMany:PySem.W.isFn K (.ref cI_TooMany)=true) (t_TooMany_most:PySem.W.takerIn K cTooMany "most" = some none) (f_TooMany_most:PySem.W.findIn K (.ref cTooMany) "most" = some none) (kp_NoName:PySem.W.keepIn K (.ref cNoName)=true) (k_NoName_NoSlope:PySem.W.kitOne K (.ref cNoName) (.ref cNoSlope)=some false) (k_NoName_NoTable:PySem.W.kitOne K (.ref cNoName) (.ref cNoTable)=some false) (k_NoName_NoFloor:PySem.W.kitOne K (.ref cNoName) (.ref cNoFloor)=some false) (k_NoName_NoText:PySem.W.kitOne K (.ref cNoName) (.ref cNoText)=some false) (k_NoName_NoRow:PySem.W.kitOne K (.ref cNoName) (.ref cNoRow)=some false) (k_NoName_NoName:PySem.W.kitOne K (.ref cNoName) (.ref cNoName)=some true) (k_NoName_TooMany:PySem.W.kitOne K (.ref cNoName) (.ref cTooMany)=some false) (k_NoName_FloorError:PySem.W.kitOne K (.ref cNoName) (.ref cFloorError)=some true) (k_NoName_ValueError:PySem.W.kitOne K (.ref cNoName) (.type "ValueError")=some true) (xi_NoName:excInI K cNoName bmV "ValueError.__new__" cI_NoName=true) (fn_NoName:PySem.W.isFn K (.ref cI_NoName)=true) (t_NoName_name:PySem.W.takerIn K cNoName "name" = some none) (f_NoName_name:PySem.W.findIn K (.ref cNoName) "name" = some none) (kp_NoRow:PySem.W.keepIn K (.ref cNoRow)=true) (k_NoRow_NoSlope:PySem.W.kitOne K (.ref cNoRow) (.ref cNoSlope)=some false) (k_NoRow_NoTable:PySem.W.kitOne K (.ref cNoRow) (.ref cNoTable)=some false) (k_NoRow_NoFloor:PySem.W.kitOne K (.ref cNoRow) (.ref cNoFloor)=some false) (k_NoRow_NoText:PySem.W.kitOne K (.ref cNoRow) (.ref cNoText)=some false) (k_NoRow_NoRow:PySem.W.kitOne K (.ref cNoRow) (.ref cNoRow)=some true) (k_NoRow_NoName:PySem.W.kitOne K (.ref cNoRow) (.ref cNoName)=some false) (k_NoRow_TooMany:PySem.W.kitOne K (.ref cNoRow) (.ref cTooMany)=some false) (k_NoRow_FloorError:PySem.W.kitOne K (.ref cNoRow) (.ref cFloorError)=some true) (k_NoRow_ValueError:PySem.W.kitOne K (.ref cNoRow) (.type "ValueError")=some true) (x_NoRow:PySem.W.excIn K cNoRow bmV "ValueError.__new__" = true) (i_NoText:ExI K cNoText) (es_NoText:ExS K cNoText) (I_NoText:∃ dI,Fun K "__init__" "NoText.__init__" Zak cI_NoText dI∧Binds K dI ["self","row"] []) (i_NoFloor:ExI K cNoFloor) (es_NoFloor:ExS K cNoFloor) (I_NoFloor:∃ dI,Fun K "__init__" "NoFloor.__init__" yai cI_NoFloor dI∧Binds K dI ["self","word","at"] []) (i_NoTable:ExI K cNoTable) (i_NoSlope:ExI K cNoSlope) (i_TooMany:ExI K cTooMany) (es_TooMany:ExS K cTooMany) (I_TooMany:∃ dI,Fun K "__init__" "TooMany.__init__" Zai cI_TooMany dI∧Binds K dI ["self","most"] []) (i_NoName:ExI K cNoName) (es_NoName:ExS K cNoName) (I_NoName:∃ dI,Fun K "__init__" "NoName.__init__" Yak cI_NoName dI∧Binds K dI ["self","name"] []) (i_NoRow:ExI K cNoRow):XF K mg cNoText cNoFloor cNoTable cNoSlope cTooMany cNoName cNoRow cFloorError cI_NoText cI_NoFloor cI_TooMany cI_NoName :=
 ⟨PySem.W.mg_of KX G n_NoText,PySem.W.mg_of KX G n_NoFloor,PySem.W.mg_of KX G n_NoTable,PySem.W.mg_of KX G n_NoSlope,PySem.W.mg_of KX G n_TooMany,PySem.W.mg_of KX G n_NoName,PySem.W.mg_of KX G n_NoRow,PySem.W.mg_of KX G n_FloorError,n_NoText,n_NoFloor,n_NoTable,n_NoSlope,n_TooMany,n_NoName,n_NoRow,n_FloorError,n_init_NoText,n_init_NoFloor,n_init_TooMany,n_init_NoName,kp_NoText,k_NoText_NoSlope,k_NoText_NoTable,k_NoText_NoFloor,k_NoText_NoText,k_NoText_NoRow,k_NoText_NoName,k_NoText_TooMany,k_NoText_FloorError,k_NoText_ValueError,xi_NoText,fn_NoText,t_NoText_row,f_NoText_row,kp_NoFloor,k_NoFloor_NoSlope,k_NoFloor_NoTable,k_NoFloor_NoFloor,k_NoFloor_NoText,k_NoFloor_NoRow,k_NoFloor_NoName,k_NoFloor_TooMany,k_NoFloor_FloorError,k_NoFloor_ValueError,xi_NoFloor,fn_NoFloor,t_NoFloor_word,t_NoFloor_at,f_NoFloor_word,f_NoFloor_at,kp_NoTable,k_NoTable_NoSlope,k_NoTable_NoTable,k_NoTable_NoFloor,k_NoTable_NoText,k_NoTable_NoRow,k_NoTable_NoName,k_NoTable_TooMany,k_NoTable_FloorError,k_NoTable_ValueError,x_NoTable,kp_NoSlope,k_NoSlope_NoSlope,k_NoSlope_NoTable,k_NoSlope_NoFloor,k_NoSlope_NoText,k_NoSlope_NoRow,k_NoSlope_NoName,k_NoSlope_TooMany,k_NoSlope_FloorError,k_NoSlope_ValueError,x_NoSlope,kp_TooMany,k_TooMany_NoSlope,k_TooMany_NoTable,k_TooMany_NoFloor,k_TooMany_NoText,k_TooMany_NoRow,k_TooMany_NoName,k_TooMany_TooMany,k_TooMany_FloorError,k_TooMany_ValueError,xi_TooMany,fn_TooMany,t_TooMany_most,f_TooMany_most,kp_NoName,k_NoName_NoSlope,k_NoName_NoTable,k_NoName_NoFloor,k_NoName_NoText,k_NoName_NoRow,k_NoName_NoName,k_NoName_TooMany,k_NoName_FloorError,k_NoName_ValueError,xi_NoName,fn_NoName,t_NoName_name,f_NoName_name,kp_NoRow,k_NoRow_NoSlope,k_NoRow_NoTable,k_NoRow_NoFloor,k_NoRow_NoText,k_NoRow_NoRow,k_NoRow_NoName,k_NoRow_TooMany,k_NoRow_FloorError,k_NoRow_ValueError,x_NoRow,i_NoText,es_NoText,I_NoText,i_NoFloor,es_NoFloor,I_NoFloor,i_NoTable,i_NoSlope,i_TooMany,es_TooMany,I_TooMany,i_NoName,es_NoName,I_NoName,i_NoRow⟩
theorem xay {P:Program} {w:World} {K:PySem.W.Frag} {mg:Str→Option Value} {base:Heap} {cI:Addr} {dI:FuncData} (I:Fun K "__init__" "NoText.__init__" Zak cI dI):FnOk P w K mg base CX0 1 cI dI ["self","row"] (spI1 K "row"):=by
 exact I.ok Zay (fun vs H Q E h=>xaA h) (fun cdv A outer s H vs Q E hr h=>⟨_,(xad (Xav (pv 0) (pv 1) rfl)),Zas h⟩)
theorem xax {P:Program} {w:World} {K:PySem.W.Frag} {mg:Str→Option Value} {base:Heap} {cI:Addr} {dI:FuncData} (I:Fun K "__init__" "NoFloor.__init__" yai cI dI):FnOk P w K mg base CX0 1 cI dI ["self","word","at"] (spI2 K "word" "at"):=by
 exact I.ok Zax (fun vs H Q E h=>xaZ h) (fun cdv A outer s H vs Q E hr h=>⟨_,(Yac (Xav (pv 0) (pv 1) rfl) (xad (Xav (pv 0) (pv 2) rfl))),zaM h⟩)
theorem Xax {P:Program} {w:World} {K:PySem.W.Frag} {mg:Str→Option Value} {base:Heap} {cI:Addr} {dI:FuncData} (I:Fun K "__init__" "TooMany.__init__" Zai cI dI):FnOk P w K mg base CX0 1 cI dI ["self","most"] (spI1 K "most"):=by
 exact I.ok Yax (fun vs H Q E h=>xaA h) (fun cdv A outer s H vs Q E hr h=>⟨_,(xad (Xav (pv 0) (pv 1) rfl)),Zas h⟩)
theorem Xay {P:Program} {w:World} {K:PySem.W.Frag} {mg:Str→Option Value} {base:Heap} {cI:Addr} {dI:FuncData} (I:Fun K "__init__" "NoName.__init__" Yak cI dI):FnOk P w K mg base CX0 1 cI dI ["self","name"] (spI1 K "name"):=by
 exact I.ok Yay (fun vs H Q E h=>xaA h) (fun cdv A outer s H vs Q E hr h=>⟨_,(xad (Xav (pv 0) (pv 1) rfl)),Zas h⟩)
section
variable {P:Program} {w:World} {K:PySem.W.Frag} {mg:Str→Option Value} {base:Heap}
noncomputable def Zao:DSt→Dm Fl :=
 (fSeq (fAsg (fOp gAdd (fOp gMul (fC (.int 7901)) (fVar 1)) (fC (.int 24697))) (hName 2))
 (fSeq (fIf (fTest (fOp gLt (fVar 1) (fCB gLen (fCons (fVar 0) fNil)))) (fAsg (fOp gIxL (fVar 0) (fVar 1)) (hName 2)) (fIf (fTest (fOp gGt (fCB gLen (fCons (fVar 0) fNil)) (fC (.int 0)))) (fAsg (fOp gAdd (fOp gMul (fOp gMod (fOp gIxL (fVar 0) (fOp gMod (fVar 1) (fCB gLen (fCons (fVar 0) fNil)))) (fC (.int 2147483629))) (fC (.int 31))) (fOp gMul (fC (.int 7901)) (fVar 1))) (hName 2)) fNext))
 (fSeq (fAsg (fC (.int 0)) (hName 3))
 (fSeq (fIf (fTest (fOp gGe (fVar 2) (fOp gPow (fC (.int 10)) (fC (.int 18))))) (fAsg (fVar 2) (hName 3)) fNext)
 (fRet (fLst (fCons (fVar 3) (fCons (fOp gAdd (fOp gMod (fOp gPow (fOp gAdd (fOp gMul (fOp gMod (fVar 2) (fC (.int 2147483629))) (fC (.int 48271))) (fOp gMul (fC (.int 40692)) (fVar 1))) (fC (.int 5))) (fC (.int 2147483629))) (fC (.int 1))) fNil))))))))
noncomputable def Zal:List D→Dm D:=fnF 4 Zao
noncomputable def Yal:Stmt:=top 10
theorem xag:FnScope ["_law_script","_law_k","_law_cell","_law_own"] ["_law_script","_law_k"] (defScope Yal):=⟨rfl,rfl,rfl,by decide +kernel,rfl,by decide +kernel,by decide +kernel⟩
theorem YaF {f:Addr} {fd:FuncData} (D:Def K mg "_law_feed" Yal ["_law_script","_law_k"] f fd) (T:Txt mg)  :FnOk P w K mg base CX0 1 f fd ["_law_script","_law_k"] (spF K 2 Zal):=by
 refine D.F.ok xag (fun vs H Q E h=>h.1) (fun cdv A outer s H vs Q E hr h=>?_)
 have hu:=hr.units
 have hu1:=ZaE hr
 refine ⟨_,(Yac (xal (i:=2) xag.nd rfl (by first | exact Or.inl rfl | exact Or.inr rfl) (Zaf zat (Zaf yat yac (pv 1)) yac))
  (Yac (Yav (xaq ya9 (pv 1) (zae Xao (by rfl) T.n_len xaQ (yaa (pv 0) zab)) (nomark _)) (xad (xal (i:=2) xag.nd rfl (by first | exact Or.inl rfl | exact Or.inr rfl) (Zar xah (pv 0) (pv 1) (fun _ _=>rfl)))) (xad (Yav (xaq op_gt (zae Xao (by rfl) T.n_len xaQ (yaa (pv 0) zab)) yac (nomark _)) (xad (xal (i:=2) xag.nd rfl (by first | exact Or.inl rfl | exact Or.inr rfl) (Zaf zat (Zaf yat (Zaf Zat (Zar xah (pv 0) (Zaf Zat (pv 1) (zae Xao (by rfl) T.n_len xaQ (yaa (pv 0) zab))) (fun _ _=>rfl)) yac) yac) (Zaf yat yac (pv 1))))) Xam)))
  (Yac (xal (i:=3) xag.nd rfl (by first | exact Or.inl rfl | exact Or.inr rfl) yac)
  (Yac (Yav (xaq op_ge (pv 2) (Zaf XaO yac yac) (nomark _)) (xad (xal (i:=3) xag.nd rfl (by first | exact Or.inl rfl | exact Or.inr rfl) (pv 2))) Xam)
  (xad (xaj (xao (yaa (pv 3) (yaa (Zaf zat (Zaf Zat (Zaf XaO (Zaf zat (Zaf yat (Zaf Zat (pv 2) yac) yac) (Zaf yat yac (pv 1))) yac) yac) yac) zab))))))))),?_⟩
 exact zaF (b:=Zao) (Xae (zak (zad yau (zad Zau (Zac _) (xaa 1)) (Zac _)) (Yad 2))
  (Xae (Yap (Zap (zad zbb (xaa 1) (ZaM ZaT (Zaa (xaa 0) Yab)))) (zak (zad Yan (xaa 0) (xaa 1)) (Yad 2)) (Yap (Zap (zad so_gt (ZaM ZaT (Zaa (xaa 0) Yab)) (Zac _))) (zak (zad yau (zad Zau (zad Yau (zad Yan (xaa 0) (zad Yau (xaa 1) (ZaM ZaT (Zaa (xaa 0) Yab)))) (Zac _)) (Zac _)) (zad Zau (Zac _) (xaa 1))) (Yad 2)) zan))
  (Xae (zak (Zac _) (Yad 3))
  (Xae (Yap (Zap (zad so_ge (xaa 2) (zad yaT (Zac _) (Zac _)))) (zak (xaa 2) (Yad 3)) zan)
  (Xaj (yap (Zaa (xaa 3) (Zaa (zad yau (zad Yau (zad yaT (zad yau (zad Zau (zad Yau (xaa 2) (Zac _)) (Zac _)) (zad Zau (Zac _) (xaa 1))) (Zac _)) (Zac _)) (Zac _)) Yab)))))))) rfl h
noncomputable def Zam:DSt→Dm Fl :=
 (fSeq (fAsg (fLst (fCons (fIsX (ansL xas) (fVar 0)) (fCons (fIsX (ansL Xaq) (fVar 0)) (fCons (fIsX (ansL yax) (fVar 0)) (fCons (fIsX (ansL zax) (fVar 0)) fNil))))) (hName 1))
 (fRet (fOp gCat (fVar 1) (fLst (fCons (fIsX (ansL zar) (fVar 0)) (fCons (fIsX (ansL Xas) (fVar 0)) (fCons (fIsX (ansL ZaF) (fVar 0)) fNil)))))))
noncomputable def Xai:List D→Dm D:=fnF 2 Zam
noncomputable def zaj:Stmt:=top 14
theorem zas:FnScope ["_law_e","_law_some"] ["_law_e"] (defScope zaj):=⟨rfl,rfl,rfl,by decide +kernel,rfl,by decide +kernel,by decide +kernel⟩
theorem yaC {f:Addr} {fd:FuncData} (D:Def K mg "_law_sorts" zaj ["_law_e"] f fd) (T:Txt mg)  {cNoText cNoFloor cNoTable cNoSlope cTooMany cNoName cNoRow cFloorError cI_NoText cI_NoFloor cI_TooMany cI_NoName:Addr} (Z:XF K mg cNoText cNoFloor cNoTable cNoSlope cTooMany cNoName cNoRow cFloorError cI_NoText cI_NoFloor cI_TooMany cI_NoName) :FnOk P w K mg base CX0 1 f fd ["_law_e"] (spF K 1 Xai):=by
 refine D.F.ok zas (fun vs H Q E h=>h.1) (fun cdv A outer s H vs Q E hr h=>?_)
 have hu:=hr.units
 have hu1:=ZaE hr
 refine ⟨_,(Yac (xal (i:=1) zas.nd rfl (by first | exact Or.inl rfl | exact Or.inr rfl) (xao (yaa (zae Xaf (by rfl) T.n_isinstance xac (yaa (pv 0) (yaa (Zan (ClsN.own Z.m_NoText) rfl) zab))) (yaa (zae Xaf (by rfl) T.n_isinstance xac (yaa (pv 0) (yaa (Zan (ClsN.own Z.m_NoFloor) rfl) zab))) (yaa (zae Xaf (by rfl) T.n_isinstance xac (yaa (pv 0) (yaa (Zan (ClsN.own Z.m_NoTable) rfl) zab))) (yaa (zae Xaf (by rfl) T.n_isinstance xac (yaa (pv 0) (yaa (Zan (ClsN.own Z.m_NoSlope) rfl) zab))) zab))))))
  (xad (xaj (Zaf ya5 (pv 1) (xao (yaa (zae Xaf (by rfl) T.n_isinstance xac (yaa (pv 0) (yaa (Zan (ClsN.own Z.m_TooMany) rfl) zab))) (yaa (zae Xaf (by rfl) T.n_isinstance xac (yaa (pv 0) (yaa (Zan (ClsN.own Z.m_NoName) rfl) zab))) (yaa (zae Xaf (by rfl) T.n_isinstance xac (yaa (pv 0) (yaa (Zan (ClsN.own Z.m_NoRow) rfl) zab))) zab)))))))),?_⟩
 exact zaF (b:=Zam) (Xae (zak (yap (Zaa (xan (xaa 0) rfl (zaa (R:=fun C b=>ExI K C∧PySem.W.kitOne K (.ref C) (.ref cNoText)=some b) Z.n_NoText ⟨Z.i_NoText,Z.k_NoText_NoText⟩ (zaa (R:=fun C b=>ExI K C∧PySem.W.kitOne K (.ref C) (.ref cNoText)=some b) Z.n_NoFloor ⟨Z.i_NoFloor,Z.k_NoFloor_NoText⟩ (zaa (R:=fun C b=>ExI K C∧PySem.W.kitOne K (.ref C) (.ref cNoText)=some b) Z.n_NoTable ⟨Z.i_NoTable,Z.k_NoTable_NoText⟩ (zaa (R:=fun C b=>ExI K C∧PySem.W.kitOne K (.ref C) (.ref cNoText)=some b) Z.n_NoSlope ⟨Z.i_NoSlope,Z.k_NoSlope_NoText⟩ (zaa (R:=fun C b=>ExI K C∧PySem.W.kitOne K (.ref C) (.ref cNoText)=some b) Z.n_TooMany ⟨Z.i_TooMany,Z.k_TooMany_NoText⟩ (zaa (R:=fun C b=>ExI K C∧PySem.W.kitOne K (.ref C) (.ref cNoText)=some b) Z.n_NoName ⟨Z.i_NoName,Z.k_NoName_NoText⟩ (zaa (R:=fun C b=>ExI K C∧PySem.W.kitOne K (.ref C) (.ref cNoText)=some b) Z.n_NoRow ⟨Z.i_NoRow,Z.k_NoRow_NoText⟩ zag)))))))) (Zaa (xan (xaa 0) rfl (zaa (R:=fun C b=>ExI K C∧PySem.W.kitOne K (.ref C) (.ref cNoFloor)=some b) Z.n_NoText ⟨Z.i_NoText,Z.k_NoText_NoFloor⟩ (zaa (R:=fun C b=>ExI K C∧PySem.W.kitOne K (.ref C) (.ref cNoFloor)=some b) Z.n_NoFloor ⟨Z.i_NoFloor,Z.k_NoFloor_NoFloor⟩ (zaa (R:=fun C b=>ExI K C∧PySem.W.kitOne K (.ref C) (.ref cNoFloor)=some b) Z.n_NoTable ⟨Z.i_NoTable,Z.k_NoTable_NoFloor⟩ (zaa (R:=fun C b=>ExI K C∧PySem.W.kitOne K (.ref C) (.ref cNoFloor)=some b) Z.n_NoSlope ⟨Z.i_NoSlope,Z.k_NoSlope_NoFloor⟩ (zaa (R:=fun C b=>ExI K C∧PySem.W.kitOne K (.ref C) (.ref cNoFloor)=some b) Z.n_TooMany ⟨Z.i_TooMany,Z.k_TooMany_NoFloor⟩ (zaa (R:=fun C b=>ExI K C∧PySem.W.kitOne K (.ref C) (.ref cNoFloor)=some b) Z.n_NoName ⟨Z.i_NoName,Z.k_NoName_NoFloor⟩ (zaa (R:=fun C b=>ExI K C∧PySem.W.kitOne K (.ref C) (.ref cNoFloor)=some b) Z.n_NoRow ⟨Z.i_NoRow,Z.k_NoRow_NoFloor⟩ zag)))))))) (Zaa (xan (xaa 0) rfl (zaa (R:=fun C b=>ExI K C∧PySem.W.kitOne K (.ref C) (.ref cNoTable)=some b) Z.n_NoText ⟨Z.i_NoText,Z.k_NoText_NoTable⟩ (zaa (R:=fun C b=>ExI K C∧PySem.W.kitOne K (.ref C) (.ref cNoTable)=some b) Z.n_NoFloor ⟨Z.i_NoFloor,Z.k_NoFloor_NoTable⟩ (zaa (R:=fun C b=>ExI K C∧PySem.W.kitOne K (.ref C) (.ref cNoTable)=some b) Z.n_NoTable ⟨Z.i_NoTable,Z.k_NoTable_NoTable⟩ (zaa (R:=fun C b=>ExI K C∧PySem.W.kitOne K (.ref C) (.ref cNoTable)=some b) Z.n_NoSlope ⟨Z.i_NoSlope,Z.k_NoSlope_NoTable⟩ (zaa (R:=fun C b=>ExI K C∧PySem.W.kitOne K (.ref C) (.ref cNoTable)=some b) Z.n_TooMany ⟨Z.i_TooMany,Z.k_TooMany_NoTable⟩ (zaa (R:=fun C b=>ExI K C∧PySem.W.kitOne K (.ref C) (.ref cNoTable)=some b) Z.n_NoName ⟨Z.i_NoName,Z.k_NoName_NoTable⟩ (zaa (R:=fun C b=>ExI K C∧PySem.W.kitOne K (.ref C) (.ref cNoTable)=some b) Z.n_NoRow ⟨Z.i_NoRow,Z.k_NoRow_NoTable⟩ zag)))))))) (Zaa (xan (xaa 0) rfl (zaa (R:=fun C b=>ExI K C∧PySem.W.kitOne K (.ref C) (.ref cNoSlope)=some b) Z.n_NoText ⟨Z.i_NoText,Z.k_NoText_NoSlope⟩ (zaa (R:=fun C b=>ExI K C∧PySem.W.kitOne K (.ref C) (.ref cNoSlope)=some b) Z.n_NoFloor ⟨Z.i_NoFloor,Z.k_NoFloor_NoSlope⟩ (zaa (R:=fun C b=>ExI K C∧PySem.W.kitOne K (.ref C) (.ref cNoSlope)=some b) Z.n_NoTable ⟨Z.i_NoTable,Z.k_NoTable_NoSlope⟩ (zaa (R:=fun C b=>ExI K C∧PySem.W.kitOne K (.ref C) (.ref cNoSlope)=some b) Z.n_NoSlope ⟨Z.i_NoSlope,Z.k_NoSlope_NoSlope⟩ (zaa (R:=fun C b=>ExI K C∧PySem.W.kitOne K (.ref C) (.ref cNoSlope)=some b) Z.n_TooMany ⟨Z.i_TooMany,Z.k_TooMany_NoSlope⟩ (zaa (R:=fun C b=>ExI K C∧PySem.W.kitOne K (.ref C) (.ref cNoSlope)=some b) Z.n_NoName ⟨Z.i_NoName,Z.k_NoName_NoSlope⟩ (zaa (R:=fun C b=>ExI K C∧PySem.W.kitOne K (.ref C) (.ref cNoSlope)=some b) Z.n_NoRow ⟨Z.i_NoRow,Z.k_NoRow_NoSlope⟩ zag)))))))) Yab))))) (Yad 1))
  (Xaj (zad ya6 (xaa 1) (yap (Zaa (xan (xaa 0) rfl (zaa (R:=fun C b=>ExI K C∧PySem.W.kitOne K (.ref C) (.ref cTooMany)=some b) Z.n_NoText ⟨Z.i_NoText,Z.k_NoText_TooMany⟩ (zaa (R:=fun C b=>ExI K C∧PySem.W.kitOne K (.ref C) (.ref cTooMany)=some b) Z.n_NoFloor ⟨Z.i_NoFloor,Z.k_NoFloor_TooMany⟩ (zaa (R:=fun C b=>ExI K C∧PySem.W.kitOne K (.ref C) (.ref cTooMany)=some b) Z.n_NoTable ⟨Z.i_NoTable,Z.k_NoTable_TooMany⟩ (zaa (R:=fun C b=>ExI K C∧PySem.W.kitOne K (.ref C) (.ref cTooMany)=some b) Z.n_NoSlope ⟨Z.i_NoSlope,Z.k_NoSlope_TooMany⟩ (zaa (R:=fun C b=>ExI K C∧PySem.W.kitOne K (.ref C) (.ref cTooMany)=some b) Z.n_TooMany ⟨Z.i_TooMany,Z.k_TooMany_TooMany⟩ (zaa (R:=fun C b=>ExI K C∧PySem.W.kitOne K (.ref C) (.ref cTooMany)=some b) Z.n_NoName ⟨Z.i_NoName,Z.k_NoName_TooMany⟩ (zaa (R:=fun C b=>ExI K C∧PySem.W.kitOne K (.ref C) (.ref cTooMany)=some b) Z.n_NoRow ⟨Z.i_NoRow,Z.k_NoRow_TooMany⟩ zag)))))))) (Zaa (xan (xaa 0) rfl (zaa (R:=fun C b=>ExI K C∧PySem.W.kitOne K (.ref C) (.ref cNoName)=some b) Z.n_NoText ⟨Z.i_NoText,Z.k_NoText_NoName⟩ (zaa (R:=fun C b=>ExI K C∧PySem.W.kitOne K (.ref C) (.ref cNoName)=some b) Z.n_NoFloor ⟨Z.i_NoFloor,Z.k_NoFloor_NoName⟩ (zaa (R:=fun C b=>ExI K C∧PySem.W.kitOne K (.ref C) (.ref cNoName)=some b) Z.n_NoTable ⟨Z.i_NoTable,Z.k_NoTable_NoName⟩ (zaa (R:=fun C b=>ExI K C∧PySem.W.kitOne K (.ref C) (.ref cNoName)=some b) Z.n_NoSlope ⟨Z.i_NoSlope,Z.k_NoSlope_NoName⟩ (zaa (R:=fun C b=>ExI K C∧PySem.W.kitOne K (.ref C) (.ref cNoName)=some b) Z.n_TooMany ⟨Z.i_TooMany,Z.k_TooMany_NoName⟩ (zaa (R:=fun C b=>ExI K C∧PySem.W.kitOne K (.ref C) (.ref cNoName)=some b) Z.n_NoName ⟨Z.i_NoName,Z.k_NoName_NoName⟩ (zaa (R:=fun C b=>ExI K C∧PySem.W.kitOne K (.ref C) (.ref cNoName)=some b) Z.n_NoRow ⟨Z.i_NoRow,Z.k_NoRow_NoName⟩ zag)))))))) (Zaa (xan (xaa 0) rfl (zaa (R:=fun C b=>ExI K C∧PySem.W.kitOne K (.ref C) (.ref cNoRow)=some b) Z.n_NoText ⟨Z.i_NoText,Z.k_NoText_NoRow⟩ (zaa (R:=fun C b=>ExI K C∧PySem.W.kitOne K (.ref C) (.ref cNoRow)=some b) Z.n_NoFloor ⟨Z.i_NoFloor,Z.k_NoFloor_NoRow⟩ (zaa (R:=fun C b=>ExI K C∧PySem.W.kitOne K (.ref C) (.ref cNoRow)=some b) Z.n_NoTable ⟨Z.i_NoTable,Z.k_NoTable_NoRow⟩ (zaa (R:=fun C b=>ExI K C∧PySem.W.kitOne K (.ref C) (.ref cNoRow)=some b) Z.n_NoSlope ⟨Z.i_NoSlope,Z.k_NoSlope_NoRow⟩ (zaa (R:=fun C b=>ExI K C∧PySem.W.kitOne K (.ref C) (.ref cNoRow)=some b) Z.n_TooMany ⟨Z.i_TooMany,Z.k_TooMany_NoRow⟩ (zaa (R:=fun C b=>ExI K C∧PySem.W.kitOne K (.ref C) (.ref cNoRow)=some b) Z.n_NoName ⟨Z.i_NoName,Z.k_NoName_NoRow⟩ (zaa (R:=fun C b=>ExI K C∧PySem.W.kitOne K (.ref C) (.ref cNoRow)=some b) Z.n_NoRow ⟨Z.i_NoRow,Z.k_NoRow_NoRow⟩ zag)))))))) Yab))))))) rfl h
noncomputable def xak:DSt→Dm Fl :=
 (fSeq (fIf (fTest (fIsX (ansL xas) (fVar 0))) (fRet (fTup (fCons (fXGet (sub1 "NoText") "row" (fVar 0)) fNil))) fNext)
 (fSeq (fIf (fTest (fIsX (ansL Xaq) (fVar 0))) (fRet (fTup (fCons (fXGet (sub1 "NoFloor") "word" (fVar 0)) (fCons (fXGet (sub1 "NoFloor") "at" (fVar 0)) fNil)))) fNext)
 (fSeq (fIf (fTest (fIsX (ansL zar) (fVar 0))) (fRet (fTup (fCons (fXGet (sub1 "TooMany") "most" (fVar 0)) fNil))) fNext)
 (fSeq (fIf (fTest (fIsX (ansL Xas) (fVar 0))) (fRet (fTup (fCons (fXGet (sub1 "NoName") "name" (fVar 0)) fNil))) fNext)
 (fRet (fTup fNil))))))
noncomputable def zah:List D→Dm D:=fnF 1 xak
noncomputable def yah:Stmt:=top 12
theorem zaz:FnScope ["_law_e"] ["_law_e"] (defScope yah):=⟨rfl,rfl,rfl,by decide +kernel,rfl,by decide +kernel,by decide +kernel⟩
theorem yaz {f:Addr} {fd:FuncData} (D:Def K mg "_law_fields" yah ["_law_e"] f fd) (T:Txt mg)  {cNoText cNoFloor cNoTable cNoSlope cTooMany cNoName cNoRow cFloorError cI_NoText cI_NoFloor cI_TooMany cI_NoName:Addr} (Z:XF K mg cNoText cNoFloor cNoTable cNoSlope cTooMany cNoName cNoRow cFloorError cI_NoText cI_NoFloor cI_TooMany cI_NoName) :FnOk P w K mg base CX0 1 f fd ["_law_e"] (spF K 1 zah):=by
 refine D.F.ok zaz (fun vs H Q E h=>h.1) (fun cdv A outer s H vs Q E hr h=>?_)
 have hu:=hr.units
 have hu1:=ZaE hr
 refine ⟨_,(Yac (Yav (yaD (zae Xaf (by rfl) T.n_isinstance xac (yaa (pv 0) (yaa (Zan (ClsN.own Z.m_NoText) rfl) zab)))) (xad (xaj (Xal (yaa (zaw (pv 0) rfl) zab)))) Xam)
  (Yac (Yav (yaD (zae Xaf (by rfl) T.n_isinstance xac (yaa (pv 0) (yaa (Zan (ClsN.own Z.m_NoFloor) rfl) zab)))) (xad (xaj (Xal (yaa (zaw (pv 0) rfl) (yaa (zaw (pv 0) rfl) zab))))) Xam)
  (Yac (Yav (yaD (zae Xaf (by rfl) T.n_isinstance xac (yaa (pv 0) (yaa (Zan (ClsN.own Z.m_TooMany) rfl) zab)))) (xad (xaj (Xal (yaa (zaw (pv 0) rfl) zab)))) Xam)
  (Yac (Yav (yaD (zae Xaf (by rfl) T.n_isinstance xac (yaa (pv 0) (yaa (Zan (ClsN.own Z.m_NoName) rfl) zab)))) (xad (xaj (Xal (yaa (zaw (pv 0) rfl) zab)))) Xam)
  (xad (xaj (Xal zab))))))),?_⟩
 exact zaF (b:=xak) (Xae (Yap (YaS (xan (xaa 0) rfl (zaa (R:=fun C b=>ExI K C∧PySem.W.kitOne K (.ref C) (.ref cNoText)=some b) Z.n_NoText ⟨Z.i_NoText,Z.k_NoText_NoText⟩ (zaa (R:=fun C b=>ExI K C∧PySem.W.kitOne K (.ref C) (.ref cNoText)=some b) Z.n_NoFloor ⟨Z.i_NoFloor,Z.k_NoFloor_NoText⟩ (zaa (R:=fun C b=>ExI K C∧PySem.W.kitOne K (.ref C) (.ref cNoText)=some b) Z.n_NoTable ⟨Z.i_NoTable,Z.k_NoTable_NoText⟩ (zaa (R:=fun C b=>ExI K C∧PySem.W.kitOne K (.ref C) (.ref cNoText)=some b) Z.n_NoSlope ⟨Z.i_NoSlope,Z.k_NoSlope_NoText⟩ (zaa (R:=fun C b=>ExI K C∧PySem.W.kitOne K (.ref C) (.ref cNoText)=some b) Z.n_TooMany ⟨Z.i_TooMany,Z.k_TooMany_NoText⟩ (zaa (R:=fun C b=>ExI K C∧PySem.W.kitOne K (.ref C) (.ref cNoText)=some b) Z.n_NoName ⟨Z.i_NoName,Z.k_NoName_NoText⟩ (zaa (R:=fun C b=>ExI K C∧PySem.W.kitOne K (.ref C) (.ref cNoText)=some b) Z.n_NoRow ⟨Z.i_NoRow,Z.k_NoRow_NoText⟩ zag))))))))) (Xaj (zam (Zaa (Yaw (xaa 0) (Xar (R:=fun C=>ExI K C∧PySem.W.findIn K (.ref C) "row" = some none) Z.n_NoText ⟨Z.i_NoText,Z.f_NoText_row⟩)) Yab))) zan)
  (Xae (Yap (YaS (xan (xaa 0) rfl (zaa (R:=fun C b=>ExI K C∧PySem.W.kitOne K (.ref C) (.ref cNoFloor)=some b) Z.n_NoText ⟨Z.i_NoText,Z.k_NoText_NoFloor⟩ (zaa (R:=fun C b=>ExI K C∧PySem.W.kitOne K (.ref C) (.ref cNoFloor)=some b) Z.n_NoFloor ⟨Z.i_NoFloor,Z.k_NoFloor_NoFloor⟩ (zaa (R:=fun C b=>ExI K C∧PySem.W.kitOne K (.ref C) (.ref cNoFloor)=some b) Z.n_NoTable ⟨Z.i_NoTable,Z.k_NoTable_NoFloor⟩ (zaa (R:=fun C b=>ExI K C∧PySem.W.kitOne K (.ref C) (.ref cNoFloor)=some b) Z.n_NoSlope ⟨Z.i_NoSlope,Z.k_NoSlope_NoFloor⟩ (zaa (R:=fun C b=>ExI K C∧PySem.W.kitOne K (.ref C) (.ref cNoFloor)=some b) Z.n_TooMany ⟨Z.i_TooMany,Z.k_TooMany_NoFloor⟩ (zaa (R:=fun C b=>ExI K C∧PySem.W.kitOne K (.ref C) (.ref cNoFloor)=some b) Z.n_NoName ⟨Z.i_NoName,Z.k_NoName_NoFloor⟩ (zaa (R:=fun C b=>ExI K C∧PySem.W.kitOne K (.ref C) (.ref cNoFloor)=some b) Z.n_NoRow ⟨Z.i_NoRow,Z.k_NoRow_NoFloor⟩ zag))))))))) (Xaj (zam (Zaa (Yaw (xaa 0) (Xar (R:=fun C=>ExI K C∧PySem.W.findIn K (.ref C) "word" = some none) Z.n_NoFloor ⟨Z.i_NoFloor,Z.f_NoFloor_word⟩)) (Zaa (Yaw (xaa 0) (Xar (R:=fun C=>ExI K C∧PySem.W.findIn K (.ref C) "at" = some none) Z.n_NoFloor ⟨Z.i_NoFloor,Z.f_NoFloor_at⟩)) Yab)))) zan)
  (Xae (Yap (YaS (xan (xaa 0) rfl (zaa (R:=fun C b=>ExI K C∧PySem.W.kitOne K (.ref C) (.ref cTooMany)=some b) Z.n_NoText ⟨Z.i_NoText,Z.k_NoText_TooMany⟩ (zaa (R:=fun C b=>ExI K C∧PySem.W.kitOne K (.ref C) (.ref cTooMany)=some b) Z.n_NoFloor ⟨Z.i_NoFloor,Z.k_NoFloor_TooMany⟩ (zaa (R:=fun C b=>ExI K C∧PySem.W.kitOne K (.ref C) (.ref cTooMany)=some b) Z.n_NoTable ⟨Z.i_NoTable,Z.k_NoTable_TooMany⟩ (zaa (R:=fun C b=>ExI K C∧PySem.W.kitOne K (.ref C) (.ref cTooMany)=some b) Z.n_NoSlope ⟨Z.i_NoSlope,Z.k_NoSlope_TooMany⟩ (zaa (R:=fun C b=>ExI K C∧PySem.W.kitOne K (.ref C) (.ref cTooMany)=some b) Z.n_TooMany ⟨Z.i_TooMany,Z.k_TooMany_TooMany⟩ (zaa (R:=fun C b=>ExI K C∧PySem.W.kitOne K (.ref C) (.ref cTooMany)=some b) Z.n_NoName ⟨Z.i_NoName,Z.k_NoName_TooMany⟩ (zaa (R:=fun C b=>ExI K C∧PySem.W.kitOne K (.ref C) (.ref cTooMany)=some b) Z.n_NoRow ⟨Z.i_NoRow,Z.k_NoRow_TooMany⟩ zag))))))))) (Xaj (zam (Zaa (Yaw (xaa 0) (Xar (R:=fun C=>ExI K C∧PySem.W.findIn K (.ref C) "most" = some none) Z.n_TooMany ⟨Z.i_TooMany,Z.f_TooMany_most⟩)) Yab))) zan)
  (Xae (Yap (YaS (xan (xaa 0) rfl (zaa (R:=fun C b=>ExI K C∧PySem.W.kitOne K (.ref C) (.ref cNoName)=some b) Z.n_NoText ⟨Z.i_NoText,Z.k_NoText_NoName⟩ (zaa (R:=fun C b=>ExI K C∧PySem.W.kitOne K (.ref C) (.ref cNoName)=some b) Z.n_NoFloor ⟨Z.i_NoFloor,Z.k_NoFloor_NoName⟩ (zaa (R:=fun C b=>ExI K C∧PySem.W.kitOne K (.ref C) (.ref cNoName)=some b) Z.n_NoTable ⟨Z.i_NoTable,Z.k_NoTable_NoName⟩ (zaa (R:=fun C b=>ExI K C∧PySem.W.kitOne K (.ref C) (.ref cNoName)=some b) Z.n_NoSlope ⟨Z.i_NoSlope,Z.k_NoSlope_NoName⟩ (zaa (R:=fun C b=>ExI K C∧PySem.W.kitOne K (.ref C) (.ref cNoName)=some b) Z.n_TooMany ⟨Z.i_TooMany,Z.k_TooMany_NoName⟩ (zaa (R:=fun C b=>ExI K C∧PySem.W.kitOne K (.ref C) (.ref cNoName)=some b) Z.n_NoName ⟨Z.i_NoName,Z.k_NoName_NoName⟩ (zaa (R:=fun C b=>ExI K C∧PySem.W.kitOne K (.ref C) (.ref cNoName)=some b) Z.n_NoRow ⟨Z.i_NoRow,Z.k_NoRow_NoName⟩ zag))))))))) (Xaj (zam (Zaa (Yaw (xaa 0) (Xar (R:=fun C=>ExI K C∧PySem.W.findIn K (.ref C) "name" = some none) Z.n_NoName ⟨Z.i_NoName,Z.f_NoName_name⟩)) Yab))) zan)
  (Xaj (zam Yab)))))) rfl h
noncomputable def Yam:DSt→Dm Fl :=
 (fSeq (fIf (fOr (fTest (fOp (gEqD true) (fCB Xai (fCons (fVar 1) fNil)) (fComp (iRng1F (fCons (fC (.int 7)) fNil)) 1 [0] (hName 0) fTrue (fOp (gEq false) (fVar 0) (fVar 1))))) (fNot (fTest (fIsX (ansL yaq) (fVar 1))))) (fRet (fC (.bl false))) fNext)
 (fRet (fAndV (fIsX (ansL Zaq) (fVar 1)) (fOp (gEq false) (fCB gReprM (fCons (fCB zah (fCons (fVar 1) fNil)) fNil)) (fCB gReprM (fCons (fVar 2) fNil))))))
noncomputable def yaj:List D→Dm D:=fnF 3 Yam
noncomputable def Zaj:Stmt:=top 15
theorem ZaC:FnScope ["_law_k","_law_made","_law_due"] ["_law_k","_law_made","_law_due"] (defScope Zaj):=⟨rfl,rfl,rfl,by decide +kernel,rfl,by decide +kernel,by decide +kernel⟩
theorem YaC {f:Addr} {fd:FuncData} (D:Def K mg "_law_right" Zaj ["_law_k","_law_made","_law_due"] f fd) (T:Txt mg)  {cNoText cNoFloor cNoTable cNoSlope cTooMany cNoName cNoRow cFloorError cI_NoText cI_NoFloor cI_TooMany cI_NoName:Addr} (Z:XF K mg cNoText cNoFloor cNoTable cNoSlope cTooMany cNoName cNoRow cFloorError cI_NoText cI_NoFloor cI_TooMany cI_NoName) {f_law_sorts:Addr} {d_law_sorts:FuncData} (D_law_sorts:Def K mg "_law_sorts" zaj ["_law_e"] f_law_sorts d_law_sorts) (G_law_sorts:FnOk P w K mg base CX0 1 f_law_sorts d_law_sorts ["_law_e"] (spF K 1 Xai)) {f_law_fields:Addr} {d_law_fields:FuncData} (D_law_fields:Def K mg "_law_fields" yah ["_law_e"] f_law_fields d_law_fields) (G_law_fields:FnOk P w K mg base CX0 1 f_law_fields d_law_fields ["_law_e"] (spF K 1 zah)):FnOk P w K mg base CX0 2 f fd ["_law_k","_law_made","_law_due"] (spF K 3 yaj):=by
 refine D.F.ok ZaC (fun vs H Q E h=>h.1) (fun cdv A outer s H vs Q E hr h=>?_)
 have hu:=hr.units
 have hu1:=ZaE hr
 refine ⟨_,(Yac (Yav (PW.pt (pw_or (xaq (op_neD hu) (Yah G_law_sorts (hr.mono (by decide)) rfl D_law_sorts.m D_law_sorts.F.kp D_law_sorts.b .nil pass0 (yaa (pv 1) zab)) (ZaH (own:=["_law_j"]) (fr:=["_law_k"]) (js:=[0]) rfl ⟨⟨rfl,by decide +kernel,by decide +kernel,by dsimp only [cxOf,cxComp,Cx.nox,Cx.wish,PyProof.Rows.envOfC,compEnvC,relabel,Env.kindOf];decide +kernel,by decide +kernel⟩,rfl⟩ (yar rfl T.n_range (yaa yac zab)) (fun _ _ _ _ _=>(Yaq (i:=0) (show ((["_law_j"]:List Str) ++ (["_law_k"]:List Str)).Nodup by decide +kernel) rfl (by first | exact Or.inl rfl | exact Or.inr rfl))) (fun _ _ _ _ _=>zaR) (fun _ _ _ _ _=>(zaP op_eq (pv 0) (pv 1) (nomark _)))) (nomark _)) (pw_or1 (pt_not (yaD (zae Xaf (by rfl) T.n_isinstance xac (yaa (pv 1) (yaa (Zan (ClsN.own Z.m_FloorError) rfl) zab)))))))) (xad (xaj pe_bl)) Xam)
  (xad (xaj (pe_and (zae Xaf (by rfl) T.n_isinstance xac (yaa (pv 1) (yaa (Zan (ClsN.blt T.n_ValueError xaB (by decide)) rfl) zab))) (pe_one (zaP op_eq (zae (xaz hr) (by rfl) T.n_repr XaQ (yaa (Yah G_law_fields (hr.mono (by decide)) rfl D_law_fields.m D_law_fields.F.kp D_law_fields.b .nil pass0 (yaa (pv 1) zab)) zab)) (zae (xaz hr) (by rfl) T.n_repr XaQ (yaa (pv 2) zab)) (nomark _))))))),?_⟩
 exact zaF (b:=Yam) (Xae (Yap (so_or (Zap (zad (so_eqD true) (Xah (F:=Xai) (Zaa (xaa 1) Yab) (xab (fun _ _ _ _ h=>Yaf h))) (YaH (Zav (Zaa (Zac _) Yab)) (Yad 0) xaH (zad so_eq (xaa 0) (xaa 1))))) (so_not (YaS (xan (xaa 1) rfl (zaa (R:=fun C b=>ExI K C∧PySem.W.kitOne K (.ref C) (.ref cFloorError)=some b) Z.n_NoText ⟨Z.i_NoText,Z.k_NoText_FloorError⟩ (zaa (R:=fun C b=>ExI K C∧PySem.W.kitOne K (.ref C) (.ref cFloorError)=some b) Z.n_NoFloor ⟨Z.i_NoFloor,Z.k_NoFloor_FloorError⟩ (zaa (R:=fun C b=>ExI K C∧PySem.W.kitOne K (.ref C) (.ref cFloorError)=some b) Z.n_NoTable ⟨Z.i_NoTable,Z.k_NoTable_FloorError⟩ (zaa (R:=fun C b=>ExI K C∧PySem.W.kitOne K (.ref C) (.ref cFloorError)=some b) Z.n_NoSlope ⟨Z.i_NoSlope,Z.k_NoSlope_FloorError⟩ (zaa (R:=fun C b=>ExI K C∧PySem.W.kitOne K (.ref C) (.ref cFloorError)=some b) Z.n_TooMany ⟨Z.i_TooMany,Z.k_TooMany_FloorError⟩ (zaa (R:=fun C b=>ExI K C∧PySem.W.kitOne K (.ref C) (.ref cFloorError)=some b) Z.n_NoName ⟨Z.i_NoName,Z.k_NoName_FloorError⟩ (zaa (R:=fun C b=>ExI K C∧PySem.W.kitOne K (.ref C) (.ref cFloorError)=some b) Z.n_NoRow ⟨Z.i_NoRow,Z.k_NoRow_FloorError⟩ zag))))))))))) (Xaj (so_bl _)) zan)
  (Xaj (Xba (xan (xaa 1) rfl (zaa (R:=fun C b=>ExI K C∧PySem.W.kitOne K (.ref C) (.type "ValueError")=some b) Z.n_NoText ⟨Z.i_NoText,Z.k_NoText_ValueError⟩ (zaa (R:=fun C b=>ExI K C∧PySem.W.kitOne K (.ref C) (.type "ValueError")=some b) Z.n_NoFloor ⟨Z.i_NoFloor,Z.k_NoFloor_ValueError⟩ (zaa (R:=fun C b=>ExI K C∧PySem.W.kitOne K (.ref C) (.type "ValueError")=some b) Z.n_NoTable ⟨Z.i_NoTable,Z.k_NoTable_ValueError⟩ (zaa (R:=fun C b=>ExI K C∧PySem.W.kitOne K (.ref C) (.type "ValueError")=some b) Z.n_NoSlope ⟨Z.i_NoSlope,Z.k_NoSlope_ValueError⟩ (zaa (R:=fun C b=>ExI K C∧PySem.W.kitOne K (.ref C) (.type "ValueError")=some b) Z.n_TooMany ⟨Z.i_TooMany,Z.k_TooMany_ValueError⟩ (zaa (R:=fun C b=>ExI K C∧PySem.W.kitOne K (.ref C) (.type "ValueError")=some b) Z.n_NoName ⟨Z.i_NoName,Z.k_NoName_ValueError⟩ (zaa (R:=fun C b=>ExI K C∧PySem.W.kitOne K (.ref C) (.type "ValueError")=some b) Z.n_NoRow ⟨Z.i_NoRow,Z.k_NoRow_ValueError⟩ zag)))))))) (zad so_eq (ZaM YaK (Zaa (Xah (F:=zah) (Zaa (xaa 1) Yab) (xab (fun _ _ _ _ h=>Yaf h))) Yab)) (ZaM YaK (Zaa (xaa 2) Yab)))))) rfl h
noncomputable def Yao:DSt→Dm Fl :=
 (fSeq (fIf (fTest (fOp gGt (fOp gIxL (fVar 0) (fC (.int 0))) (fC (.int 0)))) (fSeq (fAsg (fOp gMod (fOp gIxL (fVar 0) (fC (.int 0))) (fVar 1)) (hName 2))
 (fSeq (fAsg (fOp gFdiv (fOp gIxL (fVar 0) (fC (.int 0))) (fVar 1)) (hSub (fVar 0) (fC (.int 0))))
 (fRet (fVar 2)))) fNext)
 (fSeq (fAsg (fOp gMod (fOp gMul (fOp gIxL (fVar 0) (fC (.int 1))) (fC (.int 48271))) (fC (.int 2147483647))) (hName 3))
 (fSeq (fAsg (fOp gAdd (fOp gMod (fOp gAdd (fOp gMul (fVar 3) (fC (.int 40692))) (fC (.int 30103))) (fC (.int 2147483399))) (fC (.int 1))) (hSub (fVar 0) (fC (.int 1))))
 (fRet (fOp gMod (fOp gFdiv (fOp gAdd (fOp gMul (fVar 3) (fC (.int 2147483647))) (fOp gIxL (fVar 0) (fC (.int 1)))) (fC (.int 8191))) (fVar 1))))))
noncomputable def Xac:List D→Dm D:=fnF 4 Yao
noncomputable def zai:Stmt:=top 11
theorem xap:FnScope ["_law_feed_here","_law_many","_law_digit","_law_one"] ["_law_feed_here","_law_many"] (defScope zai):=⟨rfl,rfl,rfl,by decide +kernel,rfl,by decide +kernel,by decide +kernel⟩
theorem xaF {f:Addr} {fd:FuncData} (D:Def K mg "_law_take" zai ["_law_feed_here","_law_many"] f fd) (T:Txt mg)  :FnOk P w K mg base CX0 1 f fd ["_law_feed_here","_law_many"] (spF K 2 Xac):=by
 refine D.F.ok xap (fun vs H Q E h=>h.1) (fun cdv A outer s H vs Q E hr h=>?_)
 have hu:=hr.units
 have hu1:=ZaE hr
 refine ⟨_,(Yac (Yav (xaq op_gt (Zar xah (pv 0) yac (fun _ _=>rfl)) yac (nomark _)) (Yac (xal (i:=2) xap.nd rfl (by first | exact Or.inl rfl | exact Or.inr rfl) (Zaf Zat (Zar xah (pv 0) yac (fun _ _=>rfl)) (pv 1)))
  (Yac (xa4 (Zaf xaO (Zar xah (pv 0) yac (fun _ _=>rfl)) (pv 1)) (Ya4 (pv 0) yac XaI))
  (xad (xaj (pv 2))))) Xam)
  (Yac (xal (i:=3) xap.nd rfl (by first | exact Or.inl rfl | exact Or.inr rfl) (Zaf Zat (Zaf yat (Zar xah (pv 0) yac (fun _ _=>rfl)) yac) yac))
  (Yac (xa4 (Zaf zat (Zaf Zat (Zaf zat (Zaf yat (pv 3) yac) yac) yac) yac) (Ya4 (pv 0) yac XaI))
  (xad (xaj (Zaf Zat (Zaf xaO (Zaf zat (Zaf yat (pv 3) yac) (Zar xah (pv 0) yac (fun _ _=>rfl))) yac) (pv 1))))))),?_⟩
 exact zaF (b:=Yao) (Xae (Yap (Zap (zad so_gt (zad Yan (xaa 0) (Zac _)) (Zac _))) (Xae (zak (zad Yau (zad Yan (xaa 0) (Zac _)) (xaa 1)) (Yad 2))
  (Xae (zak (zad zaT (zad Yan (xaa 0) (Zac _)) (xaa 1)) (xaT (xaa 0) (Zac _)))
  (Xaj (xaa 2)))) zan)
  (Xae (zak (zad Yau (zad Zau (zad Yan (xaa 0) (Zac _)) (Zac _)) (Zac _)) (Yad 3))
  (Xae (zak (zad yau (zad Yau (zad yau (zad Zau (xaa 3) (Zac _)) (Zac _)) (Zac _)) (Zac _)) (xaT (xaa 0) (Zac _)))
  (Xaj (zad Yau (zad zaT (zad yau (zad Zau (xaa 3) (Zac _)) (zad Yan (xaa 0) (Zac _))) (Zac _)) (xaa 1)))))) rfl h
noncomputable def xam:DSt→Dm Fl :=
 (fSeq (fAsg (fCB Xac (fCons (fVar 0) (fCons (fOp gIxL (fLst (fCons (fC (.int 100)) (fCons (fOp gPow (fC (.int 10)) (fC (.int 9))) fNil))) (fCB Xac (fCons (fVar 0) (fCons (fC (.int 2)) fNil)))) fNil))) (hName 2))
 (fSeq (fAsg (fBM "str" gJoin (fC (.str "")) (fCons (fComp (iRng1F (fCons (fOp gAdd (fC (.int 1)) (fCB Xac (fCons (fVar 0) (fCons (fC (.int 6)) fNil)))) fNil)) 1 [0] (hName 0) fTrue (fOp gIxS (fC (.str "abcdefghijklmnopqrstuvwxyz")) (fCB Xac (fCons (fVar 1) (fCons (fC (.int 26)) fNil))))) fNil)) (hName 3))
 (fSeq (fAsg (fLst (fCons (fVar 2) (fCons (fOp gSub (fC (.int 0)) (fVar 2)) (fCons (fVar 3) (fCons (fC .non) (fCons (fC (.bl true)) (fCons (fTup (fCons (fVar 2) (fCons (fVar 3) fNil))) (fCons (fLst (fCons (fVar 3) (fCons (fC .non) fNil))) (fCons (fDisp (fPCons (fVar 3) (fVar 2) fPNil)) (fCons (fC (.str "")) (fCons (fOp gAddS (fOp gAddS (fC (.str " 01")) (fVar 3)) (fC (.str "\n"))) fNil))))))))))) (hName 4))
 (fRet (fOp gIxL (fVar 4) (fVar 1))))))
noncomputable def xaf:List D→Dm D:=fnF 5 xam
noncomputable def Yaj:Stmt:=top 16
theorem Xak:FnScope ["_law_feed_here","_law_which","_law_number","_law_word","_law_some"] ["_law_feed_here","_law_which"] (defScope Yaj):=⟨rfl,rfl,rfl,by decide +kernel,rfl,by decide +kernel,by decide +kernel⟩
theorem xaC {f:Addr} {fd:FuncData} (D:Def K mg "_law_thing" Yaj ["_law_feed_here","_law_which"] f fd) (T:Txt mg)  {f_law_take:Addr} {d_law_take:FuncData} (D_law_take:Def K mg "_law_take" zai ["_law_feed_here","_law_many"] f_law_take d_law_take) (G_law_take:FnOk P w K mg base CX0 1 f_law_take d_law_take ["_law_feed_here","_law_many"] (spF K 2 Xac)):FnOk P w K mg base CX0 2 f fd ["_law_feed_here","_law_which"] (spF K 2 xaf):=by
 refine D.F.ok Xak (fun vs H Q E h=>h.1) (fun cdv A outer s H vs Q E hr h=>?_)
 have hu:=hr.units
 have hu1:=ZaE hr
 refine ⟨_,(Yac (xal (i:=2) Xak.nd rfl (by first | exact Or.inl rfl | exact Or.inr rfl) (Yah G_law_take (hr.mono (by decide)) rfl D_law_take.m D_law_take.F.kp D_law_take.b .nil pass0 (yaa (pv 0) (yaa (Zar xah (xao (yaa yac (yaa (Zaf XaO yac yac) zab))) (Yah G_law_take (hr.mono (by decide)) rfl D_law_take.m D_law_take.F.kp D_law_take.b .nil pass0 (yaa (pv 0) (yaa yac zab))) (fun _ _=>rfl)) zab))))
  (Yac (xal (i:=3) Xak.nd rfl (by first | exact Or.inl rfl | exact Or.inr rfl) (pe_bm PySem.F.plainAttrs_str PySem.F.slot_str_join PySem.F.type_str_join Zba zaD (yaa (ZaH (own:=["_law_j"]) (fr:=["_law_feed_here"]) (js:=[0]) rfl ⟨⟨rfl,by decide +kernel,by decide +kernel,by dsimp only [cxOf,cxComp,Cx.nox,Cx.wish,PyProof.Rows.envOfC,compEnvC,relabel,Env.kindOf];decide +kernel,by decide +kernel⟩,rfl⟩ (yar rfl T.n_range (yaa (Zaf zat yac (Yah G_law_take (hr.mono (by decide)) rfl D_law_take.m D_law_take.F.kp D_law_take.b .nil pass0 (yaa (pv 0) (yaa yac zab)))) zab)) (fun _ _ _ _ _=>(Yaq (i:=0) (show ((["_law_j"]:List Str) ++ (["_law_feed_here"]:List Str)).Nodup by decide +kernel) rfl (by first | exact Or.inl rfl | exact Or.inr rfl))) (fun _ _ _ _ _=>zaR) (fun _ _ _ _ _=>(Zar ix_str zaD (Yah G_law_take (hr.mono (by decide)) rfl D_law_take.m D_law_take.F.kp D_law_take.b .nil pass0 (yaa (pv 1) (yaa yac zab))) (fun _ _=>rfl)))) zab)))
  (Yac (xal (i:=4) Xak.nd rfl (by first | exact Or.inl rfl | exact Or.inr rfl) (xao (yaa (pv 2) (yaa (Zaf YaO yac (pv 2)) (yaa (pv 3) (yaa Za4 (yaa pe_bl (yaa (Xal (yaa (pv 2) (yaa (pv 3) zab))) (yaa (xao (yaa (pv 3) (yaa Za4 zab))) (yaa (Xa9 (yaY (pv 3) (pv 2) xa9) rfl rfl (by decide) (by decide)) (yaa zaD (yaa (Zaf Zaz (Zaf Zaz zaD (pv 3)) zaD) zab))))))))))))
  (xad (xaj (Zar xah (pv 4) (pv 1) (fun _ _=>rfl))))))),?_⟩
 exact zaF (b:=xam) (Xae (zak (Xah (F:=Xac) (Zaa (xaa 0) (Zaa (zad Yan (yap (Zaa (Zac _) (Zaa (zad yaT (Zac _) (Zac _)) Yab))) (Xah (F:=Xac) (Zaa (xaa 0) (Zaa (Zac _) Yab)) (xab (xab (fun _ _ _ _ h=>Yaf h))))) Yab)) (xab (xab (fun _ _ _ _ h=>Yaf h)))) (Yad 2))
  (Xae (zak (so_bm ybg (xaE _) (Zaa (YaH (Zav (Zaa (zad yau (Zac _) (Xah (F:=Xac) (Zaa (xaa 0) (Zaa (Zac _) Yab)) (xab (xab (fun _ _ _ _ h=>Yaf h))))) Yab)) (Yad 0) xaH (zad so_ixS (xaE _) (Xah (F:=Xac) (Zaa (xaa 1) (Zaa (Zac _) Yab)) (xab (xab (fun _ _ _ _ h=>Yaf h)))))) Yab)) (Yad 3))
  (Xae (zak (yap (Zaa (xaa 2) (Zaa (zad XaS (Zac _) (xaa 2)) (Zaa (xaa 3) (Zaa Xa5 (Zaa (so_bl _) (Zaa (zam (Zaa (xaa 2) (Zaa (xaa 3) Yab))) (Zaa (yap (Zaa (xaa 3) (Zaa Xa5 Yab))) (Zaa (zbe (xa0 (xaa 3) (xaa 2) xbd)) (Zaa (xaE _) (Zaa (zad zaW (zad zaW (xaE _) (xaa 3)) (xaE _)) Yab))))))))))) (Yad 4))
  (Xaj (zad Yan (xaa 4) (xaa 1)))))) rfl h
noncomputable def Yai:DSt→Dm Fl :=
 (fSeq (fIf (fTest (fOp gLt (fVar 0) (fC (.int 2)))) (fRet (fOp gIxL (fLst (fCons (fMake "NoText" ["row"] (fCons (fVar 2) fNil)) (fCons (fMake "NoFloor" ["word","at"] (fCons (fVar 1) (fCons (fVar 2) fNil))) fNil))) (fVar 0))) fNext)
 (fSeq (fIf (fTest (fOp gLt (fVar 0) (fC (.int 4)))) (fRet (fOp gIxL (fLst (fCons (fMake0 "NoTable") (fCons (fMake0 "NoSlope") fNil))) (fOp gSub (fVar 0) (fC (.int 2))))) fNext)
 (fRet (fOp gIxL (fLst (fCons (fMake "TooMany" ["most"] (fCons (fVar 2) fNil)) (fCons (fMake "NoName" ["name"] (fCons (fVar 1) fNil)) (fCons (fMake0 "NoRow") fNil)))) (fOp gSub (fVar 0) (fC (.int 4)))))))
noncomputable def yag:List D→Dm D:=fnF 3 Yai
noncomputable def Zag:Stmt:=top 13
theorem zay:FnScope ["_law_k","_law_word","_law_number"] ["_law_k","_law_word","_law_number"] (defScope Zag):=⟨rfl,rfl,rfl,by decide +kernel,rfl,by decide +kernel,by decide +kernel⟩
theorem yay {f:Addr} {fd:FuncData} (D:Def K mg "_law_refusal" Zag ["_law_k","_law_word","_law_number"] f fd) (T:Txt mg)  {cNoText cNoFloor cNoTable cNoSlope cTooMany cNoName cNoRow cFloorError cI_NoText cI_NoFloor cI_TooMany cI_NoName:Addr} (Z:XF K mg cNoText cNoFloor cNoTable cNoSlope cTooMany cNoName cNoRow cFloorError cI_NoText cI_NoFloor cI_TooMany cI_NoName) {dI_NoText:FuncData} (GI_NoText:FnOk P w K mg base CX0 1 cI_NoText dI_NoText ["self","row"] (spI1 K "row")) (BI_NoText:Binds K dI_NoText ["self","row"] []) {dI_NoFloor:FuncData} (GI_NoFloor:FnOk P w K mg base CX0 1 cI_NoFloor dI_NoFloor ["self","word","at"] (spI2 K "word" "at")) (BI_NoFloor:Binds K dI_NoFloor ["self","word","at"] []) {dI_TooMany:FuncData} (GI_TooMany:FnOk P w K mg base CX0 1 cI_TooMany dI_TooMany ["self","most"] (spI1 K "most")) (BI_TooMany:Binds K dI_TooMany ["self","most"] []) {dI_NoName:FuncData} (GI_NoName:FnOk P w K mg base CX0 1 cI_NoName dI_NoName ["self","name"] (spI1 K "name")) (BI_NoName:Binds K dI_NoName ["self","name"] []) :FnOk P w K mg base CX0 3 f fd ["_law_k","_law_word","_law_number"] (spF K 3 yag):=by
 refine D.F.ok zay (fun vs H Q E h=>h.1) (fun cdv A outer s H vs Q E hr h=>?_)
 have hu:=hr.units
 have hu1:=ZaE hr
 refine ⟨_,(Yac (Yav (xaq ya9 (pv 0) yac (nomark _)) (xad (xaj (Zar xah (xao (yaa (yav PySem.F.excBase_ValueError ⟨Z.m_NoText,Z.xi_NoText,Z.fn_NoText,Z.kp_NoText⟩ GI_NoText (hr.mono (by decide)) rfl BI_NoText (yaa (pv 2) zab)) (yaa (yav PySem.F.excBase_ValueError ⟨Z.m_NoFloor,Z.xi_NoFloor,Z.fn_NoFloor,Z.kp_NoFloor⟩ GI_NoFloor (hr.mono (by decide)) rfl BI_NoFloor (yaa (pv 1) (yaa (pv 2) zab))) zab))) (pv 0) (fun _ _=>rfl)))) Xam)
  (Yac (Yav (xaq ya9 (pv 0) yac (nomark _)) (xad (xaj (Zar xah (xao (yaa (yaw PySem.F.excBase_ValueError ⟨Z.m_NoTable,Z.x_NoTable⟩ Z.kp_NoTable rfl) (yaa (yaw PySem.F.excBase_ValueError ⟨Z.m_NoSlope,Z.x_NoSlope⟩ Z.kp_NoSlope rfl) zab))) (Zaf YaO (pv 0) yac) (fun _ _=>rfl)))) Xam)
  (xad (xaj (Zar xah (xao (yaa (yav PySem.F.excBase_ValueError ⟨Z.m_TooMany,Z.xi_TooMany,Z.fn_TooMany,Z.kp_TooMany⟩ GI_TooMany (hr.mono (by decide)) rfl BI_TooMany (yaa (pv 2) zab)) (yaa (yav PySem.F.excBase_ValueError ⟨Z.m_NoName,Z.xi_NoName,Z.fn_NoName,Z.kp_NoName⟩ GI_NoName (hr.mono (by decide)) rfl BI_NoName (yaa (pv 1) zab)) (yaa (yaw PySem.F.excBase_ValueError ⟨Z.m_NoRow,Z.x_NoRow⟩ Z.kp_NoRow rfl) zab)))) (Zaf YaO (pv 0) yac) (fun _ _=>rfl)))))),?_⟩
 exact zaF (b:=Yai) (Xae (Yap (Zap (zad zbb (xaa 0) (Zac _))) (Xaj (zad Yan (yap (Zaa (XaB (Zaa (xaa 2) Yab) (xab (fun _ _ _ _ h=>Yaf h)) Z.n_NoText Z.es_NoText Z.t_NoText_row) (Zaa (Ya3 (Zaa (xaa 1) (Zaa (xaa 2) Yab)) (xab (xab (fun _ _ _ _ h=>Yaf h))) Z.n_NoFloor Z.es_NoFloor Z.t_NoFloor_word Z.t_NoFloor_at (by decide)) Yab))) (xaa 0))) zan)
  (Xae (Yap (Zap (zad zbb (xaa 0) (Zac _))) (Xaj (zad Yan (yap (Zaa (zaC Z.n_NoTable) (Zaa (zaC Z.n_NoSlope) Yab))) (zad XaS (xaa 0) (Zac _)))) zan)
  (Xaj (zad Yan (yap (Zaa (XaB (Zaa (xaa 2) Yab) (xab (fun _ _ _ _ h=>Yaf h)) Z.n_TooMany Z.es_TooMany Z.t_TooMany_most) (Zaa (XaB (Zaa (xaa 1) Yab) (xab (fun _ _ _ _ h=>Yaf h)) Z.n_NoName Z.es_NoName Z.t_NoName_name) (Zaa (zaC Z.n_NoRow) Yab)))) (zad XaS (xaa 0) (Zac _)))))) rfl h
noncomputable def Xa3:DSt→Dm Fl :=
 (fSeq (fAsg (fCB Zal (fCons (fVar 0) (fCons (fC (.int 0)) fNil))) (hName 1))
 (fSeq (fAsg (fLst fNil) (hName 2))
 (fSeq (fFor (iRng1F (fCons (fC (.int 7)) fNil)) (hName 3) (fFor (iRng1F (fCons (fC (.int 3)) fNil)) (hName 4) (fSeq (fPar 5 6 (fCons (fCB Xac (fCons (fVar 1) (fCons (fC (.int 10)) fNil))) (fCons (fCB Xac (fCons (fVar 1) (fCons (fC (.int 10)) fNil))) fNil)))
 (fSeq (fPar 7 8 (fCons (fCB xaf (fCons (fVar 1) (fCons (fVar 5) fNil))) (fCons (fCB xaf (fCons (fVar 1) (fCons (fVar 6) fNil))) fNil)))
 (fSeq (fAsg (fOp gIxL (fLst (fCons (fTup (fCons (fVar 8) fNil)) (fCons (fTup (fCons (fVar 7) (fCons (fVar 8) fNil))) (fCons (fTup fNil) (fCons (fTup fNil) (fCons (fTup (fCons (fVar 8) fNil)) (fCons (fTup (fCons (fVar 7) fNil)) (fCons (fTup fNil) fNil)))))))) (fVar 3)) (hName 9))
 (fDrop (fBM "list" gAppend (fVar 2) (fCons (fTup (fCons (fVar 3) (fCons (fCB yag (fCons (fVar 3) (fCons (fVar 7) (fCons (fVar 8) fNil)))) (fCons (fVar 9) fNil)))) fNil))))))))
 (fRet (fCB gAll (fCons (fComp (iListF (fOp gCat (fVar 2) (fVar 2))) 3 [] (hTup 3 (hCons (hName 0) (hCons (hName 1) (hCons (hName 2) hNil)))) fTrue (fCB yaj (fCons (fVar 0) (fCons (fVar 1) (fCons (fVar 2) fNil))))) fNil))))))
noncomputable def Ybg:List D→Dm D:=fnF 10 Xa3
noncomputable def za4:Stmt:=top 17
theorem Xau:FnScope ["_law_script","_law_feed_here","_law_asked","_law_k","_law_turn","_law_one","_law_other","_law_word","_law_thing_here","_law_due"] ["_law_script"] (defScope za4):=⟨rfl,rfl,rfl,by decide +kernel,rfl,by decide +kernel,by decide +kernel⟩
theorem ok_law {f:Addr} {fd:FuncData} (D:Def K mg "law" za4 ["_law_script"] f fd) (T:Txt mg)  {f_law_feed:Addr} {d_law_feed:FuncData} (D_law_feed:Def K mg "_law_feed" Yal ["_law_script","_law_k"] f_law_feed d_law_feed) (G_law_feed:FnOk P w K mg base CX0 1 f_law_feed d_law_feed ["_law_script","_law_k"] (spF K 2 Zal)) {f_law_right:Addr} {d_law_right:FuncData} (D_law_right:Def K mg "_law_right" Zaj ["_law_k","_law_made","_law_due"] f_law_right d_law_right) (G_law_right:FnOk P w K mg base CX0 2 f_law_right d_law_right ["_law_k","_law_made","_law_due"] (spF K 3 yaj)) {f_law_take:Addr} {d_law_take:FuncData} (D_law_take:Def K mg "_law_take" zai ["_law_feed_here","_law_many"] f_law_take d_law_take) (G_law_take:FnOk P w K mg base CX0 1 f_law_take d_law_take ["_law_feed_here","_law_many"] (spF K 2 Xac)) {f_law_thing:Addr} {d_law_thing:FuncData} (D_law_thing:Def K mg "_law_thing" Yaj ["_law_feed_here","_law_which"] f_law_thing d_law_thing) (G_law_thing:FnOk P w K mg base CX0 2 f_law_thing d_law_thing ["_law_feed_here","_law_which"] (spF K 2 xaf)) {f_law_refusal:Addr} {d_law_refusal:FuncData} (D_law_refusal:Def K mg "_law_refusal" Zag ["_law_k","_law_word","_law_number"] f_law_refusal d_law_refusal) (G_law_refusal:FnOk P w K mg base CX0 3 f_law_refusal d_law_refusal ["_law_k","_law_word","_law_number"] (spF K 3 yag)):FnOk P w K mg base CX0 4 f fd ["_law_script"] (spF K 1 Ybg):=by
 refine D.F.ok Xau (fun vs H Q E h=>h.1) (fun cdv A outer s H vs Q E hr h=>?_)
 have hu:=hr.units
 have hu1:=ZaE hr
 refine ⟨_,(Yac (xal (i:=1) Xau.nd rfl (by first | exact Or.inl rfl | exact Or.inr rfl) (Yah G_law_feed (hr.mono (by decide)) rfl D_law_feed.m D_law_feed.F.kp D_law_feed.b .nil pass0 (yaa (pv 0) (yaa yac zab))))
  (Yac (xal (i:=2) Xau.nd rfl (by first | exact Or.inl rfl | exact Or.inr rfl) (xao zab))
  (Yac (za5 PassesOwn.never rfl (yar rfl T.n_range (yaa yac zab)) (Yaq (i:=3) Xau.nd rfl (by first | exact Or.inl rfl | exact Or.inr rfl)) (xad (za5 PassesOwn.never rfl (yar rfl T.n_range (yaa yac zab)) (Yaq (i:=4) Xau.nd rfl (by first | exact Or.inl rfl | exact Or.inr rfl)) (Yac (Xa4 (i:=5) (j:=6) rfl Xau.nd rfl rfl (by decide) rfl rfl (yaa (Yah G_law_take (hr.mono (by decide)) rfl D_law_take.m D_law_take.F.kp D_law_take.b .nil pass0 (yaa (pv 1) (yaa yac zab))) (yaa (Yah G_law_take (hr.mono (by decide)) rfl D_law_take.m D_law_take.F.kp D_law_take.b .nil pass0 (yaa (pv 1) (yaa yac zab))) zab)) rfl)
  (Yac (Xa4 (i:=7) (j:=8) rfl Xau.nd rfl rfl (by decide) rfl rfl (yaa (Yah G_law_thing (hr.mono (by decide)) rfl D_law_thing.m D_law_thing.F.kp D_law_thing.b .nil pass0 (yaa (pv 1) (yaa (pv 5) zab))) (yaa (Yah G_law_thing (hr.mono (by decide)) rfl D_law_thing.m D_law_thing.F.kp D_law_thing.b .nil pass0 (yaa (pv 1) (yaa (pv 6) zab))) zab)) rfl)
  (Yac (xal (i:=9) Xau.nd rfl (by first | exact Or.inl rfl | exact Or.inr rfl) (Zar xah (xao (yaa (Xal (yaa (pv 8) zab)) (yaa (Xal (yaa (pv 7) (yaa (pv 8) zab))) (yaa (Xal zab) (yaa (Xal zab) (yaa (Xal (yaa (pv 8) zab)) (yaa (Xal (yaa (pv 7) zab)) (yaa (Xal zab) zab)))))))) (pv 3) (fun _ _=>rfl)))
  (xad (ya8 (pe_bm PySem.F.plainAttrs_list PySem.F.slot_list_append PySem.F.type_list_append yaQ (pv 2) (yaa (Xal (yaa (pv 3) (yaa (Yah G_law_refusal (hr.mono (by decide)) rfl D_law_refusal.m D_law_refusal.F.kp D_law_refusal.b .nil pass0 (yaa (pv 3) (yaa (pv 7) (yaa (pv 8) zab)))) (yaa (pv 9) zab)))) zab))))))))))
  (xad (xaj (zae (yaR rfl) (by rfl) T.n_all bt_all (yaa (ZaH (own:=["_law_k","_law_made","_law_due"]) (fr:=[]) (js:=[]) rfl ⟨⟨rfl,by decide +kernel,by decide +kernel,by dsimp only [cxOf,cxComp,Cx.nox,Cx.wish,PyProof.Rows.envOfC,compEnvC,relabel,Env.kindOf];decide +kernel,by decide +kernel⟩,rfl⟩ (Ya8 (Zaf ya5 (pv 2) (pv 2))) (fun _ _ _ _ _=>(yba (K:=K) (n:=3) rfl rfl (ZaA (Yaq (i:=0) (show ((["_law_k","_law_made","_law_due"]:List Str) ++ ([]:List Str)).Nodup by decide +kernel) rfl (by first | exact Or.inl rfl | exact Or.inr rfl)) (ZaA (Yaq (i:=1) (show ((["_law_k","_law_made","_law_due"]:List Str) ++ ([]:List Str)).Nodup by decide +kernel) rfl (by first | exact Or.inl rfl | exact Or.inr rfl)) (ZaA (Yaq (i:=2) (show ((["_law_k","_law_made","_law_due"]:List Str) ++ ([]:List Str)).Nodup by decide +kernel) rfl (by first | exact Or.inl rfl | exact Or.inr rfl)) Za8))))) (fun _ _ _ _ _=>zaR) (fun _ _ _ _ _=>(Yah G_law_right (hr.mono (by decide)) rfl D_law_right.m D_law_right.F.kp D_law_right.b .nil pass0 (yaa (pv 0) (yaa (pv 1) (yaa (pv 2) zab)))))) zab))))))),?_⟩
 exact zaF (b:=Xa3) (Xae (zak (Xah (F:=Zal) (Zaa (xaa 0) (Zaa (Zac _) Yab)) (xab (xab (fun _ _ _ _ h=>Yaf h)))) (Yad 1))
  (Xae (zak (yap Yab) (Yad 2))
  (Xae (Xa6 (Zav (Zaa (Zac _) Yab)) (Yad 3) (Xa6 (Zav (Zaa (Zac _) Yab)) (Yad 4) (Xae (Ya6 (Zaa (Xah (F:=Xac) (Zaa (xaa 1) (Zaa (Zac _) Yab)) (xab (xab (fun _ _ _ _ h=>Yaf h)))) (Zaa (Xah (F:=Xac) (Zaa (xaa 1) (Zaa (Zac _) Yab)) (xab (xab (fun _ _ _ _ h=>Yaf h)))) Yab)))
  (Xae (Ya6 (Zaa (Xah (F:=xaf) (Zaa (xaa 1) (Zaa (xaa 5) Yab)) (xab (xab (fun _ _ _ _ h=>Yaf h)))) (Zaa (Xah (F:=xaf) (Zaa (xaa 1) (Zaa (xaa 6) Yab)) (xab (xab (fun _ _ _ _ h=>Yaf h)))) Yab)))
  (Xae (zak (zad Yan (yap (Zaa (zam (Zaa (xaa 8) Yab)) (Zaa (zam (Zaa (xaa 7) (Zaa (xaa 8) Yab))) (Zaa (zam Yab) (Zaa (zam Yab) (Zaa (zam (Zaa (xaa 8) Yab)) (Zaa (zam (Zaa (xaa 7) Yab)) (Zaa (zam Yab) Yab)))))))) (xaa 3)) (Yad 9))
  (Ybb (so_bm YaT (xaa 2) (Zaa (zam (Zaa (xaa 3) (Zaa (Xah (F:=yag) (Zaa (xaa 3) (Zaa (xaa 7) (Zaa (xaa 8) Yab))) (xab (xab (xab (fun _ _ _ _ h=>Yaf h))))) (Zaa (xaa 9) Yab)))) Yab))))))))
  (Xaj (ZaM so_all (Zaa (YaH (za0 (zad ya6 (xaa 2) (xaa 2))) (Zbb (yaB (Yad 0) (yaB (Yad 1) (yaB (Yad 2) ybb)))) xaH (Xah (F:=yaj) (Zaa (xaa 0) (Zaa (xaa 1) (Zaa (xaa 2) Yab))) (xab (xab (xab (fun _ _ _ _ h=>Yaf h)))))) Yab)))))) rfl h
end
theorem Xan {st:Store} {f:Nat} {n:Int} (hf:FeedIs st f) (h0:0 < n) (h1:n < 1073741824):Wp (Xac [.ref f,.int n] st) fun d st'=>∃ k:Int,d=.int k∧0≤k∧k < n∧FeedIs st' f∧Ex [f] st st':=by
 obtain ⟨o,m,e,o0,m0,m1⟩:=hf
 have hfl:=yaf e
 refine yaF ?_
 show Ws (Yao [some (.ref f),some (.int n),none,none] st) _ _ _ _
 unfold Yao
 refine zaf (Zaw ?_)
 set_option simprocs false in simp only [wpB,xae e,yao e]
 refine ⟨fun ho=>?_,fun ho=>?_⟩
 ·refine zaf (yam ?_)
  set_option simprocs false in simp only [wpB,xae e]
  refine ⟨h0,zaf (xaU ?_)⟩
  set_option simprocs false in simp only [wpB,xae e,yao e,(show ixN [D.int o,D.int m].length 0=some 0 from ix2_0)]
  refine ⟨⟨h0,h1⟩,yal ?_⟩
  set_option simprocs false in simp only [wpB]
  refine ⟨Int.emod_nonneg _ (by omega),Int.emod_lt_of_pos _ h0,⟨o / n,m,?_,Int.ediv_nonneg o0 (by omega),m0,m1⟩,Ex.refl.put (by simp)⟩
  rw [List.getElem?_set_self hfl]
 ·refine yan (zaf (yam ?_))
  set_option simprocs false in simp only [wpB,xae e]
  refine ⟨by omega,by omega,zaf (xaU ?_)⟩
  set_option simprocs false in simp only [wpB,xae e,yao e,(show ixN [D.int o,D.int m].length 1=some 1 from ix2_1)]
  refine ⟨by omega,by omega,yal ?_⟩
  have e2:(st.set f (.lst [.int o,.int ((m * 48271 % 2147483647 * 40692 + 30103) % 2147483399 + 1)]))[f]?=some (.lst [.int o,.int ((m * 48271 % 2147483647 * 40692 + 30103) % 2147483399 + 1)]):=List.getElem?_set_self hfl
  set_option simprocs false in simp only [wpB,xae e2]
  refine ⟨by omega,by omega,h0,Int.emod_nonneg _ (by omega),Int.emod_lt_of_pos _ h0,⟨_,_,e2,o0,by omega,by omega⟩,Ex.refl.put (by simp)⟩
theorem XaW {st:Store} {a:Nat} {ns:List Int} {k:Nat} (hs:items st a=some (ns.map D.int)) (hk:k≤100):Wp (Zal [.ref a,.int (k:Int)] st) fun d st'=>d=.ref st.length∧FeedIs st' st.length∧Ex [] st st':=by
 refine yaF ?_
 show Ws (Zao [some (.ref a),some (.int (k:Int)),none,none] st) _ _ _ _
 unfold Zao
 refine zaf (yam ?_)
 set_option simprocs false in simp only [wpB]
 refine ⟨by omega,zaf (YaU (N:=fun δ st1=>st1=st∧∃ c:Int,δ=[some (.ref a),some (.int (k:Int)),some (.int c),none]) (Zaw ?_) ?_)⟩
 ·set_option simprocs false in simp only [wpB,hs]
  refine ⟨fun h=>yam ?_,fun h=>Zaw ?_⟩
  ·have h:=of_decide_eq_true h
   rw [List.length_map] at h
   set_option simprocs false in simp only [wpB,hs]
   refine ⟨.int (ns[k]'(by omega)),zaQ (by rw [List.getElem?_map,List.getElem?_eq_getElem];rfl),_,rfl⟩
  ·set_option simprocs false in simp only [wpB,hs]
   refine ⟨fun h=>yam ?_,fun h=>yan ⟨rfl,_,rfl⟩⟩
   have h:=of_decide_eq_true h
   obtain ⟨v,hv,hm⟩:=atI_lt (xs:=ns.map D.int) (i:=(k:Int) % ((ns.map D.int).length:Int)) (Int.emod_nonneg _ (by omega)) (Int.emod_lt_of_pos _ h)
   obtain ⟨c,_,rfl⟩:=List.mem_map.mp hm
   set_option simprocs false in simp only [wpB,hs]
   refine ⟨h,_,hv,?_⟩
   set_option simprocs false in simp only [wpB]
   exact ⟨by omega,by omega,by omega,_,rfl⟩
 ·rintro δ st1 ⟨rfl,c,rfl⟩
  refine zaf (yam ?_)
  set_option simprocs false in simp only [wpB]
  refine zaf (YaU (N:=fun δ st2=>st2=st1∧∃ o:Int,0≤o∧δ=[some (.ref a),some (.int (k:Int)),some (.int c),some (.int o)]) (Zaw ?_) ?_)
  ·set_option simprocs false in simp only [wpB]
   refine ⟨by decide,fun h=>yam ?_,fun h=>yan ⟨rfl,0,by decide,rfl⟩⟩
   have h:=of_decide_eq_true h
   set_option simprocs false in simp only [wpB]
   exact ⟨c,Int.le_trans (by decide) h,rfl⟩
  ·rintro δ st2 ⟨rfl,o,o0,rfl⟩
   refine yal ?_
   set_option simprocs false in simp only [wpB]
   have h1:0≤c % 2147483629:=Int.emod_nonneg _ (by decide)
   have h2:c % 2147483629 < 2147483629:=Int.emod_lt_of_pos _ (by decide)
   refine ⟨by omega,by omega,by omega,by omega,by omega,by rfl,⟨_,_,Yae,o0,?_,?_⟩,Ex.app0 _⟩
   ·have:=Int.emod_nonneg ((c % 2147483629 * 48271 + 40692 * (k:Int)) ^ (5:Int).toNat) (show (2147483629:Int)≠0 by decide)
    omega
   ·have:=Int.emod_lt_of_pos ((c % 2147483629 * 48271 + 40692 * (k:Int)) ^ (5:Int).toNat) (show (0:Int) < 2147483629 by decide)
    omega
noncomputable def Wd (w:Str):Prop:=w.length≤60∧∀ c∈w.cps.toList,c < 1000
theorem Wd.ok {w:Str} (h:Wd w):PyData.canLay0 (.str w)=true:=by
 show w.cps.all (fun c=>decide (c < 0x110000))=true
 rw [← Array.all_toList,List.all_eq_true]
 exact fun c hc=>decide_eq_true (Nat.lt_trans (h.2 c hc) (by decide))
theorem Wd.len {w:Str} (h:Wd w):(reprText w).length≤602:=by
 have:=StrLaws.reprText_len w fun c hc=>Nat.lt_trans (h.2 c hc) (by decide)
 have:=h.1
 omega
theorem XaC {n:Int} (h:smI n):(PyData.int n).showable=true:=by
 simp only [PyData.showable,decide_eq_true_eq];exact h.log
theorem yaI {n:Int} (h:smI n):(PyData.shown (.int n)).length≤1921:=by
 simp only [PyData.shown];exact PyProof.Rows.int_text_len_1921 h.log
noncomputable def Th (g:Nat) (st:Store) (d:D):Prop :=
 (∃ n:Int,d=.int n∧smI n)∨(∃ w,d=.str w∧Wd w)∨d=.non∨d=.bl true∨(∃ n w,d=.tup [.int n,.str w]∧smI n∧Wd w) ∨
 (∃ i w,d=.ref i∧g < i∧st[i]?=some (.lst [.str w,.non])∧Wd w)∨(∃ i w n,d=.ref i∧g < i∧st[i]?=some (.dct [(.inr w,.int n)])∧Wd w∧smI n)
theorem Th.keep {g:Nat} {st st':Store} {d:D} {c:List Nat} (h:Th g st d) (k:Ex c st st') (hc:∀ x∈c,x≤g):Th g st' d:=by
 rcases h with h | h | h | h | h | ⟨i,w,rfl,hi,e,hw⟩ | ⟨i,w,n,rfl,hi,e,hw⟩
 ·exact .inl h
 ·exact .inr (.inl h)
 ·exact .inr (.inr (.inl h))
 ·exact .inr (.inr (.inr (.inl h)))
 ·exact .inr (.inr (.inr (.inr (.inl h))))
 ·exact .inr (.inr (.inr (.inr (.inr (.inl ⟨i,w,rfl,hi,k.keep _ _ e fun z=>by have:=hc _ z;omega,hw⟩)))))
 ·exact .inr (.inr (.inr (.inr (.inr (.inr ⟨i,w,n,rfl,hi,k.keep _ _ e fun z=>by have:=hc _ z;omega,hw⟩)))))
theorem Th.toM {g:Nat} {st:Store} {d:D} (h:Th g st d):∃ p,toM st d=some p∧p.showable=true∧p.shown.length≤6000∧p.depth≤2:=by
 rcases h with ⟨n,rfl,hn⟩ | ⟨w,rfl,hw⟩ | rfl | rfl | ⟨n,w,rfl,hn,hw⟩ | ⟨i,w,rfl,hi,e,hw⟩ | ⟨i,w,n,rfl,hi,e,hw,hn⟩
 ·exact ⟨.int n,rfl,XaC hn,Nat.le_trans (yaI hn) (by decide),by simp [PyData.depth]⟩
 ·refine ⟨.str w,?_,by simp [PyData.showable],?_,by simp [PyData.depth]⟩
  ·show (if (PyData.str w).canLay0=true then some (PyData.str w) else none)=_
   rw [if_pos hw.ok]
  ·simp only [PyData.shown];exact Nat.le_trans hw.len (by decide)
 ·exact ⟨.none,rfl,by simp [PyData.showable],by simp only [PyData.shown];decide,by simp [PyData.depth]⟩
 ·exact ⟨.bool true,rfl,by simp [PyData.showable],by simp only [PyData.shown];decide,by simp [PyData.depth]⟩
 ·refine ⟨.tuple [.int n,.str w],?_,?_,?_,by simp [PyData.depth,PyData.depthAll]⟩
  ·show (if (PyData.tuple [.int n,.str w]).canLay0=true then some (PyData.tuple [.int n,.str w]) else none)=_
   have:=hw.ok
   rw [if_pos (by simp only [PyData.canLay0,PyData.canLayAll0,Bool.and_true,Bool.true_and] at this ⊢;exact this)]
  ·have:=XaC hn
   simp only [PyData.showable,PyData.showableAll,Bool.and_true] at this ⊢;exact this
  ·have h1:=yaI hn
   have h2:=hw.len
   simp only [PyData.shown,PyData.shownAll] at h1 ⊢
   refine Nat.le_trans (Xat _) ?_
   rw [piled_cons,piled_cons,piled_nil]
   omega
 ·refine ⟨.list [.str w,.none],?_,by simp [PyData.showable,PyData.showableAll],?_,by simp [PyData.depth,PyData.depthAll]⟩
  ·have e1:toP st 20 (.ref i)=some (.list [.str w,.none]):=by simp only [toP,xae e,mapO];rfl
   have:=hw.ok
   unfold L4.toM
   rw [e1]
   show (if (PyData.list [.str w,.none]).canLay0=true then some (PyData.list [.str w,.none]) else none)=_
   rw [if_pos (by simp only [PyData.canLay0,PyData.canLayAll0,Bool.and_true] at this ⊢;exact this)]
  ·have h2:=hw.len
   simp only [PyData.shown,PyData.shownAll]
   refine Nat.le_trans (listText_len_le _) ?_
   have e4:(("None" : String):Str).length=4:=rfl
   simp only [List.map_cons,List.map_nil,List.sum_cons,List.sum_nil,List.length_cons,List.length_nil,e4]
   omega
 ·refine ⟨.dict [(.str w,.int n)],?_,?_,?_,by simp [PyData.depth,PyData.depthKv]⟩
  ·have e1:toP st 20 (.ref i)=none:=by simp only [toP,items,e]
   unfold L4.toM
   rw [e1]
   show (match st[i]? with | some (.dct [(.inr w,.int n)])=>some (PyData.dict [(.str w,.int n)]) | _=>none)=_
   rw [e]
  ·have:=XaC hn
   simp only [PyData.showable,PyData.showableKv,Bool.and_true,Bool.true_and] at this ⊢;exact this
  ·have h1:=yaI hn
   have h2:=hw.len
   simp only [PyData.shown,PyData.shownKv] at h1 ⊢
   unfold dictText
   rw [strLen_append,strLen_append]
   have h3:=join_length_add [reprText w ++ ": " ++ toString n] (by simp)
   rw [piled_cons,piled_nil,strLen_append,strLen_append] at h3
   have e1:(("{" : String):Str).length=1:=rfl
   have e2:(("}" : String):Str).length=1:=rfl
   have e3:((": " : String):Str).length=2:=rfl
   omega
theorem zaX {g:Nat} {st:Store}:∀ {ds:List D},(∀ d∈ds,Th g st d)→∃ ps,mapO (toM st) ds=some ps∧PyData.showableAll ps=true∧piled (PyData.shownAll ps)≤6002 * ds.length∧PyData.depthAll ps≤2
 | [],_=>⟨[],rfl,by simp [PyData.showableAll],by simp [PyData.shownAll,piled_nil],by simp [PyData.depthAll]⟩
 | d :: ds,h=>by
  obtain ⟨p,e1,s1,l1,d1⟩:=(h d List.mem_cons_self).toM
  obtain ⟨ps,e2,s2,l2,d2⟩:=zaX fun x hx=>h x (List.mem_cons_of_mem _ hx)
  refine ⟨p :: ps,?_,?_,?_,?_⟩
  ·simp only [mapO,e1,e2]
  ·simp only [PyData.showableAll,s1,s2,Bool.and_true]
  ·simp only [PyData.shownAll,List.length_cons];rw [piled_cons];omega
  ·simp only [PyData.depthAll];omega
theorem ya4 {g:Nat} {st:Store} {ds:List D} {Q:D→Store→Prop} (h:∀ d∈ds,Th g st d) (hl:ds.length≤2):∃ x,∀ Q:D→Store→Prop,Wp (gReprM [.tup ds] st) Q↔Q (.str x) st:=by
 obtain ⟨ps,e1,s1,l1,d1⟩:=zaX h
 refine ⟨_,fun Q=>xa3 e1 s1 ?_ (by omega)⟩
 simp only [PyData.shown]
 refine Nat.le_trans (Xat _) ?_
 rw [sizeLine_eq];omega
theorem abc {c:Int} (c0:0≤c) (c1:c < 26):∃ k:Nat,k < 1000∧atI (("abcdefghijklmnopqrstuvwxyz" : Str).cps.toList) c=some k:=by
 obtain ⟨j,rfl⟩:∃ j:Nat,c=(j:Int):=⟨c.toNat,by omega⟩
 have h:∀ j:Fin 26,∃ k:Nat,k < 1000∧atI (("abcdefghijklmnopqrstuvwxyz" : Str).cps.toList) (j.val:Int)=some k:=by
  intro j
  match j with
  | ⟨0,_⟩=>exact ⟨_,(show 97 < 1000 by decide),rfl⟩
  | ⟨k + 1,hk⟩=>exact ⟨98 + k,by omega,by
    rcases (show k=0∨k=1∨k=2∨k=3∨k=4∨k=5∨k=6∨k=7∨k=8∨k=9∨k=10∨k=11∨k=12∨k=13∨k=14∨k=15∨k=16∨k=17∨k=18∨k=19∨k=20∨k=21∨k=22∨k=23∨k=24 by omega) with rfl | rfl | rfl | rfl | rfl | rfl | rfl | rfl | rfl | rfl | rfl | rfl | rfl | rfl | rfl | rfl | rfl | rfl | rfl | rfl | rfl | rfl | rfl | rfl | rfl <;> rfl⟩
 exact h ⟨j,by omega⟩
theorem YaA {ys:List D} (h:∀ (i:Nat) (y:D),ys[i]?=some y→∃ k:Nat,k < 1000∧y=D.str (sO [k])):∃ ks:List Nat,(∀ k∈ks,k < 1000)∧ys=(ks.map fun k=>sO [k]).map D.str:=by
 induction ys with
 | nil=>exact ⟨[],(fun j hj=>nomatch hj),rfl⟩
 | cons y r ih =>
  obtain ⟨j,hj,rfl⟩:=h 0 y (by simp)
  obtain ⟨js,hjs,e⟩:=ih fun i z hz=>h (i + 1) z (by simpa using hz)
  refine ⟨j :: js,fun x hx=>?_,by rw [e];rfl⟩
  rcases List.mem_cons.mp hx with rfl | hx
  ·exact hj
  ·exact hjs x hx
theorem yaX (ks:List Nat):Str.join (Str.ofString "") (ks.map fun k=>sO [k])=sO ks:=by
 have e:(ks.map fun k=>sO [k])=(ks.map fun k=>[k]).map sO:=by rw [List.map_map];rfl
 rw [e,show (Str.ofString "")=sO [] from rfl,join0]
 congr 1
 rw [← List.flatMap_def]
 exact ((List.map_eq_flatMap (f:=fun k:Nat=>k) (l:=ks)).symm).trans (List.map_id' ks)
theorem zaA {st:Store} {f g:Nat} {k:Int} (hf:FeedIs st f) (fg:f≤g) (hg:g < st.length) (k0:0≤k) (k1:k < 10):Wp (xaf [.ref f,.int k] st) fun d st'=>Th g st' d∧FeedIs st' f∧Ex [f] st st':=by
 refine yaF ?_
 show Ws (xam [some (.ref f),some (.int k),none,none,none] st) _ _ _ _
 unfold xam
 refine zaf (yam ?_)
 refine Zad ?_
 intro qhQ hQ
 set_option simprocs false in simp only [wpB]
 refine ⟨⟨by decide,by decide,by decide⟩,rfl,?_⟩
 refine yab (Xan (n:=2) (hf.keep (Ex.app0 _)) (by decide) (by decide)) ?_
 rintro d s1 ⟨c,rfl,c0,c1,f1,k1⟩
 have hi1:=k1.keep st.length _ Yae (by have:=hf.lt;simp;omega)
 obtain ⟨gr,hgr,g1,g2⟩:∃ gr:Int,atI [D.int 100,D.int (10 ^ Int.toNat 9)] c=some (.int gr)∧1≤gr∧gr≤1000000000:=by
  rcases (show c=0∨c=1 by omega) with rfl | rfl
  ·exact ⟨_,at0 _ _,by decide,by decide⟩
  ·exact ⟨_,at1 _ _ _,by decide,by decide⟩
 set_option simprocs false in simp only [wpB,xae hi1,hgr]
 refine yab (Xan (n:=gr) f1 (by omega) (by omega)) ?_
 rintro d s2 ⟨n,rfl,n0,n1,f2,k2⟩
 refine hQ _ _ (zaf (yam ?_))
 clear hQ
 have k12:Ex [f] st s2:=((Ex.app0 _).trans k1).trans k2
 refine Zad ?_
 intro qhQ hQ
 set_option simprocs false in simp only [wpB]
 refine ⟨rfl,?_⟩
 obtain ⟨_,s3,e3,m,rfl,m0,m1,f3,k3⟩:=Xan (n:=6) f2 (by decide) (by decide)
 obtain ⟨mm,hmm⟩:∃ mm:Nat,1 + m=(mm:Int):=⟨(1 + m).toNat,by omega⟩
 have k13:Ex [f] st s3:=k12.trans k3
 refine Xa2 (rangeD 0 mm) (fun _ y=>∃ c:Nat,c < 1000∧y=D.str (sO [c])) (fun s=>FeedIs s f∧Ex [f] st s) ?_ (by rw [yad];omega) ?_ ?_
 ·refine Zad ?_
  intro qhQ2 hQ2
  set_option simprocs false in simp only [wpB]
  refine ⟨_,_,e3,?_⟩
  set_option simprocs false in simp only [wpB,hmm]
  exact ⟨by omega,hQ2 _ _ ⟨fun i s hi _=>by rw [Int.toNat_natCast];exact xaV _ s i s hi Ex.refl,f3,k13⟩⟩
 ·rintro i d hd s ⟨fs,ks⟩
  refine Zad ?_
  intro qhQ2 hQ2
  set_option simprocs false in simp only [wpB,List.map_cons,List.map_nil,List.getD_cons_succ,List.getD_cons_zero]
  refine yab (Xan (n:=26) fs (by decide) (by decide)) ?_
  rintro d s4 ⟨c,rfl,c0,c1,f4,k4⟩
  obtain ⟨x,hx,ex⟩:=abc c0 c1
  rw [Za7]
  exact ⟨x,rfl,ex,hQ2 _ _ ⟨⟨x,hx,rfl⟩,f4,ks.trans k4⟩⟩
 ·rintro ys s4 ⟨f4,k4⟩ hyl hys
  obtain ⟨xs,hxs,rfl⟩:=YaA hys
  rw [yad,List.length_map,List.length_map] at hyl
  rw [Zbg xai (by rw [List.length_map];omega) (by decide) (fun x hx=>by
   obtain ⟨j,_,rfl⟩:=List.mem_map.mp hx
   rw [XaV];exact (show 1≤100 by decide)),yaX]
  have hw:Wd (sO xs):=⟨by rw [XaV];omega,fun c hc=>hxs c (by rw [Ya7] at hc;exact hc)⟩
  have hw2:Wd (Str.ofString " 01" ++ sO xs ++ Str.ofString "\n"):=by
   have e1:Str.ofString " 01" = sO [32,48,49]:=rfl
   have e2:Str.ofString "\n" = sO [10]:=rfl
   rw [e1,e2,yaK,yaK]
   refine ⟨by rw [XaV];simp;omega,fun c hc=>?_⟩
   rw [Ya7] at hc
   simp only [List.mem_append,List.mem_cons,List.not_mem_nil,or_false] at hc
   rcases hc with ((rfl | rfl | rfl) | hc) | rfl
   ·decide
   ·decide
   ·decide
   ·exact hxs c hc
   ·decide
  have f5:=f4.keep (Ex.app0 [O.lst (List.map D.str (List.map (fun k=>sO [k]) xs))])
  have k5:=k4.app [O.lst (List.map D.str (List.map (fun k=>sO [k]) xs))]
  generalize s4 ++ [O.lst (List.map D.str (List.map (fun k=>sO [k]) xs))]=s5 at f5 k5 ⊢
  generalize sO xs=w at hw hw2 ⊢
  refine hQ _ _ (zaf (yam ?_))
  clear hQ
  have hg5:g < s5.length:=Nat.lt_of_lt_of_le hg k5.len
  refine Zad ?_
  intro qhQ hQ
  set_option simprocs false in simp only [wpB,XaU]
  refine ⟨rfl,rfl,Yae,[(.inr w,.int n)],rfl,(show 1≤15 by decide),?_⟩
  have hwl:=hw.1
  have e01:(Str.ofString " 01").length=3:=rfl
  have e1n:(Str.ofString "\n").length=1:=rfl
  rw [yaW]
  refine ⟨zaK (by rw [e01];omega),?_⟩
  rw [yaW]
  refine ⟨zaK (by rw [strLen_append,e01,e1n];omega),rfl,hQ _ _ (yal ?_)⟩
  clear hQ
  have em:mergeD [] [(Sum.inr w,D.int n)]=[(.inr w,.int n)]:=rfl
  rw [em]
  have hl6:(s5 ++ [O.lst [D.str w,D.non]]).length=s5.length + 1:=by simp
  have h6a:((s5 ++ [O.lst [D.str w,D.non]] ++ [O.dct []]).set (s5 ++ [O.lst [D.str w,D.non]]).length (O.dct [(.inr w,.int n)]))[s5.length]?=some (.lst [.str w,.non]):=by
   rw [List.getElem?_set_ne (by omega)];exact yae Yae
  have h6b:((s5 ++ [O.lst [D.str w,D.non]] ++ [O.dct []]).set (s5 ++ [O.lst [D.str w,D.non]]).length (O.dct [(.inr w,.int n)]))[(s5 ++ [O.lst [D.str w,D.non]]).length]?=some (.dct [(.inr w,.int n)]):=List.getElem?_set_self (by simp)
  have k6:Ex [f] st ((s5 ++ [O.lst [D.str w,D.non]] ++ [O.dct []]).set (s5 ++ [O.lst [D.str w,D.non]]).length (O.dct [(.inr w,.int n)])):=((k5.app _).app _).loc (by rw [hl6];have:=k5.len;omega)
  have f6:FeedIs ((s5 ++ [O.lst [D.str w,D.non]] ++ [O.dct []]).set (s5 ++ [O.lst [D.str w,D.non]]).length (O.dct [(.inr w,.int n)])) f:=((f5.keep (Ex.app0 _)).keep (Ex.app0 _)).ne (by rw [hl6];have:=f5.lt;omega)
  rw [hl6] at h6a h6b k6 f6 ⊢
  generalize (s5 ++ [O.lst [D.str w,D.non]] ++ [O.dct []]).set (s5.length + 1) (O.dct [(.inr w,.int n)])=s6 at h6a h6b k6 f6 ⊢
  have f7:∀ o,FeedIs (s6 ++ [o]) f:=fun o=>f6.keep (Ex.app0 _)
  have k7:∀ o,Ex [f] st (s6 ++ [o]):=fun o=>k6.app _
  have sm:smI n:=⟨by omega,by omega⟩
  have sm2:smI (0 - n):=⟨by omega,by omega⟩
  have hwe:Wd (Str.ofString ""):=⟨by decide,fun c hc=>by cases hc⟩
  refine Zad ?_
  intro qhQ hQ
  set_option simprocs false in simp only [wpB,xai]
  rcases (show k=0∨k=1∨k=2∨k=3∨k=4∨k=5∨k=6∨k=7∨k=8∨k=9 by omega) with rfl | rfl | rfl | rfl | rfl | rfl | rfl | rfl | rfl | rfl
  ·exact ⟨_,rfl,hQ _ _ ⟨.inl ⟨n,rfl,sm⟩,f7 _,k7 _⟩⟩
  ·exact ⟨_,rfl,hQ _ _ ⟨.inl ⟨0 - n,rfl,sm2⟩,f7 _,k7 _⟩⟩
  ·exact ⟨_,rfl,hQ _ _ ⟨.inr (.inl ⟨w,rfl,hw⟩),f7 _,k7 _⟩⟩
  ·exact ⟨_,rfl,hQ _ _ ⟨.inr (.inr (.inl rfl)),f7 _,k7 _⟩⟩
  ·exact ⟨_,rfl,hQ _ _ ⟨.inr (.inr (.inr (.inl rfl))),f7 _,k7 _⟩⟩
  ·exact ⟨_,rfl,hQ _ _ ⟨.inr (.inr (.inr (.inr (.inl ⟨n,w,rfl,sm,hw⟩)))),f7 _,k7 _⟩⟩
  ·exact ⟨_,rfl,hQ _ _ ⟨.inr (.inr (.inr (.inr (.inr (.inl ⟨_,w,rfl,hg5,yae h6a,hw⟩))))),f7 _,k7 _⟩⟩
  ·exact ⟨_,rfl,hQ _ _ ⟨.inr (.inr (.inr (.inr (.inr (.inr ⟨_,w,n,rfl,Nat.lt_succ_of_lt hg5,yae h6b,hw,sm⟩))))),f7 _,k7 _⟩⟩
  ·exact ⟨_,rfl,hQ _ _ ⟨.inr (.inl ⟨_,rfl,hwe⟩),f7 _,k7 _⟩⟩
  ·exact ⟨_,rfl,hQ _ _ ⟨.inr (.inl ⟨_,rfl,hw2⟩),f7 _,k7 _⟩⟩
noncomputable def nm:Nat→Str
 | 0=>"NoText" | 1=>"NoFloor" | 2=>"NoTable" | 3=>"NoSlope" | 4=>"TooMany" | 5=>"NoName" | _=>"NoRow"
noncomputable def flds (k:Nat) (d e:D):List (Str×D):=match k with
 | 0=>[("row",e)] | 1=>[("word",d),("at",e)] | 4=>[("most",e)] | 5=>[("name",d)] | _=>[]
noncomputable def dues (k:Nat) (d e:D):List D:=match k with
 | 0=>[e] | 1=>[d,e] | 4=>[e] | 5=>[d] | _=>[]
theorem k7 {k:Nat} (h:k < 7):k=0∨k=1∨k=2∨k=3∨k=4∨k=5∨k=6:=by omega
theorem XaF {st:Store} {k:Nat} {d e:D} (hk:k < 7):Wp (yag [.int (k:Int),d,e] st) fun r st'=>∃ i,r=.ref i∧st.length≤i∧st'[i]?=some (.exc (nm k) (flds k d e))∧Ex [] st st':=by
 refine yaF ?_
 show Ws (Yai [some (.int (k:Int)),some d,some e] st) _ _ _ _
 unfold Yai
 refine zaf (Zaw ?_)
 refine Zad ?_
 intro qhQ hQ
 set_option simprocs false in simp only [wpB]
 refine hQ _ _ ⟨fun z=>yal ?_,fun z1=>yan (zaf (Zaw ?_))⟩
 ·clear hQ
  refine Zad ?_
  intro qhQ hQ
  set_option simprocs false in simp only [wpB,xaW]
  refine ⟨rfl,?_⟩
  have hk2:k=0∨k=1:=by have:=of_decide_eq_true z;omega
  rcases hk2 with rfl | rfl
  ·exact ⟨_,at0 _ _,hQ _ _ ⟨_,rfl,Nat.le_refl _,yae (yae Yae),(((Ex.refl).app _).app _).app _⟩⟩
  ·exact ⟨_,at1 _ _ _,hQ _ _ ⟨_,rfl,by simp,yae Yae,(((Ex.refl).app _).app _).app _⟩⟩
 clear hQ
 refine Zad ?_
 intro qhQ hQ
 set_option simprocs false in simp only [wpB]
 refine hQ _ _ ⟨fun z=>yal ?_,fun z=>yan (yal ?_)⟩
 ·clear hQ
  refine Zad ?_
  intro qhQ hQ
  set_option simprocs false in simp only [wpB,xaK]
  refine ⟨rfl,?_⟩
  have hk2:k=2∨k=3:=by have:=of_decide_eq_true z;have:=of_decide_eq_false z1;omega
  rcases hk2 with rfl | rfl
  ·exact ⟨_,at0 _ _,hQ _ _ ⟨_,rfl,Nat.le_refl _,yae (yae Yae),(((Ex.refl).app _).app _).app _⟩⟩
  ·exact ⟨_,at1 _ _ _,hQ _ _ ⟨_,rfl,by simp,yae Yae,(((Ex.refl).app _).app _).app _⟩⟩
 ·clear hQ
  refine Zad ?_
  intro qhQ hQ
  set_option simprocs false in simp only [wpB,xaK,xaW]
  refine ⟨rfl,?_⟩
  have hk2:k=4∨k=5∨k=6:=by have:=of_decide_eq_false z;omega
  rcases hk2 with rfl | rfl | rfl
  ·exact ⟨_,at0 _ _,hQ _ _ ⟨_,rfl,Nat.le_refl _,yae (yae (yae Yae)),((((Ex.refl).app _).app _).app _).app _⟩⟩
  ·exact ⟨_,at1 _ _ _,hQ _ _ ⟨_,rfl,by simp,yae (yae Yae),((((Ex.refl).app _).app _).app _).app _⟩⟩
  ·exact ⟨_,at2 _ _ _ _,hQ _ _ ⟨_,rfl,by simp,yae Yae,((((Ex.refl).app _).app _).app _).app _⟩⟩
theorem lkNoText {k:Nat} (hk:k < 7):xas.lookup (nm k)=some (decide (k=0)):=by rcases k7 hk with rfl | rfl | rfl | rfl | rfl | rfl | rfl <;> decide +kernel
theorem lkNoFloor {k:Nat} (hk:k < 7):Xaq.lookup (nm k)=some (decide (k=1)):=by rcases k7 hk with rfl | rfl | rfl | rfl | rfl | rfl | rfl <;> decide +kernel
theorem lkNoTable {k:Nat} (hk:k < 7):yax.lookup (nm k)=some (decide (k=2)):=by rcases k7 hk with rfl | rfl | rfl | rfl | rfl | rfl | rfl <;> decide +kernel
theorem lkNoSlope {k:Nat} (hk:k < 7):zax.lookup (nm k)=some (decide (k=3)):=by rcases k7 hk with rfl | rfl | rfl | rfl | rfl | rfl | rfl <;> decide +kernel
theorem lkTooMany {k:Nat} (hk:k < 7):zar.lookup (nm k)=some (decide (k=4)):=by rcases k7 hk with rfl | rfl | rfl | rfl | rfl | rfl | rfl <;> decide +kernel
theorem lkNoName {k:Nat} (hk:k < 7):Xas.lookup (nm k)=some (decide (k=5)):=by rcases k7 hk with rfl | rfl | rfl | rfl | rfl | rfl | rfl <;> decide +kernel
theorem lkNoRow {k:Nat} (hk:k < 7):ZaF.lookup (nm k)=some (decide (k=6)):=by rcases k7 hk with rfl | rfl | rfl | rfl | rfl | rfl | rfl <;> decide +kernel
theorem lkFloorError {k:Nat} (hk:k < 7):yaq.lookup (nm k)=some true:=by rcases k7 hk with rfl | rfl | rfl | rfl | rfl | rfl | rfl <;> decide +kernel
theorem lkValueError {k:Nat} (hk:k < 7):Zaq.lookup (nm k)=some true:=by rcases k7 hk with rfl | rfl | rfl | rfl | rfl | rfl | rfl <;> decide +kernel
theorem ZaI {st:Store} {k i:Nat} {d e:D} (hk:k < 7) (hi:st[i]?=some (.exc (nm k) (flds k d e))):Wp (zah [.ref i] st) fun r st'=>r=.tup (dues k d e)∧st'=st:=by
 refine yaF ?_
 show Ws (xak [some (.ref i)] st) _ _ _ _
 unfold xak
 refine zaf (Zaw ?_)
 refine Zad ?_
 intro qhQ hQ
 set_option simprocs false in simp only [wpB,xau]
 refine isxL hi (lkNoText hk) ⟨_,rfl,hQ _ _ ⟨fun z=>yal ?_,fun z0=>yan (zaf (Zaw ?_))⟩⟩
 ·obtain rfl:=of_decide_eq_true z
  clear hQ
  refine Zad ?_
  intro qhQ hQ
  set_option simprocs false in simp only [wpB]
  refine xaw ?_
  set_option simprocs false in simp only [wpB]
  exact xgetq (fs:=[("row",e)]) hi List.lookup_cons_self ⟨rfl,hQ _ _ ⟨rfl,rfl⟩⟩
 clear hQ
 refine Zad ?_
 intro qhQ hQ
 set_option simprocs false in simp only [wpB,xau]
 refine isxL hi (lkNoFloor hk) ⟨_,rfl,hQ _ _ ⟨fun z=>yal ?_,fun z1=>yan (zaf (Zaw ?_))⟩⟩
 ·obtain rfl:=of_decide_eq_true z
  clear hQ
  refine Zad ?_
  intro qhQ hQ
  set_option simprocs false in simp only [wpB]
  refine xaw ?_
  set_option simprocs false in simp only [wpB]
  refine xgetq (fs:=[("word",d),("at",e)]) hi List.lookup_cons_self ?_
  refine xaw ?_
  set_option simprocs false in simp only [wpB]
  refine xgetq (fs:=[("word",d),("at",e)]) hi (by
   rw [List.lookup_cons,show ((Str.ofString "at") == (Str.ofString "word"))=false from by decide +kernel]
   exact List.lookup_cons_self) ⟨rfl,hQ _ _ ⟨rfl,rfl⟩⟩
 clear hQ
 refine Zad ?_
 intro qhQ hQ
 set_option simprocs false in simp only [wpB,xau]
 refine isxL hi (lkTooMany hk) ⟨_,rfl,hQ _ _ ⟨fun z=>yal ?_,fun z2=>yan (zaf (Zaw ?_))⟩⟩
 ·obtain rfl:=of_decide_eq_true z
  clear hQ
  refine Zad ?_
  intro qhQ hQ
  set_option simprocs false in simp only [wpB]
  refine xaw ?_
  set_option simprocs false in simp only [wpB]
  exact xgetq (fs:=[("most",e)]) hi List.lookup_cons_self ⟨rfl,hQ _ _ ⟨rfl,rfl⟩⟩
 clear hQ
 refine Zad ?_
 intro qhQ hQ
 set_option simprocs false in simp only [wpB,xau]
 refine isxL hi (lkNoName hk) ⟨_,rfl,hQ _ _ ⟨fun z=>yal ?_,fun z3=>yan (yal ?_)⟩⟩
 ·obtain rfl:=of_decide_eq_true z
  clear hQ
  refine Zad ?_
  intro qhQ hQ
  set_option simprocs false in simp only [wpB]
  refine xaw ?_
  set_option simprocs false in simp only [wpB]
  exact xgetq (fs:=[("name",d)]) hi List.lookup_cons_self ⟨rfl,hQ _ _ ⟨rfl,rfl⟩⟩
 clear hQ
 have:=of_decide_eq_false z0
 have:=of_decide_eq_false z1
 have:=of_decide_eq_false z2
 have:=of_decide_eq_false z3
 refine Zad ?_
 intro qhQ hQ
 set_option simprocs false in simp only [wpB]
 refine ⟨rfl,hQ _ _ ⟨?_,rfl⟩⟩
 rcases (show k=2∨k=3∨k=6 by omega) with rfl | rfl | rfl <;> rfl
noncomputable def sevens (k:Nat):List D:=[.bl (decide (k=0)),.bl (decide (k=1)),.bl (decide (k=2)),.bl (decide (k=3)),.bl (decide (k=4)),.bl (decide (k=5)),.bl (decide (k=6))]
theorem zaN {st:Store} {k i:Nat} {fs:List (Str×D)} (hk:k < 7) (hi:st[i]?=some (.exc (nm k) fs)):Wp (Xai [.ref i] st) fun r st'=>∃ g,r=.ref g∧items st' g=some (sevens k)∧Ex [] st st':=by
 refine yaF ?_
 show Ws (Zam [some (.ref i),none] st) _ _ _ _
 unfold Zam
 refine zaf (yam ?_)
 refine Zad ?_
 intro qhQ hQ
 set_option simprocs false in simp only [wpB,xau]
 refine isxL hi (lkNoText hk) (isxL hi (lkNoFloor hk) (isxL hi (lkNoTable hk) (isxL hi (lkNoSlope hk) ⟨rfl,hQ _ _ (yal ?_)⟩)))
 clear hQ
 have hi2:∀ o,(st ++ [o])[i]?=some (.exc (nm k) fs):=fun o=>yae hi
 refine Zad ?_
 intro qhQ hQ
 set_option simprocs false in simp only [wpB,xau]
 refine isxL (hi2 _) (lkTooMany hk) (isxL (hi2 _) (lkNoName hk) (isxL (hi2 _) (lkNoRow hk) ⟨rfl,?_⟩))
 exact ⟨_,yao (yae Yae),rfl,hQ _ _ ⟨_,rfl,xai,(((Ex.refl).app _).app _).app _⟩⟩
noncomputable def sevP (k:Nat):PyData:=.list [.bool (decide (k=0)),.bool (decide (k=1)),.bool (decide (k=2)),.bool (decide (k=3)),.bool (decide (k=4)),.bool (decide (k=5)),.bool (decide (k=6))]
theorem ZaX {st:Store} {g k:Nat} (h:items st g=some (sevens k)):toP st 20 (.ref g)=some (sevP k):=by
 simp only [toP,h,sevens,mapO];rfl
theorem xbg {k:Nat} (hk:k < 7):PyData.eqv (sevP k) (sevP k)=true:=by
 rcases k7 hk with rfl | rfl | rfl | rfl | rfl | rfl | rfl <;> decide +kernel
theorem YaX {k:Nat} (hk:k < 7):(rangeD 0 7).map (fun d=>D.bl (decide (inD d=(k:Int))))=sevens k:=by
 rcases k7 hk with rfl | rfl | rfl | rfl | rfl | rfl | rfl <;> rfl
theorem Xbg {g st:Nat} {S:Store} {k:Nat} {d e:D} (hd:Th g S d) (he:Th g S e):(∀ x∈dues k d e,Th g S x)∧(dues k d e).length≤2:=by
 unfold dues
 split
 ·exact ⟨fun x hx=>by rw [List.mem_singleton.mp hx];exact he,by simp⟩
 ·refine ⟨fun x hx=>?_,by simp⟩
  rcases List.mem_cons.mp hx with rfl | hx
  ·exact hd
  ·rw [List.mem_singleton.mp hx];exact he
 ·exact ⟨fun x hx=>by rw [List.mem_singleton.mp hx];exact he,by simp⟩
 ·exact ⟨fun x hx=>by rw [List.mem_singleton.mp hx];exact hd,by simp⟩
 ·exact ⟨(fun x hx=>nomatch hx),by simp⟩
theorem yaN {st:Store} {g k i:Nat} {d e:D} (hk:k < 7) (hi:st[i]?=some (.exc (nm k) (flds k d e))) (hd:Th g st d) (he:Th g st e):Wp (yaj [.int (k:Int),.ref i,.tup (dues k d e)] st) fun r st'=>r=.bl true∧Ex [] st st':=by
 refine yaF ?_
 show Ws (Yam [some (.int (k:Int)),some (.ref i),some (.tup (dues k d e))] st) _ _ _ _
 unfold Yam
 refine zaf (Zaw ?_)
 refine Zad ?_
 intro qhQ hQ
 set_option simprocs false in simp only [wpB]
 refine yab (zaN hk hi) ?_
 rintro d s1 ⟨a,rfl,ha,k1⟩
 refine XaM (rangeD 0 7) (fun d=>D.bl (decide (inD d=(k:Int)))) ?_ (by rw [yad];decide) ?_ ?_
 ·refine Zad ?_
  intro qhQ2 hQ2
  set_option simprocs false in simp only [wpB]
  exact ⟨by decide,hQ2 _ _ ⟨xaV _ _,Ex.refl⟩⟩
 ·intro x hx s2 k2
  rw [zaI] at hx
  obtain ⟨y,hy,rfl⟩:=xa2 hx
  refine Zad ?_
  intro qhQ2 hQ2
  set_option simprocs false in simp only [wpB,List.map_cons,List.map_nil,List.getD_cons_succ,List.getD_cons_zero]
  exact hQ2 _ _ ⟨rfl,Ex.refl⟩
 ·intro s2 k2
  rw [YaX hk]
  have ha2:items (s2 ++ [O.lst (sevens k)]) a=some (sevens k):=Xaz ha (k2.app _)
  refine wp_eqD.mpr ⟨_,_,ZaX ha2,ZaX xai,⟨rfl,rfl,by simp [sevP,PyData.depth,PyData.depthAll]⟩,?_⟩
  rw [xbg hk]
  have k3:Ex [] st (s2 ++ [O.lst (sevens k)]):=(k1.trans k2).app _
  have hi3:=k3.keep _ _ hi (by simp)
  have hd3:=hd.keep k3 (by simp)
  have he3:=he.keep k3 (by simp)
  generalize s2 ++ [O.lst (sevens k)]=s3 at k3 hi3 hd3 he3 ⊢
  refine ⟨false,rfl,?_⟩
  rw [if_neg (by decide)]
  set_option simprocs false in simp only [wpB,xau]
  refine isxL hi3 (lkFloorError hk) ⟨_,rfl,hQ _ _ ⟨fun z=>(nomatch z),fun _=>yan (yal ?_)⟩⟩
  clear hQ
  refine Zad ?_
  intro qhQ hQ
  set_option simprocs false in simp only [wpB,xau]
  refine isxL hi3 (lkValueError hk) ⟨_,rfl,?_⟩
  rw [if_pos rfl]
  refine yab (ZaI hk hi3) ?_
  rintro d s4 ⟨rfl,rfl⟩
  obtain ⟨h1,h2⟩:=Xbg (st:=0) (k:=k) hd3 he3
  obtain ⟨x,hx⟩:=ya4 (Q:=fun _ _=>True) h1 h2
  rw [hx,hx]
  set_option simprocs false in simp only [wpB]
  exact hQ _ _ ⟨by simp,k3⟩
noncomputable def Ak (g:Nat) (st:Store) (q:D):Prop:=∃ (k i:Nat) (d e:D),k < 7∧q=.tup [.int (k:Int),.ref i,.tup (dues k d e)]∧g < i∧st[i]?=some (.exc (nm k) (flds k d e))∧Th g st d∧Th g st e
theorem Ak.keep {g:Nat} {st st':Store} {q:D} {c:List Nat} (h:Ak g st q) (x:Ex c st st') (hc:∀ x∈c,x≤g):Ak g st' q:=by
 obtain ⟨k,i,d,e,hk,rfl,hi,ei,hd,he⟩:=h
 exact ⟨k,i,d,e,hk,rfl,hi,x.keep _ _ ei fun z=>by have:=hc _ z;omega,hd.keep x hc,he.keep x hc⟩
noncomputable def unT:D→D×D×D
 | .tup [a,b,c]=>(a,b,c)
 | _=>(.non,.non,.non)
theorem zbh {k:Nat} (hk:k < 7) (d e:D):atI [D.tup [e],D.tup [d,e],D.tup [],D.tup [],D.tup [e],D.tup [d],D.tup []] (k:Int)=some (.tup (dues k d e)):=by
 rcases k7 hk with rfl | rfl | rfl | rfl | rfl | rfl | rfl <;> rfl
theorem law_true (ns:List Int) (hn:ns.length≤63):Wp (Ybg [.ref 0] [.fzn (ns.map D.int)]) fun d _=>d=.bl true:=by
 refine yaF ?_
 show Ws (Xa3 [some (.ref 0),none,none,none,none,none,none,none,none,none] [.fzn (ns.map D.int)]) _ _ _ _
 unfold Xa3
 refine zaf (yam ?_)
 refine Zad ?_
 intro qhQ hQ
 set_option simprocs false in simp only [wpB]
 refine yab (XaW (st:=[.fzn (ns.map D.int)]) (a:=0) (ns:=ns) (k:=0) rfl (by decide)) ?_
 rintro d s1 ⟨rfl,f1,k1⟩
 have f1:FeedIs s1 1:=f1
 have hl1:1 < s1.length:=f1.lt
 refine hQ _ _ (zaf (yam ?_))
 clear hQ
 refine Zad ?_
 intro qhQ hQ
 set_option simprocs false in simp only [wpB]
 refine ⟨rfl,hQ _ _ ?_⟩
 clear hQ
 generalize hg:s1.length=g at hl1 ⊢
 have f2:FeedIs (s1 ++ [O.lst []]) 1:=f1.keep (Ex.app0 _)
 have h2:(s1 ++ [O.lst []])[g]?=some (.lst []):=by rw [← hg];exact Yae
 refine zaf (ya7 (rangeD 0 7) (fun i δ st=>∃ (v3 v4 v5 v6 v7 v8 v9:Option D) (qs:List D),δ=[some (.ref 0),some (.ref 1),some (.ref g),v3,v4,v5,v6,v7,v8,v9]∧FeedIs st 1∧st[g]?=some (.lst qs)∧qs.length≤3 * i∧∀ q∈qs,Ak g st q) ?_ (by rw [yad];omega) ?_ ?_)
 ·refine Zad ?_
  intro qhQ hQ
  set_option simprocs false in simp only [wpB]
  exact ⟨by decide,hQ _ _ ⟨rfl,none,none,none,none,none,none,none,[],rfl,f2,h2,Nat.le_refl _,(fun q hq=>nomatch hq)⟩⟩
 ·rintro i d δ st hd ⟨v3,v4,v5,v6,v7,v8,v9,qs,rfl,fS,hG,hl,hq⟩
  have hil:=yaf hd
  rw [yad] at hil
  rw [Yas hil,Int.zero_add] at hd
  cases hd
  refine Zad ?_
  intro qhQ hQ
  set_option simprocs false in simp only [wpB]
  refine hQ _ _ (ya7 (rangeD 0 3) (fun j δ st=>∃ (v4 v5 v6 v7 v8 v9:Option D) (qs:List D),δ=[some (.ref 0),some (.ref 1),some (.ref g),some (.int (i:Int)),v4,v5,v6,v7,v8,v9]∧FeedIs st 1∧st[g]?=some (.lst qs)∧qs.length≤3 * i + j∧∀ q∈qs,Ak g st q) ?_ (by rw [yad];omega) ?_ ?_)
  ·clear hQ
   refine Zad ?_
   intro qhQ hQ
   set_option simprocs false in simp only [wpB]
   exact ⟨by decide,hQ _ _ ⟨rfl,_,_,_,_,_,_,qs,rfl,fS,hG,hl,hq⟩⟩
  ·clear hQ
   rintro j d δ st hd ⟨v4,v5,v6,v7,v8,v9,qs,rfl,fS,hG,hl,hq⟩
   have hjl:=yaf hd
   rw [yad] at hjl
   rw [Yas hjl,Int.zero_add] at hd
   cases hd
   have c1:∀ x∈[1],x≤g:=fun x hx=>by rw [List.mem_singleton.mp hx];omega
   have c0:∀ x∈([]:List Nat),x≤g:=fun x hx=>nomatch hx
   have hgl:=yaf hG
   refine Zad ?_
   intro qhQ hQ
   set_option simprocs false in simp only [wpB]
   refine hQ _ _ (zaf (za7 ?_))
   clear hQ
   refine Zad ?_
   intro qhQ hQ
   set_option simprocs false in simp only [wpB]
   refine yab (Xan (n:=10) fS (by decide) (by decide)) ?_
   rintro d s2 ⟨a,rfl,a0,a1,f2,k2⟩
   refine yab (Xan (n:=10) f2 (by decide) (by decide)) ?_
   rintro d s3 ⟨b,rfl,b0,b1,f3,k3⟩
   refine hQ _ _ ⟨_,_,rfl,zaf (za7 ?_)⟩
   clear hQ
   refine Zad ?_
   intro qhQ hQ
   set_option simprocs false in simp only [wpB]
   have k13:=k2.trans k3
   refine yab (zaA (g:=g) f3 (by omega) (Nat.lt_of_lt_of_le hgl k13.len) a0 a1) ?_
   rintro d s4 ⟨t4,f4,k4⟩
   rename D=>dd
   refine yab (zaA (g:=g) f4 (by omega) (Nat.lt_of_lt_of_le hgl (k13.trans k4).len) b0 b1) ?_
   rintro d s5 ⟨t5,f5,k5⟩
   rename D=>ee
   have t4:=t4.keep k5 c1
   have k15:=(k13.trans k4).trans k5
   refine hQ _ _ ⟨_,_,rfl,zaf (yam ?_)⟩
   clear hQ
   refine Zad ?_
   intro qhQ hQ
   set_option simprocs false in simp only [wpB,xai,zbh hil]
   refine ⟨rfl,rfl,rfl,rfl,rfl,rfl,rfl,rfl,hQ _ _ (Ybd ?_)⟩
   clear hQ
   generalize hL:O.lst [D.tup [ee],D.tup [dd,ee],D.tup [],D.tup [],D.tup [ee],D.tup [dd],D.tup []]=oL
   have f6:=f5.keep (Ex.app0 [oL])
   have k16:=k15.app [oL]
   have t4:=t4.keep (Ex.app0 (c:=[]) [oL]) c0
   have t5:=t5.keep (Ex.app0 (c:=[]) [oL]) c0
   generalize s5 ++ [oL]=s6 at f6 k16 t4 t5 ⊢
   have hG6:=k16.keep _ _ hG (by simp;omega)
   refine Zad ?_
   intro qhQ hQ
   set_option simprocs false in simp only [wpB]
   refine ⟨Za1 (by rw [xae hG6];rfl),?_⟩
   refine yab (XaF (k:=i) (d:=dd) (e:=ee) hil) ?_
   rintro d s7 ⟨x,rfl,hx,ex,k7'⟩
   have hG7:=k7'.keep _ _ hG6 (by simp)
   have k17:=k16.trans (k7'.any (c:=[1]))
   set_option simprocs false in simp only [wpB,yao hG7]
   have kS:Ex [g] s7 (s7.set g (.lst (qs ++ [D.tup [D.int (i:Int),D.ref x,D.tup (dues i dd ee)]]))):=Ex.refl.put (by simp)
   have cg:∀ x∈[g],x≤g:=fun x hx=>by rw [List.mem_singleton.mp hx];omega
   refine ⟨rfl,zaK (by omega),hQ _ _ ⟨_,_,_,_,_,_,_,rfl,(f6.keep k7').ne (by omega),List.getElem?_set_self (yaf hG7),by rw [List.length_append];show _ + 1≤_;omega,fun q hq'=>?_⟩⟩
   rcases List.mem_append.mp hq' with hq' | hq'
   ·exact ((hq q hq').keep k17 c1).keep kS cg
   ·rw [List.mem_singleton.mp hq']
    have:g < x:=Nat.lt_of_lt_of_le (yaf hG6) hx
    exact Ak.keep ⟨i,x,dd,ee,hil,rfl,this,ex,t4.keep k7' c0,t5.keep k7' c0⟩ kS cg
  ·clear hQ
   rintro δ st ⟨v4,v5,v6,v7,v8,v9,qs,rfl,fS,hG,hl,hq⟩
   rw [yad] at hl
   exact ⟨_,_,_,_,_,_,_,qs,rfl,fS,hG,by omega,hq⟩
 ·rintro δ st ⟨v3,v4,v5,v6,v7,v8,v9,qs,rfl,fS,hG,hl,hq⟩
  rw [yad] at hl
  refine yal ?_
  refine Zad ?_
  intro qhQ hQ
  set_option simprocs false in simp only [wpB]
  have hq2:∀ q∈qs ++ qs,Ak g st q:=fun q hq'=>by rcases List.mem_append.mp hq' with h | h <;> exact hq q h
  have hl2:(qs ++ qs).length≤60:=by rw [List.length_append];omega
  have hun:((qs ++ qs).map unT).map (fun p=>D.tup [p.1,p.2.1,p.2.2])=qs ++ qs:=by
   rw [List.map_map]
   refine (List.map_congr_left fun q hq'=>?_).trans (List.map_id _)
   obtain ⟨k,i,d,e,hk,rfl,_⟩:=hq2 q hq'
   rfl
  refine ZaW ((qs ++ qs).map unT) (fun _=>.bl true) ?_ (by rw [List.length_map];omega) ?_ ?_
  ·rw [hun]
   refine Zad ?_
   intro qhQ2 hQ2
   set_option simprocs false in simp only [wpB,xae hG,yao hG]
   exact ⟨zaK (by omega),hQ2 _ _ ⟨Ya2 xai,(Ex.refl).app _⟩⟩
  ·intro p hp s5 k5
   obtain ⟨q,hq',rfl⟩:=List.mem_map.mp hp
   obtain ⟨k,i,d,e,hk,rfl,hi,ei,td,te⟩:=(hq2 q hq').keep k5 (fun x hx=>nomatch hx)
   refine Zad ?_
   intro qhQ2 hQ2
   set_option simprocs false in simp only [wpB,List.map_cons,List.map_nil,List.getD_cons_succ,List.getD_cons_zero,unT]
   refine yab (yaN hk ei td te) ?_
   rintro d s6 ⟨rfl,k6⟩
   exact hQ2 _ _ ⟨rfl,k6⟩
  ·intro s5 k5
   have e1:mapO bV (((qs ++ qs).map unT).map fun _=>D.bl true)=some (((qs ++ qs).map unT).map fun _=>true):=zaB (f:=bV) (g:=fun _=>D.bl true) (k:=fun _=>true) (fun _=>rfl) _
   have e2:(((qs ++ qs).map unT).map fun _=>true).all id=true:=by
    rw [List.all_eq_true]
    intro b hb
    obtain ⟨_,_,rfl⟩:=List.mem_map.mp hb
    rfl
   set_option simprocs false in simp only [wpB,xai,e1,e2]
   exact hQ _ _ rfl
theorem all_ok {P:Program} {w:World} {K:PySem.W.Frag} {mg:Str→Option Value} {base:Heap} (T:Txt mg) {cNoText cNoFloor cNoTable cNoSlope cTooMany cNoName cNoRow cFloorError cI_NoText cI_NoFloor cI_TooMany cI_NoName:Addr} (Z:XF K mg cNoText cNoFloor cNoTable cNoSlope cTooMany cNoName cNoRow cFloorError cI_NoText cI_NoFloor cI_TooMany cI_NoName)  {f_law_feed:Addr} {d_law_feed:FuncData} (D_law_feed:Def K mg "_law_feed" Yal ["_law_script","_law_k"] f_law_feed d_law_feed) {f_law_sorts:Addr} {d_law_sorts:FuncData} (D_law_sorts:Def K mg "_law_sorts" zaj ["_law_e"] f_law_sorts d_law_sorts) {f_law_fields:Addr} {d_law_fields:FuncData} (D_law_fields:Def K mg "_law_fields" yah ["_law_e"] f_law_fields d_law_fields) {f_law_right:Addr} {d_law_right:FuncData} (D_law_right:Def K mg "_law_right" Zaj ["_law_k","_law_made","_law_due"] f_law_right d_law_right) {f_law_take:Addr} {d_law_take:FuncData} (D_law_take:Def K mg "_law_take" zai ["_law_feed_here","_law_many"] f_law_take d_law_take) {f_law_thing:Addr} {d_law_thing:FuncData} (D_law_thing:Def K mg "_law_thing" Yaj ["_law_feed_here","_law_which"] f_law_thing d_law_thing) {f_law_refusal:Addr} {d_law_refusal:FuncData} (D_law_refusal:Def K mg "_law_refusal" Zag ["_law_k","_law_word","_law_number"] f_law_refusal d_law_refusal) {flaw:Addr} {dlaw:FuncData} (Dlaw:Def K mg "law" za4 ["_law_script"] flaw dlaw):FnOk P w K mg base CX0 4 flaw dlaw ["_law_script"] (spF K 1 Ybg):=by
 obtain ⟨dI_NoText,I_NoText,BI_NoText⟩:=Z.I_NoText
 have GI_NoText:=xay (P:=P) (w:=w) (mg:=mg) (base:=base) I_NoText
 obtain ⟨dI_NoFloor,I_NoFloor,BI_NoFloor⟩:=Z.I_NoFloor
 have GI_NoFloor:=xax (P:=P) (w:=w) (mg:=mg) (base:=base) I_NoFloor
 obtain ⟨dI_TooMany,I_TooMany,BI_TooMany⟩:=Z.I_TooMany
 have GI_TooMany:=Xax (P:=P) (w:=w) (mg:=mg) (base:=base) I_TooMany
 obtain ⟨dI_NoName,I_NoName,BI_NoName⟩:=Z.I_NoName
 have GI_NoName:=Xay (P:=P) (w:=w) (mg:=mg) (base:=base) I_NoName
 have G_law_feed:=YaF (P:=P) (w:=w) (base:=base) D_law_feed T
 have G_law_sorts:=yaC (P:=P) (w:=w) (base:=base) D_law_sorts T  Z
 have G_law_fields:=yaz (P:=P) (w:=w) (base:=base) D_law_fields T  Z
 have G_law_right:=YaC (P:=P) (w:=w) (base:=base) D_law_right T  Z D_law_sorts G_law_sorts D_law_fields G_law_fields
 have G_law_take:=xaF (P:=P) (w:=w) (base:=base) D_law_take T
 have G_law_thing:=xaC (P:=P) (w:=w) (base:=base) D_law_thing T  D_law_take G_law_take
 have G_law_refusal:=yay (P:=P) (w:=w) (base:=base) D_law_refusal T  Z GI_NoText BI_NoText GI_NoFloor BI_NoFloor GI_TooMany BI_TooMany GI_NoName BI_NoName
 have Glaw:=ok_law (P:=P) (w:=w) (base:=base) Dlaw T  D_law_feed G_law_feed D_law_right G_law_right D_law_take G_law_take D_law_thing G_law_thing D_law_refusal G_law_refusal
 exact Glaw
end My
open PySem PySem.W PyProof.Rows L2
set_option maxRecDepth 100000 in
set_option maxHeartbeats 0 in
theorem PySem.Challenge.cw_shearfloor_k01_refusals_holds : PySem.Challenge.rw_shearfloor_k01_refusals.Holds := by
 w_on;o_law;k_head;(case hw=>w_witness2)
 k_fill
 refine L2.YaY (l:=PySem.Challenge.rw_shearfloor_k01_refusals) (n:=63) (k:=4) (x:="_law_script") (CX:=CX0) (sp:=L4.spLaw) rfl (by decide) rfl ⟨rfl,by decide,by decide,rfl⟩ (fun w h Y=>PySem.W.kIn_of Y) ?F ?S ?C
 case F =>
  intro w mg fa h KX G hmg
  have T:My.Txt mg:=by
   refine' ⟨yas KX G ?z0,yas KX G ?z1,yas KX G ?z2,yas KX G ?z3,yas KX G ?z4,yas KX G ?z5⟩
   (case z0=>k_is);(case z1=>k_is);(case z2=>k_is);(case z3=>k_is);(case z4=>k_is);(case z5=>k_is)
  have Z:∃ cNoText cNoFloor cNoTable cNoSlope cTooMany cNoName cNoRow cFloorError cI_NoText cI_NoFloor cI_TooMany cI_NoName,My.XF (L2.KOf KX) mg cNoText cNoFloor cNoTable cNoSlope cTooMany cNoName cNoRow cFloorError cI_NoText cI_NoFloor cI_TooMany cI_NoName:=by
   dsimp only [L2.KOf];refine' ⟨_,_,_,_,_,_,_,_,_,_,_,_,My.xf_mk KX G ?n_NoText ?n_NoFloor ?n_NoTable ?n_NoSlope ?n_TooMany ?n_NoName ?n_NoRow ?n_FloorError ?n_init_NoText ?n_init_NoFloor ?n_init_TooMany ?n_init_NoName ?kp_NoText ?k_NoText_NoSlope ?k_NoText_NoTable ?k_NoText_NoFloor ?k_NoText_NoText ?k_NoText_NoRow ?k_NoText_NoName ?k_NoText_TooMany ?k_NoText_FloorError ?k_NoText_ValueError ?xi_NoText ?fn_NoText ?t_NoText_row ?f_NoText_row ?kp_NoFloor ?k_NoFloor_NoSlope ?k_NoFloor_NoTable ?k_NoFloor_NoFloor ?k_NoFloor_NoText ?k_NoFloor_NoRow ?k_NoFloor_NoName ?k_NoFloor_TooMany ?k_NoFloor_FloorError ?k_NoFloor_ValueError ?xi_NoFloor ?fn_NoFloor ?t_NoFloor_word ?t_NoFloor_at ?f_NoFloor_word ?f_NoFloor_at ?kp_NoTable ?k_NoTable_NoSlope ?k_NoTable_NoTable ?k_NoTable_NoFloor ?k_NoTable_NoText ?k_NoTable_NoRow ?k_NoTable_NoName ?k_NoTable_TooMany ?k_NoTable_FloorError ?k_NoTable_ValueError ?x_NoTable ?kp_NoSlope ?k_NoSlope_NoSlope ?k_NoSlope_NoTable ?k_NoSlope_NoFloor ?k_NoSlope_NoText ?k_NoSlope_NoRow ?k_NoSlope_NoName ?k_NoSlope_TooMany ?k_NoSlope_FloorError ?k_NoSlope_ValueError ?x_NoSlope ?kp_TooMany ?k_TooMany_NoSlope ?k_TooMany_NoTable ?k_TooMany_NoFloor ?k_TooMany_NoText ?k_TooMany_NoRow ?k_TooMany_NoName ?k_TooMany_TooMany ?k_TooMany_FloorError ?k_TooMany_ValueError ?xi_TooMany ?fn_TooMany ?t_TooMany_most ?f_TooMany_most ?kp_NoName ?k_NoName_NoSlope ?k_NoName_NoTable ?k_NoName_NoFloor ?k_NoName_NoText ?k_NoName_NoRow ?k_NoName_NoName ?k_NoName_TooMany ?k_NoName_FloorError ?k_NoName_ValueError ?xi_NoName ?fn_NoName ?t_NoName_name ?f_NoName_name ?kp_NoRow ?k_NoRow_NoSlope ?k_NoRow_NoTable ?k_NoRow_NoFloor ?k_NoRow_NoText ?k_NoRow_NoRow ?k_NoRow_NoName ?k_NoRow_TooMany ?k_NoRow_FloorError ?k_NoRow_ValueError ?x_NoRow ⟨?ei_NoText0,?ei_NoText1,?ei_NoText2,?ei_NoText3,?ei_NoText4,?ei_NoText5,?ei_NoText6,?ei_NoText7⟩ ⟨?ees_NoText0,?ees_NoText1,?ees_NoText2⟩ (XaA (fun _ _ _ _ _ _ us hl=>match us,hl with | [_,_],_=>rfl) ?ilNoText ?icNoText ?ikNoText) ⟨?ei_NoFloor0,?ei_NoFloor1,?ei_NoFloor2,?ei_NoFloor3,?ei_NoFloor4,?ei_NoFloor5,?ei_NoFloor6,?ei_NoFloor7⟩ ⟨?ees_NoFloor0,?ees_NoFloor1,?ees_NoFloor2⟩ (XaA (fun _ _ _ _ _ _ us hl=>match us,hl with | [_,_,_],_=>rfl) ?ilNoFloor ?icNoFloor ?ikNoFloor) ⟨?ei_NoTable0,?ei_NoTable1,?ei_NoTable2,?ei_NoTable3,?ei_NoTable4,?ei_NoTable5,?ei_NoTable6,?ei_NoTable7⟩ ⟨?ei_NoSlope0,?ei_NoSlope1,?ei_NoSlope2,?ei_NoSlope3,?ei_NoSlope4,?ei_NoSlope5,?ei_NoSlope6,?ei_NoSlope7⟩ ⟨?ei_TooMany0,?ei_TooMany1,?ei_TooMany2,?ei_TooMany3,?ei_TooMany4,?ei_TooMany5,?ei_TooMany6,?ei_TooMany7⟩ ⟨?ees_TooMany0,?ees_TooMany1,?ees_TooMany2⟩ (XaA (fun _ _ _ _ _ _ us hl=>match us,hl with | [_,_],_=>rfl) ?ilTooMany ?icTooMany ?ikTooMany) ⟨?ei_NoName0,?ei_NoName1,?ei_NoName2,?ei_NoName3,?ei_NoName4,?ei_NoName5,?ei_NoName6,?ei_NoName7⟩ ⟨?ees_NoName0,?ees_NoName1,?ees_NoName2⟩ (XaA (fun _ _ _ _ _ _ us hl=>match us,hl with | [_,_],_=>rfl) ?ilNoName ?icNoName ?ikNoName) ⟨?ei_NoRow0,?ei_NoRow1,?ei_NoRow2,?ei_NoRow3,?ei_NoRow4,?ei_NoRow5,?ei_NoRow6,?ei_NoRow7⟩⟩
   (case n_NoText=>k_is);(case n_NoFloor=>k_is);(case n_NoTable=>k_is);(case n_NoSlope=>k_is);(case n_TooMany=>k_is);(case n_NoName=>k_is);(case n_NoRow=>k_is);(case n_FloorError=>k_is);(case n_init_NoText=>k_is);(case n_init_NoFloor=>k_is);(case n_init_TooMany=>k_is);(case n_init_NoName=>k_is)
   (case ilNoText=>k_is);(case icNoText=>k_is);(case ikNoText=>k_is)
   (case ilNoFloor=>k_is);(case icNoFloor=>k_is);(case ikNoFloor=>k_is)
   (case ilTooMany=>k_is);(case icTooMany=>k_is);(case ikTooMany=>k_is)
   (case ilNoName=>k_is);(case icNoName=>k_is);(case ikNoName=>k_is)
   (case kp_NoText=>first | rfl | k_is | kernel_rfl);(case k_NoText_NoSlope=>first | rfl | k_is | kernel_rfl);(case k_NoText_NoTable=>first | rfl | k_is | kernel_rfl);(case k_NoText_NoFloor=>first | rfl | k_is | kernel_rfl);(case k_NoText_NoText=>first | rfl | k_is | kernel_rfl);(case k_NoText_NoRow=>first | rfl | k_is | kernel_rfl);(case k_NoText_NoName=>first | rfl | k_is | kernel_rfl);(case k_NoText_TooMany=>first | rfl | k_is | kernel_rfl);(case k_NoText_FloorError=>first | rfl | k_is | kernel_rfl);(case k_NoText_ValueError=>first | rfl | k_is | kernel_rfl);(case xi_NoText=>first | rfl | k_is | kernel_rfl);(case fn_NoText=>first | rfl | k_is | kernel_rfl);(case t_NoText_row=>first | rfl | k_is | kernel_rfl);(case f_NoText_row=>first | rfl | k_is | kernel_rfl);(case kp_NoFloor=>first | rfl | k_is | kernel_rfl);(case k_NoFloor_NoSlope=>first | rfl | k_is | kernel_rfl);(case k_NoFloor_NoTable=>first | rfl | k_is | kernel_rfl);(case k_NoFloor_NoFloor=>first | rfl | k_is | kernel_rfl);(case k_NoFloor_NoText=>first | rfl | k_is | kernel_rfl);(case k_NoFloor_NoRow=>first | rfl | k_is | kernel_rfl);(case k_NoFloor_NoName=>first | rfl | k_is | kernel_rfl);(case k_NoFloor_TooMany=>first | rfl | k_is | kernel_rfl);(case k_NoFloor_FloorError=>first | rfl | k_is | kernel_rfl);(case k_NoFloor_ValueError=>first | rfl | k_is | kernel_rfl);(case xi_NoFloor=>first | rfl | k_is | kernel_rfl);(case fn_NoFloor=>first | rfl | k_is | kernel_rfl);(case t_NoFloor_word=>first | rfl | k_is | kernel_rfl);(case t_NoFloor_at=>first | rfl | k_is | kernel_rfl);(case f_NoFloor_word=>first | rfl | k_is | kernel_rfl);(case f_NoFloor_at=>first | rfl | k_is | kernel_rfl);(case kp_NoTable=>first | rfl | k_is | kernel_rfl);(case k_NoTable_NoSlope=>first | rfl | k_is | kernel_rfl);(case k_NoTable_NoTable=>first | rfl | k_is | kernel_rfl);(case k_NoTable_NoFloor=>first | rfl | k_is | kernel_rfl);(case k_NoTable_NoText=>first | rfl | k_is | kernel_rfl);(case k_NoTable_NoRow=>first | rfl | k_is | kernel_rfl);(case k_NoTable_NoName=>first | rfl | k_is | kernel_rfl);(case k_NoTable_TooMany=>first | rfl | k_is | kernel_rfl);(case k_NoTable_FloorError=>first | rfl | k_is | kernel_rfl);(case k_NoTable_ValueError=>first | rfl | k_is | kernel_rfl);(case x_NoTable=>first | rfl | k_is | kernel_rfl);(case kp_NoSlope=>first | rfl | k_is | kernel_rfl);(case k_NoSlope_NoSlope=>first | rfl | k_is | kernel_rfl);(case k_NoSlope_NoTable=>first | rfl | k_is | kernel_rfl);(case k_NoSlope_NoFloor=>first | rfl | k_is | kernel_rfl);(case k_NoSlope_NoText=>first | rfl | k_is | kernel_rfl);(case k_NoSlope_NoRow=>first | rfl | k_is | kernel_rfl);(case k_NoSlope_NoName=>first | rfl | k_is | kernel_rfl);(case k_NoSlope_TooMany=>first | rfl | k_is | kernel_rfl);(case k_NoSlope_FloorError=>first | rfl | k_is | kernel_rfl);(case k_NoSlope_ValueError=>first | rfl | k_is | kernel_rfl);(case x_NoSlope=>first | rfl | k_is | kernel_rfl);(case kp_TooMany=>first | rfl | k_is | kernel_rfl);(case k_TooMany_NoSlope=>first | rfl | k_is | kernel_rfl);(case k_TooMany_NoTable=>first | rfl | k_is | kernel_rfl);(case k_TooMany_NoFloor=>first | rfl | k_is | kernel_rfl);(case k_TooMany_NoText=>first | rfl | k_is | kernel_rfl);(case k_TooMany_NoRow=>first | rfl | k_is | kernel_rfl);(case k_TooMany_NoName=>first | rfl | k_is | kernel_rfl);(case k_TooMany_TooMany=>first | rfl | k_is | kernel_rfl);(case k_TooMany_FloorError=>first | rfl | k_is | kernel_rfl);(case k_TooMany_ValueError=>first | rfl | k_is | kernel_rfl);(case xi_TooMany=>first | rfl | k_is | kernel_rfl);(case fn_TooMany=>first | rfl | k_is | kernel_rfl);(case t_TooMany_most=>first | rfl | k_is | kernel_rfl);(case f_TooMany_most=>first | rfl | k_is | kernel_rfl);(case kp_NoName=>first | rfl | k_is | kernel_rfl);(case k_NoName_NoSlope=>first | rfl | k_is | kernel_rfl);(case k_NoName_NoTable=>first | rfl | k_is | kernel_rfl);(case k_NoName_NoFloor=>first | rfl | k_is | kernel_rfl);(case k_NoName_NoText=>first | rfl | k_is | kernel_rfl);(case k_NoName_NoRow=>first | rfl | k_is | kernel_rfl);(case k_NoName_NoName=>first | rfl | k_is | kernel_rfl);(case k_NoName_TooMany=>first | rfl | k_is | kernel_rfl);(case k_NoName_FloorError=>first | rfl | k_is | kernel_rfl);(case k_NoName_ValueError=>first | rfl | k_is | kernel_rfl);(case xi_NoName=>first | rfl | k_is | kernel_rfl);(case fn_NoName=>first | rfl | k_is | kernel_rfl);(case t_NoName_name=>first | rfl | k_is | kernel_rfl);(case f_NoName_name=>first | rfl | k_is | kernel_rfl);(case kp_NoRow=>first | rfl | k_is | kernel_rfl);(case k_NoRow_NoSlope=>first | rfl | k_is | kernel_rfl);(case k_NoRow_NoTable=>first | rfl | k_is | kernel_rfl);(case k_NoRow_NoFloor=>first | rfl | k_is | kernel_rfl);(case k_NoRow_NoText=>first | rfl | k_is | kernel_rfl);(case k_NoRow_NoRow=>first | rfl | k_is | kernel_rfl);(case k_NoRow_NoName=>first | rfl | k_is | kernel_rfl);(case k_NoRow_TooMany=>first | rfl | k_is | kernel_rfl);(case k_NoRow_FloorError=>first | rfl | k_is | kernel_rfl);(case k_NoRow_ValueError=>first | rfl | k_is | kernel_rfl);(case x_NoRow=>first | rfl | k_is | kernel_rfl);(case ei_NoText0=>first | rfl | k_is | kernel_rfl);(case ei_NoText1=>first | rfl | k_is | kernel_rfl);(case ei_NoText2=>first | rfl | k_is | kernel_rfl);(case ei_NoText3=>first | rfl | k_is | kernel_rfl);(case ei_NoText4=>first | rfl | k_is | kernel_rfl);(case ei_NoText5=>first | rfl | k_is | kernel_rfl);(case ei_NoText6=>first | rfl | k_is | kernel_rfl);(case ei_NoText7=>first | rfl | k_is | kernel_rfl);(case ees_NoText0=>first | rfl | k_is | kernel_rfl);(case ees_NoText1=>first | rfl | k_is | kernel_rfl);(case ees_NoText2=>first | rfl | k_is | kernel_rfl);(case ei_NoFloor0=>first | rfl | k_is | kernel_rfl);(case ei_NoFloor1=>first | rfl | k_is | kernel_rfl);(case ei_NoFloor2=>first | rfl | k_is | kernel_rfl);(case ei_NoFloor3=>first | rfl | k_is | kernel_rfl);(case ei_NoFloor4=>first | rfl | k_is | kernel_rfl);(case ei_NoFloor5=>first | rfl | k_is | kernel_rfl);(case ei_NoFloor6=>first | rfl | k_is | kernel_rfl);(case ei_NoFloor7=>first | rfl | k_is | kernel_rfl);(case ees_NoFloor0=>first | rfl | k_is | kernel_rfl);(case ees_NoFloor1=>first | rfl | k_is | kernel_rfl);(case ees_NoFloor2=>first | rfl | k_is | kernel_rfl);(case ei_NoTable0=>first | rfl | k_is | kernel_rfl);(case ei_NoTable1=>first | rfl | k_is | kernel_rfl);(case ei_NoTable2=>first | rfl | k_is | kernel_rfl);(case ei_NoTable3=>first | rfl | k_is | kernel_rfl);(case ei_NoTable4=>first | rfl | k_is | kernel_rfl);(case ei_NoTable5=>first | rfl | k_is | kernel_rfl);(case ei_NoTable6=>first | rfl | k_is | kernel_rfl);(case ei_NoTable7=>first | rfl | k_is | kernel_rfl);(case ei_NoSlope0=>first | rfl | k_is | kernel_rfl);(case ei_NoSlope1=>first | rfl | k_is | kernel_rfl);(case ei_NoSlope2=>first | rfl | k_is | kernel_rfl);(case ei_NoSlope3=>first | rfl | k_is | kernel_rfl);(case ei_NoSlope4=>first | rfl | k_is | kernel_rfl);(case ei_NoSlope5=>first | rfl | k_is | kernel_rfl);(case ei_NoSlope6=>first | rfl | k_is | kernel_rfl);(case ei_NoSlope7=>first | rfl | k_is | kernel_rfl);(case ei_TooMany0=>first | rfl | k_is | kernel_rfl);(case ei_TooMany1=>first | rfl | k_is | kernel_rfl);(case ei_TooMany2=>first | rfl | k_is | kernel_rfl);(case ei_TooMany3=>first | rfl | k_is | kernel_rfl);(case ei_TooMany4=>first | rfl | k_is | kernel_rfl);(case ei_TooMany5=>first | rfl | k_is | kernel_rfl);(case ei_TooMany6=>first | rfl | k_is | kernel_rfl);(case ei_TooMany7=>first | rfl | k_is | kernel_rfl);(case ees_TooMany0=>first | rfl | k_is | kernel_rfl);(case ees_TooMany1=>first | rfl | k_is | kernel_rfl);(case ees_TooMany2=>first | rfl | k_is | kernel_rfl);(case ei_NoName0=>first | rfl | k_is | kernel_rfl);(case ei_NoName1=>first | rfl | k_is | kernel_rfl);(case ei_NoName2=>first | rfl | k_is | kernel_rfl);(case ei_NoName3=>first | rfl | k_is | kernel_rfl);(case ei_NoName4=>first | rfl | k_is | kernel_rfl);(case ei_NoName5=>first | rfl | k_is | kernel_rfl);(case ei_NoName6=>first | rfl | k_is | kernel_rfl);(case ei_NoName7=>first | rfl | k_is | kernel_rfl);(case ees_NoName0=>first | rfl | k_is | kernel_rfl);(case ees_NoName1=>first | rfl | k_is | kernel_rfl);(case ees_NoName2=>first | rfl | k_is | kernel_rfl);(case ei_NoRow0=>first | rfl | k_is | kernel_rfl);(case ei_NoRow1=>first | rfl | k_is | kernel_rfl);(case ei_NoRow2=>first | rfl | k_is | kernel_rfl);(case ei_NoRow3=>first | rfl | k_is | kernel_rfl);(case ei_NoRow4=>first | rfl | k_is | kernel_rfl);(case ei_NoRow5=>first | rfl | k_is | kernel_rfl);(case ei_NoRow6=>first | rfl | k_is | kernel_rfl);(case ei_NoRow7=>first | rfl | k_is | kernel_rfl)
  obtain ⟨_,_,_,_,_,_,_,_,_,_,_,_,Z⟩:=Z
  have D__law_feed:∃ f fd,Def (L2.KOf KX) mg "_law_feed" My.Yal ["_law_script","_law_k"] f fd:=by
   dsimp only [L2.KOf];refine' Yat KX G (fun _ _ _ _ _ _ us hl=>match us,hl with | [_,_],_=>rfl) ?a ?l ?c ?k
   (case a=>k_is);(case l=>k_is);(case c=>k_is);(case k=>k_is)
  obtain ⟨_,_,D__law_feed⟩:=D__law_feed
  have D__law_sorts:∃ f fd,Def (L2.KOf KX) mg "_law_sorts" My.zaj ["_law_e"] f fd:=by
   dsimp only [L2.KOf];refine' Yat KX G (fun _ _ _ _ _ _ us hl=>match us,hl with | [_],_=>rfl) ?a ?l ?c ?k
   (case a=>k_is);(case l=>k_is);(case c=>k_is);(case k=>k_is)
  obtain ⟨_,_,D__law_sorts⟩:=D__law_sorts
  have D__law_fields:∃ f fd,Def (L2.KOf KX) mg "_law_fields" My.yah ["_law_e"] f fd:=by
   dsimp only [L2.KOf];refine' Yat KX G (fun _ _ _ _ _ _ us hl=>match us,hl with | [_],_=>rfl) ?a ?l ?c ?k
   (case a=>k_is);(case l=>k_is);(case c=>k_is);(case k=>k_is)
  obtain ⟨_,_,D__law_fields⟩:=D__law_fields
  have D__law_right:∃ f fd,Def (L2.KOf KX) mg "_law_right" My.Zaj ["_law_k","_law_made","_law_due"] f fd:=by
   dsimp only [L2.KOf];refine' Yat KX G (fun _ _ _ _ _ _ us hl=>match us,hl with | [_,_,_],_=>rfl) ?a ?l ?c ?k
   (case a=>k_is);(case l=>k_is);(case c=>k_is);(case k=>k_is)
  obtain ⟨_,_,D__law_right⟩:=D__law_right
  have D__law_take:∃ f fd,Def (L2.KOf KX) mg "_law_take" My.zai ["_law_feed_here","_law_many"] f fd:=by
   dsimp only [L2.KOf];refine' Yat KX G (fun _ _ _ _ _ _ us hl=>match us,hl with | [_,_],_=>rfl) ?a ?l ?c ?k
   (case a=>k_is);(case l=>k_is);(case c=>k_is);(case k=>k_is)
  obtain ⟨_,_,D__law_take⟩:=D__law_take
  have D__law_thing:∃ f fd,Def (L2.KOf KX) mg "_law_thing" My.Yaj ["_law_feed_here","_law_which"] f fd:=by
   dsimp only [L2.KOf];refine' Yat KX G (fun _ _ _ _ _ _ us hl=>match us,hl with | [_,_],_=>rfl) ?a ?l ?c ?k
   (case a=>k_is);(case l=>k_is);(case c=>k_is);(case k=>k_is)
  obtain ⟨_,_,D__law_thing⟩:=D__law_thing
  have D__law_refusal:∃ f fd,Def (L2.KOf KX) mg "_law_refusal" My.Zag ["_law_k","_law_word","_law_number"] f fd:=by
   dsimp only [L2.KOf];refine' Yat KX G (fun _ _ _ _ _ _ us hl=>match us,hl with | [_,_,_],_=>rfl) ?a ?l ?c ?k
   (case a=>k_is);(case l=>k_is);(case c=>k_is);(case k=>k_is)
  obtain ⟨_,_,D__law_refusal⟩:=D__law_refusal
  have D_law:∃ f fd,Def (L2.KOf KX) mg "law" My.za4 ["_law_script"] f fd:=by
   dsimp only [L2.KOf];refine' Yat KX G (fun _ _ _ _ _ _ us hl=>match us,hl with | [_],_=>rfl) ?a ?l ?c ?k
   (case a=>k_is);(case l=>k_is);(case c=>k_is);(case k=>k_is)
  obtain ⟨_,_,D_law⟩:=D_law
  have e0:=hmg.symm.trans D_law.m
  cases e0
  exact ⟨_,D_law.bindsTo,fun base _ _=>L4.law_of (My.all_ok T Z  D__law_feed D__law_sorts D__law_fields D__law_right D__law_take D__law_thing D__law_refusal D_law) fun ns hn=>let ⟨_,st,e,h⟩:=My.law_true ns hn;⟨st,h ▸ e⟩⟩
 case S=>exact fun K H a ns hl hO hS=>⟨a,ns,rfl,hS.script hO,hl,fun _=>rfl⟩
 case C=>exact fun _ _ _ _ z=>z
